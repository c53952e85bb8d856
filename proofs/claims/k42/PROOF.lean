import PyProof.Rows.All
import Wide.All
import OpenK.AllK
import Wide.FinOn
import Lean
import PyProof.EqAt
import PyProof.EqKinds
import PyProof.TupleCall
import PySem.Challenge.RW_twinstride_k42_all_least_remedies
set_option Elab.async false
set_option linter.all false
set_option maxRecDepth 100000
set_option maxHeartbeats 4000000
set_option compiler.extract_closed false
set_option Elab.async false
set_option linter.all false
set_option maxRecDepth 100000
open Array renaming length_toList->Vp,replicate->Wi,toList->WO,getElem?_eq_getElem->Yp,getElem?_eq_none->YM,forIn_toList->Zd,append_assoc->Ze
open Bool renaming beq_eq_decide_eq->UT,false_eq_true->UW,and_eq_true->Vw,or_false->Xe,true_or->Xo,and_false->Xv,false_ne_true->XG,or_true->XR,eq_iff_iff->X9,not_false->Yo,not_true->YD,false_or->YE,and_true->YF
open Decidable renaming byContradiction->Vn
open False renaming elim->Vv
open ForInStep renaming yield->Xd
open Function renaming comp_def->YZ
open Int renaming toNat_natCast->UL,emod_lt_of_pos->Vx,emod_nonneg->VP,toNat->VY,le_refl->Xy,mul_le_mul_of_nonneg_left->X8,eq_ofNat_of_zero_le->YS,toNat_of_nonneg->Zj
open List renaming getElem?_cons_zero->dt,getElem?_cons_succ->Ua,length_map->Uc,getElem?_eq_getElem->Ud,map_cons->Ue,mem_cons_of_mem->Uj,mem_cons->Uk,mem_map->Ul,getElem?_map->Uo,size_toArray->Uq,map_map->Us,mem_filter->Ut,range->Uu,nil_append->Uv,mem_cons_self->Ux,mem_append->Uz,set->UA,length_cons->UB,filter_cons->UC,cons_append->UD,map_congr_left->UE,length_append->UG,replicate->UI,mem_range->UJ,mem_map_of_mem->UK,length_filter_le->UM,getElem?_eq_some_iff->UQ,mem_append_right->UR,map_nil->UX,lookup->UZ,append_nil->U9,mem_of_getElem?->Vk,mem_append_left->Vl,filter_map->Vm,getElem?_append_right->Vs,getElem?_eq_none->Vu,toArray->Vy,nodup_cons->VC,foldl_cons->VD,map_id->VE,getD_eq_getElem?_getD->VG,length_singleton->VH,drop_eq_getElem_cons->VJ,length_set->VL,length->VO,replicate_succ->VR,map_append->VW,find?_cons->VX,filter_congr->V1,range_eq_range'->V4,not_mem_nil->V6,lookup_cons->V7,getElem_mem->V8,getElem?_zip_eq_some->We,getElem?_append_left->Wf,filterMap_cons->Wg,of_mem_zip->Wj,pairwise_cons->Wl,range'->Wn,nodup_append->Ws,filter_eq_nil_iff->Wt,drop_eq_nil_of_le->Wu,any_eq_true->WB,any_cons->WE,replicate_succ'->WG,length_nil->WK,getElem_of_mem->WM,filter_eq_self->WN,idxOf_lt_length_of_mem->WQ,mem_singleton->WW,findIdx?_cons->WX,filter_append->WY,pairwise_iff_getElem->W5,getElem?_eq_none_iff->W6,length_range->Xa,ext_getElem?->Xb,zipIdx_cons->Xh,nodup_range->Xi,length_take->Xj,isEmpty_map->Xk,ext_getElem->Xl,filter_sublist->Xz,sum_cons->XC,findIdx?_eq_some_iff_getElem->XI,reverse_cons->XJ,pairwise_map->XM,getElem?_set->XN,getElem?_nil->XO,any_eq_false->XQ,getElem_map->XY,length_zip->X7,take_succ->Yk,perm_ext_iff_of_nodup->Yl,getElem?_replicate->YL,take_of_length_le->YQ,getElem?_set_self->YR,dropLast_eq_take->YX,countP_mono_left->YY,mem_iff_getElem->Y3,getElem?_zipIdx->Y4,getElem?_set_ne->Y5,getElem?_range->Za,zip_cons_cons->Zh,mem_filterMap->Zi
open List.Pairwise renaming nil->Ym,map->Yn
open List.Perm renaming mem_iff->WR,refl->Zb,cons->Zc
open List.cons renaming injEq->Vi
open Nat renaming le_refl->Um,lt_of_lt_of_le->Ur,le_trans->Uw,ne_of_lt->Uy,pow_le_pow_right->UP,lt_irrefl->U8,zero_le->Vg,testBit_lt_two_pow->Vt,le_add_right->VF,lt_or_ge->VV,le_succ->V5,ne_of_gt->Wc,le_of_lt->Wd,zero_add->Wx,lt_succ_of_lt->Wz,le_of_not_lt->WD,not_lt->Xr,eq_of_testBit_eq->Xx,le_of_succ_le->XW,two_pow_pos->Ye,testBit_and->Yf,not_lt_zero->Yg,testBit_or->Yw,min_self->YU,lt_trans->YV,le_of_eq->YW
open Ne renaming symm->UO
open Option renaming join_some->US,map_eq_some_iff->Vo,map_some->Vq,isSome_iff_exists->VN,isSome_map->XF
open Option.some renaming inj->Vh
open PyProof.Rows renaming callWith_type1->UU,slot_tuple_getitem->Ve,envOfC->Ww,sortedAll_old->XE,sortedAll_at->XH,IntsAre->X6
open PySem renaming mem_of_lookup->Vd,Within->YG,call->Y6,list_append->Zf
open PySem.Around renaming under_plainId->Xs
open PySem.Builtin renaming bitAnd->V0,bitOr->Xu
open PySem.Builtin.Dict renaming updateFrom->XU,showsAll->X4
open PySem.Builtin.Int renaming intBits->Vz
open PySem.Builtin.Slice renaming slicePlaces->WC,sliceAdjust->XD
open PySem.Builtin.SmallTypes renaming nextOf->Vf,ownedTupleIsFree->VU,ownedTupleHandOut->WV
open PySem.Builtin.Tuple renaming tupleTooMany->XA,tupleItemsOf->XB
open PySem.Calls renaming spliced_cons->VS,callWith_builtin->VT,evalArgs_plain->V2,spliced_nil->Wo,Name_function_global->Yd
open PySem.Expr renaming Call->YK
open PySem.F renaming plainAttrs_list->VQ,slot_dict_keyiterator_next->VZ,slot_tuple_iterator_next->Wa,slot_tuple_index->Wb,slot_tuple_mul->Wm,slot_dict_pop->Wq,slot_list_getattribute->Wv,slot_list_pop->WU,args_tuple_mul_2->W2,args_tuple_add_2->W3,entry_tuple_mul->W8,entry_tuple_add->W9,slot_tuple_add->Xf,slot_zip_getattribute->Xq,slot_list_append->Xw,slot_NoneType_hash->X2,args_tuple_index_2->X3,entry_tuple_index->X5,type_tuple_index->Yb,args_dict_keyiterator_next_1->Yc,plainAttrs_dict->Yh,entry_dict_keyiterator_next->Yi,args_dict_pop_3->Yj,entry_dict_pop->Yu,args_tuple_iterator_next_1->Yv,type_list_pop->Yz,type_dict_pop->YA,slot_int_rmul->YB,entry_tuple_iterator_next->YC,slot_list_lt->YJ,slot_list_reverse->YO,slot_list_clear->Y2,slot_enumerate_next->Zg
open PySem.Heap renaming get?_push_of_some->Ub,lt_size->Ug,get?_push_size->Ui,size_push->Vc,SameBut->Vr,get?_update_self->WA,ExtBut->W7,get?_update_other->Xn
open PySem.Heap.SameBut renaming update->U7
open PySem.MeetsSeq.EqGives renaming int->Y1
open PySem.NameKind renaming cell->Xt
open PySem.Obj renaming mapSeq->UY,data_mapFields->W0,isFreed_of_fields->Y0
open PySem.Paired renaming length->VM
open PySem.SeqAt renaming EqAt->Xm,RcNeAt->YH,RcAt->Y9
open PySem.SeqAt.EqAt renaming str_none->Yq,none_str->Yr,none_int->Ys,int_none->Yt,str_int->Yx,int_str->Yy
open PySem.SeqAt.RcAt renaming lists_lengths->XX,tuples->YI,lists->YN
open PySem.Str renaming ofString->WT,empty->X1
open PySem.Value renaming ref->UH,none->Vj,type->WS,str->XS,int->XT,bool->Y8
open PySem.W renaming Frag->Uh,findIn->Va,mg_none_of->Vb,nsIn->VA,keepIn->VB,emptyDict->V9,kia_one->Wh,plainGet->WH,fnOf->WI,cellsFrom_some->WJ,hasDictIn->WL,mg_of->WZ,instObj->W4,plainOver->Xg,makesIn->Xp,codeIn->XZ,callWith_K->X0,hideAll->Ya,plainGet_of->YT,excIn->Y7
open String renaming reduceBEq->Xc
open Sum renaming inr->UN,inl->VI
open True renaming intro->V3
open Bool renaming false->cx
open Option renaming some->ap,none->ca
open PyProof.Rows renaming IntsAre->s9,seqObj->wh,AllBare->UF,listUpdate_at->UV,subscriptTail_builtinR->aaM,listItems_at->aaO
open PySem renaming wpAny_bind->ax,Value->ay,Shared->cb,Addr->cp,wpAny_pure->cT,starEach->ee,wpAny->eg,model->ez,mainGlobals->eC,Program->eH,bootBuiltins->eS,Expr->eT,wpAny_loadPart'->eX,eval->ff,Around->fv,World->fx,FuncData->fy,backTo->f',Heap->g3,binaryOp->g4,compareOp->hG,wpAny_mono->hW,wpAny_holding->j0,attributeBase->kc,wpAny_field->kl,wpAny_call_entry->kr,cLine->kB,sizeLine_eq->kL,wpAny_setField_rec->k6,wpAny_Call_Name_kw->k',assignEach->mm,call_meets->mo,Stmt->mu,sysModules->n7,wpAny_truthy_bool->ol,cellsFrom->ot,Keyword->o4,wpAny_passesOwn->pa,backToKw->pb,wpAny_attempt->pt,swapsWith->py,rawInt->p4,wpAny_newObj_type->p6,foldedSetIterable->p7,Scope->qa,holding->q0,codeAny_mono->rc,wpAny_execs_nil->re,wpAny_seqItems->vr,wpAny_pyIter_list->vw,wpAny_newTuple->vx,pyNext->w6,wpAny_isInstance->x9,typeLookup->yl,wpAny_specialOf->y1,codeAny->y2,pushCells->y',getMethod->B',wpAny_rule->F',tupleKind_room_in1->G',getattributeRaised->J',wpAny_of_eq->K',standAt->L',sliceBounds->S',relabel->Uf,checkBuiltinCall->U_,valueAt->U',PlainAttrs->V_,Paired->V',pushCells_keeps->Wp,letOwnedTupleGo->WF,codeAny_builtin->WP,isSubtype_stop->W1,Operator->W_,NameKind->W',IsPart->XV,getItem->X_,wpAny_standAt->Y_,plainId_quiet->Y',checkTypeCall->ZB,behindInMarks->Z_,typeOf->Z',stored->aac,pyIter->aad,wpAny_typeOf->aae,getAttr?->aaf,entryFor->aag,callerA->aah,callWith->aai,wpAny_pyIter_zip->aaj,wpAny_execs_cons->aak,tupleKind->aal,noFill_tuple_add->aam,assign->aan,DictEntry->aao,wpAny_typeNameOfWhole_keyiter->aap,Meets->aaq,IsZip->aar,BindsTo->aas,wpAny_setField->aat,wpAny_call->aau,firstArgMember->aav,closureFor->aaw,builtinsNs->aax,bindArgs->aay,argsOk->aaA,Result->aaB,wpAny_newList->aaC,wpAny_handled->aaD,wpAny_comprehension_free->aaE,seq_tuple_add->aaF,seqIndex?->aaH,PassesOwn->aaI,wpAny_pyNext_list_item->aaK,wpAny_Call_method_late->aaL,seqIndex_neg->aaN,concat_meets->aaR,callType_new->aaS,wpAny_pyNext_list_end->aaT,wpAny_isOneOf_keyiter->aaU,wpAny_loadName_local->aaV
abbrev aa9:=List (List Int)
abbrev aa_:=List Int
abbrev aa':=List PySem.Str
abbrev aba:=List ay
abbrev abb:=List cp
abbrev abc:=List eT
abbrev abd:=List mu
abbrev abe:=ay->cb->Prop
abbrev abf:=List (cp×PySem.Obj)
abbrev abg:=PySem.Str->Option ay
abbrev abh:=Array ay
set_option hygiene false in
local macro_rules|`(tactic|ac_rfl)=>`(tactic|(intro _ _ _ _ _ _;first|exact us1 λ_=>rfl|exact us2 λ_ _=>rfl|exact us3 λ_ _ _=>rfl|exact us4 λ_ _ _ _=>rfl|exact us5 λ_ _ _ _ _=>rfl|exact us6 λ_ _ _ _ _ _=>rfl|exact us7 λ_ _ _ _ _ _ _=>rfl|exact us8 λ_ _ _ _ _ _ _ _=>rfl))
set_option hygiene false in
local macro_rules|`(tactic|and_intros)=>`(tactic|(first|exact .inl rfl|exact .inr rfl|assumption))
local macro_rules|`(tactic|lia)=>`(tactic|first|(with_reducible first|assumption|exact Nat.le_add_right _ _|exact Nat.le_trans (by assumption) (by decide +kernel)|exact Nat.lt_of_le_of_lt (by assumption) (by decide +kernel)|exact Int.le_of_lt (by assumption))|decide +kernel|lia -abstractProof)
noncomputable section
open List renaming toArray->Tw
local macro_rules|`(#[$xs,*])=>`(⟨$xs,*⟩)
namespace _2
open PySem PySem.Spec PyProof.Rows
variable{a b f:cp}{A:fv}{X:Cx}{e:eT}{h:g3}{H:Hp}{ch:abb}{N:aa'}{i:Nat}{P:eH}{r:R2}{m x:Str}{K:Uh}{w:fx}
abbrev aC:=Sum Int Str
noncomputable def nB:aC->ay->Bool
 |.inl k,v=>Value.isInt k v
 |.inr x,v=>Value.isStrOf x v
noncomputable def S_(w:fx):aC->Int
 |.inl k=>hashInt k
 |.inr x=>hashStr w x
theorem aY:∀{k:aC}{v:ay},nB k v=true->(∃i t,k=VI i/\v=XT i t)\/(∃x t,k=UN x/\v=XS x t)
 |.inl i,v,h=>by
  obtain⟨t,e⟩:=Value.isInt_shape h;exact .inl #[i,t,rfl,e]
 |.inr x,v,h=>by
  obtain⟨t,e⟩:=Value.isStrOf_shape h;exact .inr #[x,t,rfl,e]
theorem DF(i:Int)(t:Tok):nB (.inl i) (.int i t)=true:=by simp[nB,Value.isInt]
theorem CH(x:Str)(t:Tok):nB (.inr x) (.str x t)=true:=by simp[nB,Value.isStrOf]
theorem OZ(a b:Int):decide ((VI a:aC)=VI b)=(a==b):=by
 by_cases e:a=b
 .subst e;simp
 simp_all
theorem P7(a b:Str):decide ((UN a:aC)=UN b)=decide (a=b):=by
 simp_all
theorem Qn(a:Int)(b:Str):decide ((VI a:aC)=UN b)=false:=decide_eq_false (λq=>nomatch q)
theorem Oc(a:Str)(b:Int):decide ((UN a:aC)=VI b)=false:=decide_eq_false (λq=>nomatch q)
def aT(prog:eH)(w:fx):PySem.KeyKind prog w aC where
 is:=nB
 hash:=S_ w
 inj:=λv a b q l=>by
  rcases aY q with⟨i,t,rfl,rfl⟩|⟨x,t,rfl,rfl⟩
  .rcases aY l with⟨j,u,rfl,e⟩|⟨y,u,rfl,e⟩
   .injection e with e1 _;rw[e1]
   .exact nomatch e
  .rcases aY l with⟨j,u,rfl,e⟩|⟨y,u,rfl,e⟩
   .exact nomatch e
   .injection e with e1 _;rw[e1]
 byValue:=λk v h=>by
  rcases aY h with⟨i,t,rfl,rfl⟩|⟨x,t,rfl,rfl⟩<;>rfl
 pyHash:=λg h=>by
  rcases aY g with⟨i,t,rfl,rfl⟩|⟨x,t,rfl,rfl⟩
  .exact wpAny_pyHash_int h
  .exact wpAny_pyHash_str h
 eqBool:=λn g h=>by
  rcases aY n with⟨i,t,rfl,rfl⟩|⟨x,t,rfl,rfl⟩
  .rcases aY g with⟨j,u,rfl,rfl⟩|⟨y,u,rfl,rfl⟩
   .rw[OZ]at h;exact wpAny_eqBool_int h
   .rw[Qn]at h;exact Yy i t y u _ _ _ _ h
  .rcases aY g with⟨j,u,rfl,rfl⟩|⟨y,u,rfl,rfl⟩
   .rw[Oc]at h;exact Yx x t j u _ _ _ _ h
   .rw[P7]at h;exact wpAny_eqBool_str h
 «strs»:=λk x t v h=>by
  rcases aY h with⟨i,u,rfl,e⟩|⟨y,u,rfl,e⟩
  .exact nomatch e
  .injection e with e1 _
   subst e1;cases v<;>rfl
theorem vS(g:eH)(w:fx)(i:Int)(t:Tok):(aT g w).is (.inl i) (.int i t)=true:=DF i t
theorem w8(g:eH)(w:fx)(x:Str)(t:Tok):(aT g w).is (.inr x) (.str x t)=true:=CH x t
inductive V where
 |non|bl (b:Bool)|int (i:Int)|str (x:Str)|byt (b:Array UInt8)|flt (b:UInt64)|ref (a:cp)|ty (n:String)
 deriving DecidableEq
def RelV:V->ay->Prop
 |.non,u=>u=Vj
 |.bl b,u=>u=Y8 b
 |.int i,u=>∃t,u=XT i t
 |.str x,u=>∃t,u=XS x t
 |.byt b,u=>∃t,u=Value.bytes b t
 |.flt b,u=>∃t,u=Value.float b t
 |.ref a,u=>u=UH a
 |.ty n,u=>u=WS n
abbrev Vals:List V->List ay->Prop:=V' RelV
theorem Vals.length(r:Vals xs us):xs.length=us.length:=VM r
theorem Vals.get:∀{xs:List V}{us:aba}{i:Nat}{x:V},Vals xs us->xs[i]?=ap x->∃u,us[i]?=ap u/\RelV x u
 |_,_,_,_,.nil,e=>by simp at e
 |_,_,0,_,.cons r _,e=>by simp_all
 |_,_,i+1,x,.cons _ t,e=>by
  obtain⟨u,j,g⟩:=Vals.get t (by simpa using e)
  simp_all
theorem Vals.set{x:V}(r:RelV x u):∀{xs:List V}{us:aba}(i:Nat),Vals xs us->Vals (xs.set i x) (us.set i u)
 |_,_,_,.nil=>.nil
 |_,_,0,.cons _ t=>.cons r t
 |_,_,i+1,.cons q t=>.cons q (Vals.set r i t)
theorem Vals.append:∀{xs ys:List V}{us g:aba},Vals xs us->Vals ys g->Vals (xs++ys) (us++g):=by
 intro xs ys us g h s
 induction h with
 |nil=>exact s
 |cons r _ ih=>exact .cons r ih
theorem Vals.take:∀{xs:List V}{us:aba}(n:Nat),Vals xs us->Vals (xs.take n) (us.take n)
 |_,_,0,_=>.nil
 |_,_,_+1,.nil=>.nil
 |_,_,n+1,.cons r t=>.cons r (Vals.take n t)
theorem Vals.drop:∀{xs:List V}{us:aba}(n:Nat),Vals xs us->Vals (xs.drop n) (us.drop n)
 |_,_,0,r=>r
 |_,_,_+1,.nil=>.nil
 |_,_,n+1,.cons _ t=>Vals.drop n t
def RelO:Option V->Option ay->Prop
 |some v,ap u=>RelV v u
 |none,ca=>True
 |_,_=>False
def KV{κ:Type}:List (κ×V)->List (κ×ay)->Prop:=V' λ(p:κ×V)(q:κ×ay)=>p.1=q.1/\RelV p.2 q.2
def kV:aC->V
 |.inl i=>.int i
 |.inr x=>.str x
inductive HO where
  |lst (xs:List V)
  |tup (xs:List V)
  |dK (aa3:List (aC×V))|dT (aa3:List (List aC×V))
  |set (S:Int->Bool) (n:Nat)
  |ins (C dx:cp) (fs:List (Str×V))
  |own (x:cp)
  |xd (fs:List (Str×V))
  |met (f x:cp)
  |rng (lo hi:Int)
  |frz (o:Obj) (u:HO)
  |tbl (ps:abh)
  |ext (φ:g3->Prop)
abbrev Hp:=cp->Option HO
noncomputable def upd(H:Hp)(a:cp)(o:HO):Hp:=λb=>if b=a then ap o else H b
theorem upd_same:upd H a o a=ap o:=by unfold upd;simp_all
theorem aw(h:b≠a):upd H a o b=H b:=by unfold upd;rw[if_neg h]
theorem SB(h:H a=ap o)(h':H b=ap u)(d:o≠u):a≠b:=by
 intro e;subst e;rw[h]at h';exact d (Vh h')
theorem aX(h:H a=ap o)(h':H b=ca):a≠b:=by
 intro e;simp_all
section
variable(P:eH)(w:fx)
def ObjOk(H:Hp)(h:g3)(a:cp):HO->Prop
 |.lst xs=>xs.length<=sizeLine/\∃(aa7:aba)(n:Nat),Vals xs aa7/\h.get? a=ap { cls:=.type "list",data:=.seq aa7.toArray n }
 |.tup xs=>xs.length<=sizeLine/\∃aa7:List ay,Vals xs aa7/\∃o,h.get? a=ap o/\(o.cls=.type "tuple"/\∃n,o.data=.seq aa7.toArray n)/\o.dict=ca
 |.dK aa3=>aa3.length<=sizeLine/\(a==n7)=cx/\∃vs,KV aa3 vs/\h.DictOf (aT P w) a vs
 |.dT aa3=>aa3.length<=sizeLine/\(a==n7)=cx/\∃xs:List (List aC×cp×ay),
   V' (λ(p:List aC×V)(q:List aC×cp×ay)=>p.1=q.1/\H q.2.1=ap (.tup<|p.1.map kV)/\RelV p.2 q.2.2) aa3 xs/\
   ∃o es ep,h.get? a=ap o/\o.ExactDict/\o.data=.dict es ep/\es.toList=xs.map (entryOfKey<|tupleKind<|aT P w)/\(xs.map (·.1)).Nodup
 |.set S n=>h.SetOf (intKind P w) a S n
 |.ins C dx fs=>H dx=ap (.own a)/\fs.length<=1000/\dx≠a/\h.get? a=ap (W4 C dx)/\
   ∃mA,h.Ns1 dx mA/\(∀f,RelO (fs.lookup f) (mA f))/\YG mA (fs.map (·.1))
 |.own _=>∃o,h.get? a=ap o
 |.xd fs=>∃mA,h.Ns1 a mA/\∀f,RelO (fs.lookup f) (mA f)
 |.rng lo hi=>∃t u v,h.get? a=ap { cls:=.type "range",data:=.fields (Tw [.int lo t,.int hi u,.int 1 v]) }
 |.frz o u=>h.get? a=ap o/\ObjOk H h a u
 |.tbl ps=>h.get? a=ap { cls:=.none,data:=.fields ps }
 |.met f x=>h.get? a=ap (W.methodObj (.ref f)<|.ref x)
 |.ext φ=>φ h/\(∃o,h.get? a=ap o)/\∀h1 h2:g3,φ h1->(∀o,h1.get? a=ap o->h2.get? a=ap o)->φ h2
def HOk(H:Hp)(h:g3):Prop:=∀a o,H a=ap o->ObjOk P w H h a o
end
theorem ObjOk.lt(x:ObjOk P w H h a o):a<h.objs.size:=by
 cases o with
 |lst xs=>obtain⟨_,_,_,_,e⟩:=x;exact Ug e
 |tup xs=>obtain⟨_,_,_,_,e,_⟩:=x;exact Ug e
 |dK aa3=>obtain⟨_,_,_,_,o,_,_,e,_⟩:=x;exact Ug e
 |dT aa3=>obtain⟨_,_,_,_,o,_,_,e,_⟩:=x;exact Ug e
 |set S n=>obtain⟨o,_,_,_,e,_⟩:=x;exact Ug e
 |ins C dx fs=>obtain⟨_,_,_,e,_⟩:=x;exact Ug e
 |own y=>obtain⟨_,e⟩:=x;exact Ug e
 |xd fs=>obtain⟨_,⟨_,_,_,e,_⟩,_⟩:=x;exact Ug e
 |rng lo hi=>obtain⟨_,_,_,e⟩:=x;exact Ug e
 |frz ob u=>obtain⟨e,_⟩:=x;exact Ug e
 |tbl ps=>exact Ug x
 |met f y=>exact Ug x
 |ext φ=>obtain⟨_,⟨_,e⟩,_⟩:=x;exact Ug e
theorem gR:∀{j:List α}{g:List l},V' F j g->(∀a b,F a b->G a b)->V' G j g:=by
 intro j g h f
 induction h with
 |nil=>exact .nil
 |cons r _ ih=>exact .cons (f _ _ r) ih
theorem ObjOk.stay(x:ObjOk P w H h a o)(k:∀b u,(b=a\/H b=ap (.own a))->h.get? b=ap u->h'.get? b=ap u)(J:∀b,H b=ap (.own a)->H' b=ap (.own a))(L:∀b xs,H b=ap (.tup xs)->H' b=ap (.tup xs)):ObjOk P w H' h' a o:=by
 induction o with
 |lst xs=>obtain⟨z,l,n,r,e⟩:=x;exact#[z,l,n,r,k _ _ (.inl rfl) e]
 |tup xs=>obtain⟨z,l,r,g,e,c⟩:=x;exact#[z,l,r,g,k _ _ (.inl rfl) e,c]
 |dK aa3=>obtain⟨z,y,G,r,g,es,j,e,c⟩:=x;exact#[z,y,G,r,g,es,j,k _ _ (.inl rfl) e,c]
 |dT aa3=>
  obtain⟨z,y,xs,r,g,es,j,e,c⟩:=x;exact#[z,y,xs,gR r λp q z=>#[z.1,L _ _ z.2.1,z.2.2],g,es,j,k _ _ (.inl rfl) e,c]
 |set S n=>obtain⟨g,es,j,t,e,c⟩:=x;exact#[g,es,j,t,k _ _ (.inl rfl) e,c]
 |ins C dx fs=>
  obtain⟨d,z,ne,e,mA,⟨B,es,j,I,c⟩,r⟩:=x;exact#[J _ d,z,ne,k _ _ (.inl rfl) e,mA,#[B,es,j,k _ _ (.inr d) I,c],r]
 |own y=>obtain⟨g,e⟩:=x;exact#[g,k _ _ (.inl rfl) e]
 |xd fs=>obtain⟨mA,⟨B,es,j,e,c⟩,r⟩:=x;exact#[mA,#[B,es,j,k _ _ (.inl rfl) e,c],r]
 |rng lo hi=>obtain⟨t,u,v,e⟩:=x;exact#[t,u,v,k _ _ (.inl rfl) e]
 |frz g u ih=>obtain⟨e,q⟩:=x;exact#[k _ _ (.inl rfl) e,ih q]
 |tbl ps=>
  have e:h.get? a=ap { cls:=.none,data:=.fields ps }:=x;show h'.get? a=ap { cls:=.none,data:=.fields ps };exact k a _ (.inl rfl) e
 |met f y=>
  have e:h.get? a=ap (W.methodObj (.ref f)<|.ref y):=x;show h'.get? a=ap (W.methodObj (.ref f)<|.ref y);exact k a _ (.inl rfl) e
 |ext φ=>obtain⟨p,⟨o,e⟩,F⟩:=x;exact#[F _ _ p λo q=>k _ _ (.inl rfl) q,#[o,k _ _ (.inl rfl) e],F]
theorem HOk.lt(x:HOk P w H h)(e:H a=ap o):a<h.objs.size:=(x a o e).lt
theorem HOk.fresh(x:HOk P w H h)(e:h.objs.size<=a):H a=none:=by
 cases q:H a with
 |none=>rfl
 |some u=>exact absurd (Ur (x.lt q) e) (U8 _)
theorem HOk.kept(x:HOk P w H h)(k:∀b u,h.get? b=ap u->h'.get? b=ap u):HOk P w H h':=λa o e=>
 (x a o e).stay (λb u _ q=>k b u q) (λ_ q=>q) λ_ _ q=>q
theorem HOk.laid(x:HOk P w H h)(k:∀b u,h.get? b=ap u->h'.get? b=ap u)(l:h.objs.size<=a)(new:ObjOk P w (upd H a o) h' a o):HOk P w (upd H a o) h':=λb u e=>by
 have j:=x.fresh l
 by_cases g:b=a
 .subst g;rw[upd_same]at e;cases e;exact new
 .rw[aw g]at e
  exact(x b u e).stay (λc v _ q=>k c v q) (λc q=>by rw[aw (aX q j)];exact q) λc n q=>by rw[aw (aX q j)];exact q
def Rd(H:Hp)(a:cp)(u:HO):Prop:=H a=ap u\/∃o,H a=ap (.frz o u)
theorem Rd.ok(r:Rd H a u)(x:HOk P w H h):ObjOk P w H h a u:=by
 rcases r with r|⟨o,r⟩
 .exact x a u r
 obtain⟨_,q⟩:=x a _ r;exact q
def S5:Option HO->Prop
 |some (.lst _)=>True
 |some (.dK _)=>True
 |some (.dT _)=>True
 |some (.set _ _)=>True
 |some (.ins _ _ _)=>True
 |some (.ext _)=>True
 |_=>False
section
variable{x e:cp}
theorem HOk.write(ok:HOk P w H h)(F:S5 (H x))(J:e=x\/H e=ap (.own x))(k:∀b u,b≠e->h.get? b=ap u->h'.get? b=ap u)(G:∃u,h'.get? e=ap u)(new:ObjOk P w (upd H x o') h' x o'):HOk P w (upd H x o') h':=λb u q=>by
 have j:∀c y,H c=ap (.own y)->c≠x:=λc y r z=>by subst z;rw[r]at F;exact F
 have l:∀c B,H c=ap (.tup B)->c≠x:=λc B r z=>by subst z;rw[r]at F;exact F
 by_cases n:b=x
 .subst n;rw[upd_same]at q;cases q;exact new
 .rw[aw n]at q
  by_cases g:b=e
  .have I:H b=ap (.own x):=by
    rcases J with z|z
    .exact absurd (g.trans z) n
    .rw[g];exact z
   rw[q]at I;cases I;obtain⟨v,L⟩:=G;exact#[v,by rw[g];exact L]
  .refine (ok b u q).stay (λc v hc r=>k c v ?_ r) (λc r=>by rw[aw (j c b r)];exact r) λc B r=>by rw[aw (l c B r)];exact r
   rcases hc with rfl|hc
   .exact g
   .rintro rfl
    rcases J with z|z
    .exact j c b hc z
    .rw[hc]at z;cases z;exact n rfl
end
structure Un(fs ex:abb)(H H':Hp)(h h':g3):Prop where
 keep:∀b o,h.get? b=ap o->H b=ca->b∉fs->b∉ex->h'.get? b=ap o
 slot:∀b o,h.get? b=ap o->H b=ca->b∈fs->b∉ex->∃sl,h'.get? b=ap { o with slots:=sl }
 free:∀b o,h.get? b=ap o->H b=ca->b∉ex->H' b=ca
 there:∀b o,h.get? b=ap o->b∉ex->∃o',h'.get? b=ap o'
 tups:∀b xs,H b=ap (.tup xs)->H' b=ap (.tup xs)
 frzs:∀b o u,H b=ap (.frz o u)->H' b=ap (.frz o u)
 tbls:∀b ps,H b=ap (.tbl ps)->∃more,H' b=ap (.tbl (ps++more))
section
variable{x e:cp}
theorem Un.any(u:Un fs ex H H1 h h1)(q:h.get? b=ap g)(n:H b=ca)(l:b∉ex):∃v,h1.get? b=ap { g with slots:=v }:=by
 by_cases j:b∈fs
 .exact u.slot b g q n j l
 exact#[_,u.keep b g q n j l]
theorem Un.kept(k:∀b u,h.get? b=ap u->h'.get? b=ap u):Un fs ex H H h h':=
 #[λb g q _ _ _=>k b g q,λb g q _ _ _=>#[_,k b g q],λ_ _ _ n _=>n,λb g q _=>#[g,k b g q],λ_ _ q=>q,λ_ _ _ q=>q,λ_ ps q=>#[(Tw []),by rw[q];simp]]
theorem Un.refl:Un fs ex H H h h:=Un.kept λ_ _ q=>q
theorem Un.laid(k:∀b u,h.get? b=ap u->h'.get? b=ap u)(l:h.objs.size<=a)(g:H a=ca):Un fs ex H (upd H a o) h h' where
 keep:=λb u q _ _ _=>k b u q
 slot:=λb u q _ _ _=>#[_,k b u q]
 free:=λb u q n _=>by rw[aw (Uy<|Ur (Ug q) l)];exact n
 there:=λb u q _=>#[u,k b u q]
 tups:=λb j q=>by rw[aw (aX q g)];exact q
 frzs:=λb u j q=>by rw[aw (aX q g)];exact q
 tbls:=λb ps q=>#[(Tw []),by rw[aw (aX q g),q];simp]
theorem Un.write(v:S5 (H x))(G:e=x\/H e=ap (.own x))(k:∀b u,b≠e->h.get? b=ap u->h'.get? b=ap u)(F:∃u,h'.get? e=ap u):Un fs ex H (upd H x o) h h':=by
 have y:∀b,H b=ca->b≠x:=λb n z=>by subst z;rw[n]at v;exact v
 have l:∀b,H b=ca->b≠e:=λb n z=>by
  simp_all
 have j:∀b u,H b=ap u->¬S5 (ap u)->b≠x:=λb u q nm z=>by simp_all
 refine#[λb u q n _ _=>k b u (l b n) q,λb u q n _ _=>#[_,k b u (l b n) q],λb u q n _=>by rw[aw (y b n)];exact n,λb u q _=>?_,
  λb B q=>by rw[aw (j b _ q λz=>z)];exact q,λb u B q=>by rw[aw (j b _ q λz=>z)];exact q,λb ps q=>#[(Tw []),by rw[aw (j b _ q λz=>z),q];simp]]
 by_cases g:b=e
 .simp_all
 exact#[u,k b u g q]
end
noncomputable def trk(h:g3)(H:Hp):List Addr:=(Uu h.objs.size).filter λa=>(H a).isSome
def qN(h:g3)(H:Hp):Heap:=Ya h (trk h H)
theorem DV(h:g3)(H:Hp):(qN h H).objs.size=h.objs.size:=W.hideAll_size _ _
theorem Es(e:h.get? b=ap o)(n:H b=ca):(qN h H).get? b=ap o:=
 W.hideAll_get _ e λg=>by
  have q:=(Ut.mp g).2
  simp_all
theorem L9(e:(qN h H).get? b=ap o):h.get? b=ap o/\H b=none:=by
 have g:=W.of_hideAll _ e;refine#[g,?_];cases q:H b with
 |none=>rfl
 |some x=>
  have j:b∈trk h H:=Ut.mpr #[UJ.mpr (Ug g),by simp[q]]
  have z:(qN h H).get? b=none:=W.hideAll_none _ j
  simp_all
structure Mod(K:Uh)(mg:abg)(base:g3):Prop where
 kin:K.In base
 glob:base.Ns eC mg
 blt:∃mb,base.Ns aax mb/\∀x:Str,x≠"__name__"->mb x=eS x
 nolimit:base.NoLimit
structure Cx where
 prog:eH
 w:fx
 K:Uh
 mg:Str->Option ay
 base:g3
 A:fv
 N:List Str
 s₀:cb
 H₀:Hp
 env:Env
 outer:List Env
 stack:List Env
 ex:List cp
 fn:Str->Bool
 calm:Bool
 pn:List (cp×Obj)
 xe:ay->cb->Prop
noncomputable def iB(l:List Env):List Addr:=l.filterMap (·.frame)
abbrev Cx.fs(X:Cx):List Addr:=iB X.outer
def R7(sc:qa)(x:Str):Prop:=sc.names.lookup x=ap .local\/sc.names.lookup x=ap .cell\/sc.names.lookup x=ap .free
def Ii(sc:qa)(x:Str):Prop:=sc.names.lookup x=ap .local\/sc.names.lookup x=ap .cell
def Look(env:Env)(h:g3)(m:abg)(x:Str)(u:ay):Prop:=
 (env.kindOf x=ap .local/\m x=ap u)\/((env.kindOf x=ap .cell\/env.kindOf x=ap .free)/\∃c,env.cells.lookup x=ap c/\h.IsCell c (ap u))
structure Cx.Ok(X:Cx):Prop where
 mod:Mod X.K X.mg X.base
 kind:X.env.scope.kind=.function
 glob:X.env.globals=eC
 blt:X.env.builtins=aax
 above:X.s₀.heap.objs.size<=X.env.locals
 inj:∀x y c,X.env.cells.lookup x=ap c->X.env.cells.lookup y=ap c->x=y
 has:∀x,(X.env.kindOf x=ap .cell\/X.env.kindOf x=ap .free)->∃c,X.env.cells.lookup x=ap c
 cab:∀x c,X.fn x=true->X.env.cells.lookup x=ap c->X.s₀.heap.objs.size<=c
 hd:X.calm=true->X.A.handled=ca
 frames:X.A.frames=ap X.stack
 stk:X.stack=X.outer\/(X.stack=X.env::X.outer/\X.env.frame=ap X.env.locals)
 exf:∀b∈X.ex,b≠X.env.locals/\∀x c,X.env.cells.lookup x=ap c->c≠b
 bs:∀b o,X.base.get? b=ap o->X.s₀.heap.get? b=ap o/\X.H₀ b=ca
 bsz:X.base.objs.size<=X.s₀.heap.objs.size
 noex:∀b o,X.base.get? b=ap o->b∉X.ex
 exfs:∀b∈X.ex,b∉X.fs
 funs:X.s₀.heap.FunFrames X.base X.outer
 frf:∀b∈X.fs,X.H₀ b=ca
structure Inv(X:Cx)(aa1:abf)(Z:List (Option V))(H:Hp)(s:cb):Prop where
 ok:X.Ok
 os:s.os=X.s₀.os
 bare:UF s.gens
 base:Un X.fs X.ex X.H₀ H X.s₀.heap s.heap
 loc:∃m,s.heap.Ns X.env.locals m/\∀(i:Nat)(x:Str)(v:V),X.N[i]?=ap x->Z[i]?=ap (ap v)->R7 X.env.scope x->∃u,RelV v u/\Look X.env s.heap m x u
 cell:∀x c,X.env.cells.lookup x=ap c->∃v,s.heap.IsCell c v
 free:H X.env.locals=ca
 freeC:∀x c,X.env.cells.lookup x=ap c->H c=ca
 pin:∀p∈X.pn++aa1,s.heap.get? p.1=ap p.2/\H p.1=ca/\p.1≠X.env.locals/\p.1∉X.fs/\∀v,p.2.data≠.cell v
 hok:HOk X.prog X.w H s.heap
 len:Z.length=X.N.length
theorem Cx.Ok.nofr(ok:X.Ok)(e:X.base.get? b=ap o):b∉X.fs:=λg=>by
 have:=(ok.funs.mem g).1
 simp_all
theorem Inv.bs(I:Inv X aa1 Z H s):∀b o,X.base.get? b=ap o->s.heap.get? b=ap o/\H b=none:=λb o e=>
 #[I.base.keep b o (I.ok.bs b o e).1 (I.ok.bs b o e).2 (I.ok.nofr e) (I.ok.noex b o e),I.base.free b o (I.ok.bs b o e).1 (I.ok.bs b o e).2<|I.ok.noex b o e]
theorem Inv.bk(I:Inv X aa1 Z H s):∀b o,X.base.get? b=ap o->s.heap.get? b=ap o:=λb o e=>(I.bs b o e).1
theorem Inv.mod(I:Inv X aa1 Z H s):Mod X.K X.mg X.base:=I.ok.mod
theorem Inv.kIn(I:Inv X aa1 Z H s):X.K.In s.heap:=I.ok.mod.kin.keeps I.bk
theorem Inv.lt(I:Inv X aa1 Z H s):X.env.locals<s.heap.objs.size:=let ⟨_,hn,_⟩:=I.loc;hn.lt
theorem Inv.sz(I:Inv X aa1 Z H s):X.s₀.heap.objs.size<=s.heap.objs.size:=Uw I.ok.above (Wd I.lt)
theorem Inv.nofs(I:Inv X aa1 Z H s)(h:s.heap.objs.size<=a):a∉X.fs:=λj=>by
 obtain⟨_,o,g,_⟩:=I.ok.funs.mem j;exact absurd (Ur (Ug g)<|Uw I.sz h) (U8 _)
theorem Inv.cne(I:Inv X aa1 Z H s):∀x c,X.env.cells.lookup x=ap c->c≠X.env.locals:=λx c e z=>by
 obtain⟨v,o,y,l⟩:=I.cell x c e;obtain⟨m,⟨n,es,q,g,j,_⟩,_⟩:=I.loc
 simp_all
theorem Inv.funs(I:Inv X aa1 Z H s):s.heap.FunFrames X.base X.outer:=by
 have all:∀(l:List _),(∀b∈iB l,b∈X.fs)->X.s₀.heap.FunFrames X.base l->s.heap.FunFrames X.base l:=by
  intro l
  induction l with
  |nil=>intro _ _;trivial
  |cons env r ih=>
   rintro q ⟨y,⟨L,o,n,G,F,v⟩,B⟩
   have g:=q L (by unfold iB;rw[Wg,n];exact Ux)
   obtain⟨J,e⟩:=I.base.slot L o F (I.ok.frf L g) g λz=>I.ok.exfs L z g;exact#[y,#[L,_,n,G,e,v],ih (λb j=>q b (by unfold iB;rw[Wg,n];exact Uj _ j)) B]
 exact all _ (λ_ j=>j) I.ok.funs
theorem Inv.stack(I:Inv X aa1 Z H s):s.heap.FunFrames X.base X.stack:=by
 rcases I.ok.stk with e|⟨e,hf⟩
 .rw[e];exact I.funs
 .rw[e]
  obtain⟨m,g,_⟩:=I.loc;refine .cons (by rw[I.ok.kind];decide) hf g ?_ I.funs
  exact Heap.get?_none_of_le (Uw I.ok.bsz I.ok.above)
theorem Inv.stkSub(I:Inv X aa1 Z H s):∀b∈iB X.stack,b∈X.env.locals::X.fs:=λb g=>by
 rcases I.ok.stk with e|⟨e,hf⟩
 .rw[e]at g;exact Uj _ g
 rw[e]at g;unfold iB at g;rw[Wg,hf]at g;exact g
theorem Inv.stkFree(I:Inv X aa1 Z H s):∀b∈iB X.stack,H b=none:=λb hb=>by
 rcases Uk.mp (I.stkSub b hb) with e|hb
 .rw[e];exact I.free
 obtain⟨_,o,g,_⟩:=I.ok.funs.mem hb;exact I.base.free b o g (I.ok.frf b hb) λz=>I.ok.exfs b z hb
theorem Inv.step(I:Inv X aa1 Z H s)(B:∀b∈ch,(b∈X.ex\/X.s₀.heap.objs.size<=b)/\b≠X.env.locals/\(∀x c,X.env.cells.lookup x=ap c->c≠b)/\∀p∈X.pn++aa1,p.1≠b)(keep:∀b o,b≠X.env.locals->b∉X.fs->b∉ch->s.heap.get? b=ap o->H b=ca->h'.get? b=ap o)(slot:∀b o,b≠X.env.locals->b∈X.fs->b∉ch->s.heap.get? b=ap o->H b=ca->∃Y,h'.get? b=ap { o with slots:=Y })(free:∀b o,b∉ch->s.heap.get? b=ap o->H b=ca->H' b=ca)(there:∀b o,b∉ch->s.heap.get? b=ap o->∃T,h'.get? b=ap T)(tups:∀b J,H b=ap (.tup J)->H' b=ap (.tup J))(frzs:∀b o u,H b=ap (.frz o u)->H' b=ap (.frz o u))(tbls:∀b ps,H b=ap (.tbl ps)->∃more,H' b=ap (.tbl (ps++more)))(ns:∀m,s.heap.Ns X.env.locals m->h'.Ns X.env.locals m)(hok:HOk X.prog X.w H' h')(hg:UF g'):
  Inv X aa1 Z H' { s with heap:=h',gens:=g',drawn:=d',toks:=t' }:=by
 have R:∀b o,X.s₀.heap.get? b=ap o->b≠X.env.locals:=λb o e=>Uy (Ur (Ug e) I.ok.above);have G:∀b o,X.s₀.heap.get? b=ap o->b∉X.ex->b∉ch:=λb o e g L=>by
  rcases (B b L).1 with z|z
  .exact g z
  .exact absurd (Ur (Ug e) z) (U8 _)
 have y:∀x c,X.env.cells.lookup x=ap c->∀v,s.heap.IsCell c v->h'.IsCell c v:=λx c e v ⟨o,O,W⟩=>by
  have j:c∉ch:=λz=>(B c z).2.2.1 x c e rfl
  by_cases hc:c∈X.fs
  .obtain⟨Y,q⟩:=slot c o (I.cne x c e) hc j O (I.freeC x c e)
   exact#[_,q,W]
  .exact#[o,keep c o (I.cne x c e) hc j O (I.freeC x c e),W]
 refine#[I.ok,I.os,hg,#[λb o e n L g=>?_,λb o e n L g=>?_,λb o e n g=>?_,λb o e g=>?_,λb J e=>tups b J (I.base.tups b J e),λb o J e=>frzs b o J (I.base.frzs b o J e),λb ps e=>?_],?_,λx c e=>?_,?_,λx c e=>?_,λp hp=>?_,hok,I.len]
 .exact keep b o (R b o e) L (G b o e g) (I.base.keep b o e n L g) (I.base.free b o e n g)
 .obtain⟨Y,F⟩:=I.base.slot b o e n L g
  obtain⟨U,S⟩:=slot b _ (R b o e) L (G b o e g) F (I.base.free b o e n g);exact#[U,S]
 .obtain⟨T,F⟩:=I.base.there b o e g
  exact free b T (G b o e g) F (I.base.free b o e n g)
 .obtain⟨T,F⟩:=I.base.there b o e g
  exact there b T (G b o e g) F
 .obtain⟨m1,F⟩:=I.base.tbls b ps e
  obtain⟨m2,S⟩:=tbls b _ F;exact#[m1++m2,by rw[S,Ze]]
 .obtain⟨m,hn,hl⟩:=I.loc
  refine#[m,ns m hn,λi x v F S e3=>?_];obtain⟨u,r,l⟩:=hl i x v F S e3;refine#[u,r,?_];rcases l with l|⟨k,c,e,z⟩
  .exact .inl l
  .exact .inr #[k,c,e,y x c e _ z]
 .obtain⟨v,z⟩:=I.cell x c e
  exact#[v,y x c e v z]
 .obtain⟨m,⟨o,_,_,O,_⟩,_⟩:=I.loc
  exact free _ o (λz=>(B _ z).2.1 rfl) O I.free
 .obtain⟨v,o,O,W⟩:=I.cell x c e
  exact free c o (λz=>(B c z).2.2.1 x c e rfl) O (I.freeC x c e)
 .obtain⟨e,n,ne,nf,d⟩:=I.pin p hp
  have j:p.1∉ch:=λz=>(B p.1 z).2.2.2 p hp rfl;exact#[keep p.1 p.2 ne nf j e n,free p.1 p.2 j e n,ne,nf,d]
theorem Inv.un(I:Inv X aa1 Z H s)(u:Un X.fs [] H H' s.heap h')(v:HOk X.prog X.w H' h'):Inv X aa1 Z H' { s with heap:=h',toks:=t' }:=by
 obtain⟨m,⟨o,es,R,y,r⟩,_⟩:=id I.loc;obtain⟨O,F⟩:=u.any y I.free (by simp)
 exact I.step (g':=s.gens) (d':=s.drawn) (ch:=[]) (λ_ z=>nomatch z) (λb o _ l _ e n=>u.keep b o e n l (by simp)) (λb o _ l _ e n=>u.slot b o e n l (by simp)) (λb o _ e n=>u.free b o e n (by simp)) (λb o _ e=>u.there b o e (by simp)) u.tups u.frzs u.tbls (λL B=>by
  obtain⟨J,q,j,g,G⟩:=B;rw[y]at g;cases g;exact#[_,q,j,F,G]) v I.bare
theorem Inv.call(I:Inv X aa1 Z H s)(u:Un (iB X.stack) ch H H' s.heap h')(B:HOk X.prog X.w H' h')(O:UF g')(l:∀b∈ch,(b∈X.ex\/X.s₀.heap.objs.size<=b)/\b≠X.env.locals/\(∀x c,X.env.cells.lookup x=ap c->c≠b)/\∀p∈X.pn++aa1,p.1≠b):
  Inv X aa1 Z H' { s with heap:=h',gens:=g',drawn:=d',toks:=t' }:=by
 obtain⟨m,⟨o,es,U,F,r⟩,_⟩:=id I.loc;obtain⟨T,v⟩:=u.any F I.free λz=>(l _ z).2.1 rfl;exact I.step (ch:=ch) l (λb o v J g e n=>u.keep b o e n (λz=>(Uk.mp<|I.stkSub b z).elim v J) g) (λb o _ _ g e n=>u.any e n g) (λb o g e n=>u.free b o e n g) (λb o g e=>u.there b o e g) u.tups u.frzs u.tbls (λS G=>by
  obtain⟨R,y,q,j,L⟩:=G;rw[F]at j;cases j;exact#[_,y,q,v,L]) B O
theorem Inv.turned(I:Inv X aa1 Z H s)(k:∀b o,b≠g->s.heap.get? b=ap o->h'.get? b=ap o)(S:H g=ca)(y:g≠X.env.locals)(O:g∈X.ex\/X.s₀.heap.objs.size<=g)(L:∀x c,X.env.cells.lookup x=ap c->c≠g)(R:∀p∈X.pn++aa1,p.1≠g):Inv X aa1 Z H { s with heap:=h',toks:=t' }:=by
 have l:∀b u,H b=ap u->b≠g:=λb u e z=>by rw[z,S]at e;cases e
 refine I.step (g':=s.gens) (d':=s.drawn) (ch:=[g]) (λb G=>?_) (λb o _ _ j e _=>k b o (λz=>j (by simp[z])) e) (λb o _ _ j e _=>#[o.slots,k b o (λz=>j (by simp[z])) e]) (λ_ _ _ _ n=>n)
  (λb o j e=>#[o,k b o (λz=>j (by simp[z])) e]) (λ_ _ e=>e) (λ_ _ _ e=>e) (λb ps e=>#[(Tw []),by rw[e];simp]) (λm B=>?_) (λb u e=>?_) I.bare
 .have e:b=g:=by simpa using G
  subst e;exact#[O,y,L,R]
 .obtain⟨o,es,J,F,r⟩:=B
  exact#[o,es,J,k _ o (UO y) F,r]
 .refine (I.hok b u e).stay (λc v j q=>k c v ?_ q) (λ_ q=>q) λ_ _ q=>q
  rcases j with z|z
  .rw[z];exact l b u e
  .exact l c _ z
theorem Inv.tok(I:Inv X aa1 Z H s)(t:Nat):Inv X aa1 Z H { s with toks:=t }:=I.un Un.refl I.hok
theorem Inv.kept(I:Inv X aa1 Z H s)(k:∀b u,s.heap.get? b=ap u->h'.get? b=ap u):Inv X aa1 Z H { s with heap:=h',toks:=t' }:=I.un (Un.kept k) (I.hok.kept k)
theorem Inv.laid(I:Inv X aa1 Z H s)(k:∀b u,s.heap.get? b=ap u->h'.get? b=ap u)(g:s.heap.objs.size<=a)(new:ObjOk X.prog X.w (upd H a o) h' a o):
  Inv X aa1 Z (upd H a o) { s with heap:=h',toks:=t' }:=I.un (Un.laid k g<|I.hok.fresh g) (I.hok.laid k g new)
theorem Inv.write{x e:cp}(I:Inv X aa1 Z H s)(l:S5 (H x))(j:e=x\/H e=ap (.own x))(k:∀b u,b≠e->s.heap.get? b=ap u->h'.get? b=ap u)(g:∃u,h'.get? e=ap u)(new:ObjOk X.prog X.w (upd H x o) h' x o):Inv X aa1 Z (upd H x o) { s with heap:=h',toks:=t' }:=I.un (Un.write l j k g) (I.hok.write l j k g new)
theorem Inv.pins_of(I:Inv X aa1 Z H s)(h:∀p∈g,s.heap.get? p.1=ap p.2/\H p.1=ca/\p.1≠X.env.locals/\p.1∉X.fs/\∀v,p.2.data≠.cell v):Inv X g Z H s:=
 #[I.ok,I.os,I.bare,I.base,I.loc,I.cell,I.free,I.freeC,λp j=>(Uz.mp j).elim (λz=>I.pin p (Vl _ z)) (h p),I.hok,I.len]
theorem vm(n:N.Nodup){j:Nat}(a:N[i]?=ap x)(b:N[j]?=ap x):i=j:=by
 obtain⟨v,g⟩:=UQ.mp a;obtain⟨q,l⟩:=UQ.mp b;exact(List.getElem_inj n).mp (g.trans l.symm)
theorem qL(I:Inv X aa1 Z H s)(hN:X.N.Nodup)(hi:X.N[i]?=ap x)(F:Ii X.env.scope x)(r:RelV v u)(h:∀s',Inv X aa1 (Z.set i<|some v) H s'->(∃a,Vr a s.heap s'.heap/\(a=X.env.locals\/X.env.cells.lookup x=ap a))->Q () s')(hf:X.fn x=true\/X.env.scope.names.lookup x=ap .local:=by and_intros):eg M A (storeName X.env x u) Q E s:=by
 obtain⟨m,hn,hl⟩:=id I.loc;have T:(X.env.scope.kind==.class||(X.env.scope.kind==.module&&X.env.locals != X.env.globals))=false:=by rw[I.ok.kind];rfl
 have L:i<Z.length:=by rw[I.len];exact(UQ.mp hi).1
 have cne:=I.cne;have l:∀{a:cp}{h':g3},(∃o,s.heap.get? a=ap o/\H a=ca)->Vr a s.heap h'->HOk X.prog X.w H h':=λ{a h'} ha g b ob e=>by
  obtain⟨_,_,G⟩:=ha;refine (I.hok b ob e).stay (λc w' hc q=>(g.2 c ?_).trans q) (λ_ q=>q) λ_ _ q=>q
  rintro rfl
  rcases hc with rfl|hc
  .rw[G]at e;cases e
  .rw[G]at hc;cases hc
 rcases F with hk|hk
 .refine wpAny_storeName_local hk hn (λh' hn' g=>?_) T
  obtain⟨oL,_,_,hoL,_⟩:=id hn;refine h _ #[I.ok,I.os,I.bare,#[λb o e n S F=>?_,λb o e n S F=>?_,I.base.free,λb o e F=>?_,I.base.tups,I.base.frzs,I.base.tbls],#[_,hn',λj y v' B J e3=>?_],λy c e=>?_,I.free,I.freeC,λp hp=>?_,l #[oL,hoL,I.free] g,by simpa using I.len] #[_,g,.inl rfl]
  .exact(g.2 b<|Uy<|Ur (Ug e) I.ok.above).trans (I.base.keep b o e n S F)
  .obtain⟨sl,B⟩:=I.base.slot b o e n S F
   exact#[sl,(g.2 b<|Uy<|Ur (Ug e) I.ok.above).trans B]
  .obtain⟨o',B⟩:=I.base.there b o e F
   exact#[o',(g.2 b<|Uy<|Ur (Ug e) I.ok.above).trans B]
  .by_cases R:j=i
   .subst R
    rw[hi]at B;cases B;rw[YR L]at J;cases J;exact#[u,r,.inl #[hk,by simp]]
   .rw[Y5 (UO R)]at J
    obtain⟨u',r',q⟩:=hl j y v' B J e3;refine#[u',r',?_];rcases q with⟨k,e⟩|⟨k,c,e,z⟩
    .refine .inl #[k,?_]
     have:y≠x:=λe=>R (vm hN B (e▸hi));simp[this,e]
    .exact .inr #[k,c,e,z.sameBut g<|cne y c e]
  .obtain⟨w',z⟩:=I.cell y c e
   exact#[w',z.sameBut g<|cne y c e]
  .obtain⟨e,n,ne,nf,d⟩:=I.pin p hp
   exact#[(g.2 p.1 ne).trans e,n,ne,nf,d]
 .have O:X.fn x=true:=by
   rcases hf with z|z
   .exact z
   .rw[z]at hk;cases hk
  obtain⟨c,hc⟩:=I.ok.has x (.inl hk);obtain⟨w',z⟩:=I.cell x c hc;refine wpAny_storeName_cell I.ok.kind hk hc z (λh' Y g=>?_);obtain⟨oc,W,hocd⟩:=id z;refine h { s with heap:=h' } #[I.ok,I.os,I.bare,#[λb o e n S F=>?_,λb o e n S F=>?_,I.base.free,λb o e F=>?_,I.base.tups,I.base.frzs,I.base.tbls],#[m,hn.sameBut g (UO<|cne x c hc),λj y v' B J e3=>?_],λy c' e=>?_,I.free,I.freeC,λp hp=>?_,l #[oc,W,I.freeC x c hc] g,by simpa using I.len] #[c,g,.inr hc]
  .exact(g.2 b<|Uy<|Ur (Ug e)<|I.ok.cab x c O hc).trans (I.base.keep b o e n S F)
  .obtain⟨sl,B⟩:=I.base.slot b o e n S F
   exact#[sl,(g.2 b<|Uy<|Ur (Ug e)<|I.ok.cab x c O hc).trans B]
  .obtain⟨o',B⟩:=I.base.there b o e F
   exact#[o',(g.2 b<|Uy<|Ur (Ug e)<|I.ok.cab x c O hc).trans B]
  .by_cases R:j=i
   .subst R
    rw[hi]at B;cases B;rw[YR L]at J;cases J;exact#[u,r,.inr #[.inl hk,c,hc,Y]]
   .rw[Y5 (UO R)]at J
    obtain⟨u',r',q⟩:=hl j y v' B J e3;refine#[u',r',?_];rcases q with q|⟨k,c',e,z'⟩
    .exact .inl q
    .refine .inr #[k,c',e,z'.sameBut g ?_]
     rintro rfl
     exact R (vm hN B (I.ok.inj _ _ _ e hc▸hi))
  .by_cases U:c'=c
   .subst U;exact#[_,Y]
   .obtain⟨w2,z2⟩:=I.cell y c' e
    exact#[w2,z2.sameBut g U]
  .obtain⟨e,n,ne,nf,d⟩:=I.pin p hp
   refine#[(g.2 p.1 ?_).trans e,n,ne,nf,d];intro q;rw[q,W]at e;have q':oc=p.2:=Vh e;exact d w' (by rw[<- q'];exact hocd)
theorem o7(I:Inv X aa1 Z H s)(q:X.N.Nodup)(l:X.N[i]?=ap x)(j:Ii X.env.scope x)(r:RelV v u)(h:∀g,Inv X aa1 (Z.set i<|some v) H g->Q () g)(n:X.fn x=true\/X.env.scope.names.lookup x=ap .local:=by and_intros):eg M A (storeName X.env x u) Q E s:=
 qL I q l j r (λg I' _=>h g I') n
theorem Inv.call'(I:Inv X aa1 Z H s)(v:g.os=s.os)(u:Un (iB X.stack) ch H H' s.heap g.heap)(j:HOk X.prog X.w H' g.heap)(q:UF g.gens)(l:∀b∈ch,(b∈X.ex\/X.s₀.heap.objs.size<=b)/\b≠X.env.locals/\(∀x c,X.env.cells.lookup x=ap c->c≠b)/\∀p∈X.pn++aa1,p.1≠b):Inv X aa1 Z H' g:=by
 obtain⟨h',g',d',t',n⟩:=g;have e:n=s.os:=v;subst e;exact I.call (g':=g') (t':=t') (d':=d') u j q l
abbrev XK:=ay->Option cp->Hp->Prop
abbrev St:=List (Option V)
abbrev VK:=V->Hp->Prop
abbrev TE:=St->Hp->VK->Prop
abbrev TT:=St->Hp->(Bool->Hp->Prop)->Prop
abbrev TA:=St->Hp->(List V->Hp->Prop)->Prop
structure Ends where
 nx:St->Hp->Prop
 rt:VK
 bk:St->Hp->Prop:=λ_ _=>False
 ct:St->Hp->Prop:=λ_ _=>False
abbrev TS:=Ends->St->Hp->Prop
inductive EP(X:Cx)(aa1:abf)(Z:St)(Q:VK)(u:ay)(s':cb):Prop
 |mk (v:V) (H':Hp) (h0:Inv X aa1 Z H' s') (h1:RelV v u) (h2:Q v H'):EP X aa1 Z Q u s'
inductive TP(X:Cx)(aa1:abf)(Z:St)(Q:Bool->Hp->Prop)(b:Bool)(s':cb):Prop
 |mk (H':Hp) (h0:Inv X aa1 Z H' s') (h1:Q b H'):TP X aa1 Z Q b s'
inductive AP(X:Cx)(aa1:abf)(Z:St)(Q:List V->Hp->Prop)(us:aba)(s':cb):Prop
 |mk (vs:List V) (H':Hp) (h0:Inv X aa1 Z H' s') (h1:Vals vs us) (h2:Q vs H'):AP X aa1 Z Q us s'
def SP(X:Cx)(aa1:abf)(D:Ends)(f:Flow)(s':cb):Prop:=
 match f with
 |.next=>∃σ' H',Inv X aa1 σ' H' s'/\D.nx σ' H'
 |.brk=>∃σ' H',Inv X aa1 σ' H' s'/\D.bk σ' H'
 |.cont=>∃σ' H',Inv X aa1 σ' H' s'/\D.ct σ' H'
 |.ret u=>∃v σ' H',Inv X aa1 σ' H' s'/\RelV v u/\D.rt v H'
def PE(X:Cx)(e:eT)(t:TE):Prop:=
 ∀(aa1:abf)(s:cb)(Z:St)(H:Hp)(Q:VK),Inv X aa1 Z H s->t Z H Q->eg (ez X.prog X.w) X.A (ff e X.env) (EP X aa1 Z Q) X.xe s
def PT(X:Cx)(e:eT)(t:TT):Prop:=
 ∀(aa1:abf)(s:cb)(Z:St)(H:Hp)(Q:Bool->Hp->Prop),Inv X aa1 Z H s->t Z H Q->eg (ez X.prog X.w) X.A (isTrue e X.env<|eval e X.env) (TP X aa1 Z Q) X.xe s
def PW(X:Cx)(e:eT)(t:TT):Prop:=
 ∀(whole:Sem ay)(aa1:abf)(s:cb)(Z:St)(H:Hp)(Q:Bool->Hp->Prop),Inv X aa1 Z H s->t Z H Q->eg (ez X.prog X.w) X.A (isTrue e X.env whole) (TP X aa1 Z Q) X.xe s
theorem U5(h:PW X e t):PT X e t:=h _
def PA(X:Cx)(es:abc)(t:TA):Prop:=
 ∀(pos:Pos)(aa1:abf)(s:cb)(Z:St)(H:Hp)(Q:List V->Hp->Prop),Inv X aa1 Z H s->t Z H Q->eg (ez X.prog X.w) X.A (spliced<|backTo pos<|starEach es X.env) (AP X aa1 Z Q) X.xe s
def PS(X:Cx)(st:mu)(t:TS):Prop:=
 ∀(aa1:abf)(s:cb)(Z:St)(H:Hp)(D:Ends),Inv X aa1 Z H s->t D Z H->eg (ez X.prog X.w) X.A (exec st X.env) (SP X aa1 D) X.xe s
def AM(X:Cx)(st:abd)(t:TS):Prop:=
 ∀(aa1:abf)(s:cb)(Z:St)(H:Hp)(D:Ends),Inv X aa1 Z H s->t D Z H->eg (ez X.prog X.w) X.A (execs st X.env) (SP X aa1 D) X.xe s
theorem bu(h:eg M A t Q E s)(g:∀a s,Q a s->Q' a s):eg M A t Q' E s:=hW h g λ_ _ x=>x
section
def tVar(i:Nat):TE:=λZ H Q=>∃v,Z[i]?=ap (ap v)/\Q v H
def tC(v:V):TE:=λ_ H Q=>Q v H
theorem Qx(y:X.N[i]?=ap x)(z:R7 X.env.scope x)(g:(x==("__debug__":Str))=false:=by decide)(hcd:(x==("__classdict__":Str))=false:=by decide):PE X (.Name x pos) (tVar i):=by
 rintro aa1 s Z H Q I ⟨v,e,h⟩
 obtain⟨m,q,n⟩:=I.loc;obtain⟨u,r,l⟩:=n i x v y e z;have fin:EP X _ Z Q u s:=#[v,H,I,r,h];rcases l with⟨hk,j⟩|⟨hk,c,hc,hcell⟩
 .exact wpAny_Name (aaV I.ok.kind hk q j fin) g
 rcases hk with hk|hk
 .exact wpAny_Name (wpAny_loadName_cell I.ok.kind hk hc hcell fin) g
 exact wpAny_Name (wpAny_loadName_free I.ok.kind hk hc hcell fin hcd) g
theorem PD{i j pos}:PE X (.Constant (.int i) j pos) (tC<|.int i):=λ_ _ _ H _ I h=>wpAny_Constant_int #[.int i,H,I.tok _,#[_,rfl],h]
theorem Sz{b j pos}:PE X (.Constant (.bool b) j pos) (tC<|.bl b):=λ_ _ _ H _ I h=>Constant_bool #[.bl b,H,I,rfl,h]
theorem PB{j pos}:PE X (.Constant .none j pos) (tC .non):=λ_ _ _ H _ I h=>Constant_none #[.non,H,I,rfl,h]
theorem I0{x j pos}:PE X (.Constant (.str x) j pos) (tC<|.str x):=λ_ _ _ H _ I h=>Calls.Constant_str #[.str x,H,I.tok _,#[_,rfl],h]
def Gl(X:Cx)(x:Str):Prop:=X.env.kindOf x=ap .globalImplicit
theorem ic(I:Inv X aa1 Z H s)(j:Gl X x)(g:X.mg x=ap u)(h:Q u s)(l:(x==("__debug__":Str))=false:=by decide):eg (ez X.prog X.w) X.A (ff (.Name x pos) X.env) Q E s:=
 Yd I.ok.kind j (Calls.loadGlobal_global (by rw[I.ok.glob];exact I.mod.glob.keeps I.bk) g h) l
theorem dk(I:Inv X aa1 Z H s)(v:Gl X x)(l:X.mg x=ca)(q:eS x=ap u)(h:Q u s)(n:x≠"__name__":=by decide)(hd:(x==("__debug__":Str))=false:=by decide):eg (ez X.prog X.w) X.A (ff (.Name x pos) X.env) Q E s:=by
 obtain⟨y,g,j⟩:=I.mod.blt;exact Yd I.ok.kind v (Calls.loadGlobal_builtin (by rw[I.ok.glob];exact I.mod.glob.keeps I.bk) l (by rw[I.ok.blt];exact g.keeps I.bk) ((j x n).trans q) h) hd
theorem JN(n:Gl X x)(g:X.mg x=ca)(l:eS x=ap u)(r:RelV v u)(j:x≠"__name__":=by decide)(hd:(x==("__debug__":Str))=false:=by decide):PE X (.Name x pos) (tC v):=
 λ_ _ _ H _ I h=>dk I n g l #[v,H,I,r,h] j hd
variable{a b:eT}
def tAnd(t u:TT):TT:=λZ H Q=>t Z H λc H1=>if c=true then u Z H1 Q else Q cx H1
def tOr(t u:TT):TT:=λZ H Q=>t Z H λc H1=>if c=true then Q true H1 else u Z H1 Q
def tNot(t:TT):TT:=λZ H Q=>t Z H λc H1=>Q (!c) H1
theorem Lg(g:PT X a tA):PW X (.BoolOp .And [a] pos) tA:=by
 intro l aa1 s Z H Q I h;refine isTrue_and (bu (g _ s Z H Q I h) λc j e=>?_);cases c with
 |true=>exact isTrue_and_nil e
 |false=>exact e
theorem P1(g:PT X a tA):PW X (.BoolOp .Or [a] pos) tA:=by
 intro l aa1 s Z H Q I h;refine isTrue_or (bu (g _ s Z H Q I h) λc j e=>?_);cases c with
 |false=>exact isTrue_or_nil e
 |true=>exact e
theorem Pn(v:PT X a tA)(q:PW X (.BoolOp .And (b::rest) pos) tB'):PW X (.BoolOp .And (a::b::rest) pos) (tAnd tA tB'):=by
 intro n aa1 s Z H Q I h;refine isTrue_and (bu (v _ s Z H _ I h) λc j l=>?_);obtain⟨H1,I1,g⟩:=l;cases c with
 |true=>exact q n _ j Z H1 Q I1 g
 |false=>exact#[H1,I1,g]
theorem Ss(v:PT X a tA)(q:PW X (.BoolOp .Or (b::rest) pos) tB'):PW X (.BoolOp .Or (a::b::rest) pos) (tOr tA tB'):=by
 intro n aa1 s Z H Q I h;refine isTrue_or (bu (v _ s Z H _ I h) λc j l=>?_);obtain⟨H1,I1,g⟩:=l;cases c with
 |true=>exact#[H1,I1,g]
 |false=>exact q n _ j Z H1 Q I1 g
theorem P0(g:PT X a tA):PT X (.UnaryOp .Not a pos) (tNot tA):=by
 intro aa1 s Z H Q I h;exact isTrue_not (hW (g _ s Z H _ I h) (λc j z=>by cases z with|mk a b d=>exact#[a,b,d]) λ_ _ e=>e)
def Tt(ta tb:TE):TE:=λZ H Q=>ta Z H λx H1=>∃c,x=.bl c/\if c=true then tb Z H1 Q else Q (.bl cx) H1
def SM(ta:TE):TE:=λZ H Q=>ta Z H λx H1=>∃c,x=.bl c/\Q (.bl<|!c) H1
theorem NN{op}(h:PE X a t):PE X (.BoolOp op [a] pos) t:=λaa1 s Z H Q I g=>BoolOp_one (h _ s Z H Q I g)
theorem OH(y:PE X a ta)(q:PE X (.BoolOp .And (b::rest) pos) tb):PE X (.BoolOp .And (a::b::rest) pos) (Tt ta tb):=by
 intro aa1 s Z H Q I h;refine BoolOp_and (bu (y _ s Z H _ I h) λv j n=>?_);obtain⟨x,H1,I1,l,g⟩:=n;obtain⟨c,rfl,g⟩:=g;cases l;refine ol ?_;cases c with
 |true=>exact q _ j Z H1 Q I1 g
 |false=>exact#[.bl _,H1,I1,rfl,g]
theorem Qr(n:PE X a ta):PE X (.UnaryOp .Not a pos) (SM ta):=by
 intro aa1 s Z H Q I h;refine UnaryOp_ (bu (n _ s Z H _ I h) λv q l=>?_);obtain⟨x,H1,I1,j,g⟩:=l;obtain⟨c,rfl,g⟩:=g;cases j;exact not_of (ol #[.bl !c,H1,I1,rfl,g])
def tIf(t:TT)(ta tb:TE):TE:=λZ H Q=>t Z H λc H1=>if c=true then ta Z H1 Q else tb Z H1 Q
theorem G7(n:PT X c tA)(v:PE X a ta)(q:PE X b tb):PE X (.IfExp c a b pos) (tIf tA ta tb):=by
 intro aa1 s Z H Q I h;refine wpAny_IfExp (bu (n _ s Z H _ I h) λd g l=>?_);obtain⟨H1,I1,j⟩:=l;cases d with
 |true=>exact v _ g Z H1 Q I1 j
 |false=>exact q _ g Z H1 Q I1 j
end
def SqL(K:Uh)(H:Hp)(a:cp)(xs:List V):Prop:=
 Rd H a (.lst xs)\/
  ∃(o:Obj)(aa7:abh)(n:Nat),K.lookup a=ap o/\o.cls=.type "list"/\o.dict=ca/\o.data=.seq aa7 n/\aa7.size<=sizeLine/\Vals xs aa7.toList
def kI(K:Uh)(H:Hp)(a:cp)(xs:List V):Prop:=
 Rd H a (.tup xs)\/
  ∃(o:Obj)(aa7:abh)(n:Nat),K.lookup a=ap o/\o.cls=.type "tuple"/\o.data=.seq aa7 n/\aa7.size<=sizeLine/\Vals xs aa7.toList
noncomputable def absV:ay->Option V
 |.none=>ap .non
 |.bool b=>ap (.bl b)
 |.int i _=>ap (.int i)
 |.str x _=>ap (.str x)
 |.bytes b _=>ap (.byt b)
 |.float b _=>ap (.flt b)
 |.ref a=>ap (.ref a)
 |.type n=>ap (.ty n)
 |_=>ca
theorem RelV.abs{x:V}(r:RelV x u):absV u=ap x:=by
 cases x with
 |non=>cases r;rfl
 |bl _=>cases r;rfl
 |int _=>obtain⟨t,rfl⟩:=r;rfl
 |str _=>obtain⟨t,rfl⟩:=r;rfl
 |byt _=>obtain⟨t,rfl⟩:=r;rfl
 |flt _=>obtain⟨t,rfl⟩:=r;rfl
 |ref _=>cases r;rfl
 |ty _=>cases r;rfl
theorem RelV.inj{x:V}(r:RelV x u)(q:RelV y u):x=y:=Vh (r.abs.symm.trans q.abs)
theorem Vals.inj:∀{xs ys:List V}{us:aba},Vals xs us->Vals ys us->xs=ys:=by
 intro xs ys us h
 induction h generalizing ys with
 |nil=>intro h';cases h';rfl
 |cons r _ ih=>intro h';cases h' with|cons r' t'=>rw[r.inj r',ih t']
theorem SqL.of(h:H a=ap (.lst xs)):SqL K H a xs:=.inl (.inl h)
theorem Inv.list(I:Inv X aa1 Z H s)(h:SqL X.K H a xs):∃aa7:List ay,Vals xs aa7/\PlainL s.heap a aa7.toArray/\xs.length<=sizeLine:=by
 rcases h with h|⟨o,aa7,n,hk,hc,hd,hs,hz,r⟩
 .obtain⟨z,aa7,n,r,e⟩:=h.ok I.hok
  exact#[_,r,#[_,n,e,rfl,rfl,rfl],z]
 refine#[_,r,#[o,n,I.kIn a o hk,hc,hd,by simpa using hs],?_]
 have e:=r.length;simp only[Vp]at e;lia
theorem Inv.tuple(I:Inv X aa1 Z H s)(h:kI X.K H a xs):∃aa7:List ay,Vals xs aa7/\IsTup s.heap a aa7.toArray/\xs.length<=sizeLine:=by
 rcases h with h|⟨o,aa7,n,hk,hc,hs,hz,r⟩
 .obtain⟨z,aa7,r,g,e,c,_⟩:=h.ok I.hok
  exact#[_,r,#[g,e,c],z]
 refine#[_,r,#[o,I.kIn a o hk,hc,n,by simpa using hs],?_]
 have e:=r.length;simp only[Vp]at e;lia
theorem Inv.list_inj(I:Inv X aa1 Z H s)(h:SqL X.K H a xs)(h':SqL X.K H a ys):xs=ys:=by
 obtain⟨j,r,⟨o,n,e,_,_,d⟩,_⟩:=I.list h;obtain⟨g,v,⟨y,z,q,_,_,l⟩,_⟩:=I.list h';rw[e]at q;cases q;rw[d]at l
 injection l with d1 _
 have:j=g:=by simpa using congrArg WO d1
 subst this;exact r.inj v
theorem Inv.tuple_inj(I:Inv X aa1 Z H s)(h:kI X.K H a xs)(h':kI X.K H a ys):xs=ys:=by
 obtain⟨j,r,⟨o,e,_,n,d⟩,_⟩:=I.tuple h;obtain⟨g,v,⟨y,q,_,z,l⟩,_⟩:=I.tuple h';rw[e]at q;cases q;rw[d]at l
 injection l with d1 _
 have:j=g:=by simpa using congrArg WO d1
 subst this;exact r.inj v
noncomputable abbrev Cx.wish(X:Cx)(E:abe):Cx:={ X with xe:=E }
abbrev Cx.nox(X:Cx):Cx:=X.wish λ_ _=>False
theorem Cx.Ok.wish(ok:X.Ok)(E:abe):(X.wish E).Ok:=
 #[ok.mod,ok.kind,ok.glob,ok.blt,ok.above,ok.inj,ok.has,ok.cab,ok.hd,ok.frames,ok.stk,ok.exf,ok.bs,ok.bsz,ok.noex,ok.exfs,ok.funs,ok.frf]
theorem Cx.Ok.unwish(ok:(X.wish E).Ok):X.Ok:=
 #[ok.mod,ok.kind,ok.glob,ok.blt,ok.above,ok.inj,ok.has,ok.cab,ok.hd,ok.frames,ok.stk,ok.exf,ok.bs,ok.bsz,ok.noex,ok.exfs,ok.funs,ok.frf]
theorem Inv.wish(I:Inv X aa1 Z H s)(E:abe):Inv (X.wish E) aa1 Z H s:=#[I.ok.wish E,I.os,I.bare,I.base,I.loc,I.cell,I.free,I.freeC,I.pin,I.hok,I.len]
theorem Inv.unwish(I:Inv (X.wish E) aa1 Z H s):Inv X aa1 Z H s:=#[I.ok.unwish,I.os,I.bare,I.base,I.loc,I.cell,I.free,I.freeC,I.pin,I.hok,I.len]
section
variable{st:mu}
def SI:TS:=λD Z H=>D.nx Z H
def tSeq(t u:TS):TS:=λD Z H=>t { D with nx:=u D } Z H
theorem J6:AM X [] SI:=λ_ _ Z H _ I h=>re #[Z,H,I,h]
theorem F3(n:PS X st t)(l:AM X rest u):AM X (st::rest) (tSeq t u):=by
 intro aa1 s Z H D I h;refine aak (bu (n _ s Z H _ I h) λf g q=>?_);cases f with
 |next=>
  obtain⟨j,H',I',q⟩:=q;exact l _ g _ H' D I' q
 |ret v=>exact q
 |brk=>exact q
 |cont=>exact q
theorem Kc(g:PS X st t):AM X [st] t:=by
 intro aa1 s Z H D I h;refine aak (bu (g _ s Z H D I h) λf j q=>?_);cases f with
 |next=>exact re q
 |ret v=>exact q
 |brk=>exact q
 |cont=>exact q
theorem Inv.quiet(I:Inv X aa1 Z H s):interactive X.env=false:=by simp[interactive,I.ok.kind]
def Tl(te:TE):TS:=λD Z H=>te Z H λ_ H1=>D.nx Z H1
theorem Lp(l:PE X e te)(j:py e ca pos.line X.env=pure false:=by rfl):PS X (.Expr e pos) (Tl te):=by
 intro aa1 s Z H D I h;exact wpAny_Expr_any (bu (l _ s Z H _ I h)<|by rintro v n ⟨x,H1,I1,q,g⟩;exact#[Z,H1,I1,g]) I.quiet j
def tRet(te:TE):TS:=λD Z H=>te Z H D.rt
theorem O6(l:PE X e te):PS X (.Return (ap e) pos) (tRet te):=by
 intro aa1 s Z H D I h;exact wpAny_Return_some (bu (l _ s Z H _ I h)<|by rintro v n ⟨x,H1,I1,g,j⟩;exact#[x,Z,H1,I1,g,j])
def tIfS(c:TT)(t u:TS):TS:=λD Z H=>c Z H λb H1=>if b=true then t D Z H1 else u D Z H1
theorem TW{a b:abd}(q:PT X c l)(y:AM X a t)(v:AM X b u):PS X (.If c a b pos) (tIfS l t u):=by
 intro aa1 s Z H D I h;refine wpAny_If (bu (q _ s Z H _ I h) λd g n=>?_);obtain⟨H1,I1,j⟩:=n;cases d with
 |true=>exact y _ g Z H1 D I1 j
 |false=>exact v _ g Z H1 D I1 j
end
abbrev TG:=V->St->Hp->(St->Hp->Prop)->Prop
abbrev Ni:=List V->St->Hp->(St->Hp->Prop)->Prop
def PG(X:Cx)(target:eT)(t:TG):Prop:=
 ∀(aa1:abf)(s:cb)(Z:St)(H:Hp)(v:V)(u:ay)(Q:St->Hp->Prop),Inv X aa1 Z H s->RelV v u->t v Z H Q->
  eg (ez X.prog X.w) X.A (aan target X.env u) (λ_ g=>∃σ' H',Inv X aa1 σ' H' g/\Q σ' H') X.xe s
def Qd(X:Cx)(ts:abc)(t:Ni):Prop:=
 ∀(aa1:abf)(s:cb)(Z:St)(H:Hp)(vs:List V)(us:aba)(Q:St->Hp->Prop),Inv X aa1 Z H s->Vals vs us->t vs Z H Q->
  eg (ez X.prog X.w) X.A (assignInOrder ((mm ts X.env).map (·.2)) us) (λ_ g=>∃σ' H',Inv X aa1 σ' H' g/\Q σ' H') X.xe s
abbrev Oj:=V->V->V->Hp->(Hp->Prop)->Prop
def Oi(X:Cx)(t:Oj):Prop:=
 ∀(aa1:abf)(s:cb)(Z:St)(H:Hp)(o i v:V)(ov iv u:ay)(Q:Hp->Prop),Inv X aa1 Z H s->RelV o ov->RelV i iv->RelV v u->t o i v H Q->
  eg (ez X.prog X.w) X.A (setItem ov iv u) (λ_ g=>∃H',Inv X aa1 Z H' g/\Q H') X.xe s
abbrev TIp:=V->V->Hp->VK->Prop
def NJ(X:Cx)(op:W_)(t:TIp):Prop:=
 ∀(aa1:abf)(s:cb)(Z:St)(H:Hp)(x y:V)(v u:ay)(Q:VK),Inv X aa1 Z H s->RelV x v->RelV y u->t x y H Q->
  eg (ez X.prog X.w) X.A (inplaceOp op v u) (EP X aa1 Z Q) X.xe s
def MP(i:Nat):TG:=λv Z H Q=>Q (Z.set i<|some v) H
theorem Kb(g:X.N.Nodup)(l:X.N[i]?=ap x)(j:Ii X.env.scope x)(n:X.fn x=true\/X.env.scope.names.lookup x=ap .local:=by and_intros):PG X (.Name x pos) (MP i):=by
 intro aa1 s Z H v u Q I r h;exact wpAny_assign_Name (o7 I g l j r (λq I'=>#[_,H,I',h]) n)
def gNil:Ni:=λg Z H Q=>g=[]/\Q Z H
def RO(t:TG)(u:Ni):Ni:=λj Z H Q=>∃v r,j=v::r/\t v Z H λg H'=>u r g H' Q
theorem JH:Qd X [] gNil:=by
 rintro aa1 s Z H g us Q I r ⟨e,h⟩
 exact assignInOrder_nil #[Z,H,I,h]
theorem GQ(y:PG X e t)(n:Qd X es u)(q:(mm (e::es) X.env).map (·.2)=aan e X.env::(mm es X.env).map (·.2):=by rfl):Qd X (e::es) (RO t u):=by
 rintro aa1 s Z H B us Q I r ⟨v,z,j,h⟩
 subst j;cases r with
 |cons r rr=>
  rw[q];exact assignInOrder_cons (bu (y _ s Z H _ _ _ I r h)<|by rintro _ g ⟨_,H1,I1,l⟩;exact(n _ g _ H1 _ _ Q I1 rr l))
def gTup(K:Uh)(n:Nat)(t:Ni):TG:=λv Z H Q=>∃a xs,v=.ref a/\kI K H a xs/\xs.length=n/\t xs Z H Q
theorem OA(hc:X.calm=true)(h:Qd X es t)(hn:(mm es X.env).length=n:=by rfl)(hst:(mm es X.env).findIdx? (·.1)=none:=by rfl):PG X (.Tuple es k pos) (gTup X.K n t):=by
 rintro aa1 s Z H v u Q I r ⟨a,xs,e1,hq,hl,hw⟩
 subst e1;cases r;obtain⟨aa7,rv,ht,hz⟩:=I.tuple hq;refine assign_Tuple_tuple (I.ok.hd hc) ht (by simp[hn,<- hl,rv.length]) hst λh' hx=>?_
 have I1:Inv X _ Z H _:=I.kept (t':=s.toks) λb o e=>hx b o (Uy<|Ug e) e;exact h _ _ Z H xs _ Q I1 (by trivial) hw
def gSub(to ti:TE)(t:Oj):TG:=λv Z H Q=>to Z H λo H1=>ti Z H1 λi H2=>t o i v H2 λH3=>Q Z H3
theorem NR{i:eT}(L:PE X o to)(G:PE X i g)(O:Oi X t)(J:∀v,aan (.Subscript o i pos) X.env v=(do
   let ov <- q0 [v] (ff o X.env)
   let iv <- q0 [v,ov] (ff i X.env)
   L' pos
   q0 [v,ov,iv] (setItem ov iv v)
   release [v,ov,iv] []):=by intro _;rfl):PG X (.Subscript o i pos) (gSub to g t):=by
 intro aa1 s Z H v u Q I r h;rw[J];refine ax (j0 (bu (L _ s Z H _ I h) λov l z=>?_));obtain⟨x,H1,I1,q,B⟩:=z;exact ax (j0<|bu (G _ l Z H1 _ I1 B)<|by rintro iv s2 ⟨y,H2,I2,n,j⟩;exact(ax<|wpAny_standAt<|wpAny_bind<|wpAny_holding<|bu (O aa1 s2 Z H2 x y v ov iv u _ I2 q n r j)<|by rintro _ R ⟨H3,I3,F⟩;exact(wpAny_release #[Z,H3,I3,F])))
def TM(te:TE)(g:TG):TS:=λD Z H=>te Z H λx H1=>g x Z H1 D.nx
theorem Oy(F:PE X e te)(B:PG X tg g)(z:swapsWithSole [tg] e pos.line X.env=pure false:=by rfl)(hw:swappedStores [tg] e X.env=pure none:=by rfl)(h1:(mm [tg] X.env).map (·.2)=[aan tg X.env]:=by rfl):PS X (.Assign [tg] e pos) (TM te g):=by
 intro aa1 s Z H D I h;refine wpAny_Assign_stores (bu (F _ s Z H _ I h) λv j n=>?_) z hw;obtain⟨x,H1,I1,l,y⟩:=n;rw[h1];exact bu (B _ j Z H1 x v _ I1 l y) λ_ s2 q=>q
theorem Qu(z:X.N.Nodup)(q:X.N[i]?=ap x)(l:Ii X.env.scope x)(n:PE X e te)(B:py e (ap<|.Name x pos') pos.line X.env=pure false:=by rfl)(hf:X.fn x=true\/X.env.scope.names.lookup x=ap .local:=by and_intros):
  PS X (.Assign [.Name x pos'] e pos) (TM te<|MP i):=by
 intro aa1 s Z H D I h;refine wpAny_Assign_Name (bu (n aa1 s Z H _ I h) λv F ⟨y,H1,I1,g,j⟩=>?_) B;exact o7 I1 z q l g (λs2 I2=>#[_,H1,I2,j]) hf
def tAug(i:Nat)(te:TE)(ti:TIp):TS:=λD Z H=>∃x,Z[i]?=ap (ap x)/\te Z H λy H1=>ti x y H1 λz H2=>D.nx (Z.set i<|some z) H2
theorem OY(hN:X.N.Nodup)(B:X.N[i]?=ap x)(q:Ii X.env.scope x)(Y:PE X e te)(ho:NJ X op F)(hf:X.fn x=true\/X.env.scope.names.lookup x=ap .local:=by and_intros):
  PS X (.AugAssign (.Name x pos') op e pos) (tAug i te F):=by
 rintro aa1 s Z H D I ⟨v,O,h⟩
 obtain⟨m,G,U⟩:=I.loc;have n:R7 X.env.scope x:=by rcases q with k|k;exact .inl k;exact .inr (.inl k)
 obtain⟨u,r,l⟩:=U i x v B O n;refine wpAny_AugAssign_Name ?_;have go:eg (ez X.prog X.w) X.A (ff e X.env) (λw g=>eg (ez X.prog X.w) X.A (inplaceOp op u w) (λr j=>eg (ez X.prog X.w) X.A (storeName X.env x r) (λ_=>SP X aa1 D .next) X.xe j) X.xe g) X.xe s:=by
  exact bu (Y _ s Z H _ I h) (by rintro w L ⟨y,H1,I1,J,W⟩;exact bu (ho aa1 L Z H1 v y u w _ I1 r J W) (by rintro z s2 ⟨zv,H2,I2,T,S⟩;exact o7 I2 hN B q T (λs3 I3=>#[_,H2,I3,S]) hf))
 rcases l with⟨hk,R⟩|⟨hk,c,hc,hcell⟩
 .exact aaV I.ok.kind hk G R go
 rcases hk with hk|hk
 .exact wpAny_loadName_cell I.ok.kind hk hc hcell go
 rcases q with k|k
 .have:X.env.scope.names.lookup x=ap .free:=hk
  rw[k]at this;cases this
 .have:X.env.scope.names.lookup x=ap .free:=hk
  rw[k]at this;cases this
def ipI(f:Int->Int->Int):TIp:=λx y H Q=>∃i j,x=.int i/\y=.int j/\Q (.int<|f i j) H
theorem NS:NJ X .Add (ipI λi j=>i+j):=by
 rintro aa1 s Z H x y v u Q I n g ⟨i,j,l,z,q⟩
 subst l z;obtain⟨t,rfl⟩:=n;obtain⟨t',rfl⟩:=g;exact iadd_int #[.int _,H,I.tok _,#[_,rfl],q]
def OF(c:TT)(tb:TS):TS:=λD Z H=>∃W:Nat->St->Hp->Prop,(∃m,W m Z H)/\∀m Z H,W m Z H->
 c Z H λb H1=>if b=true then ∃N:St->Hp->Prop,(∀σ' H',N σ' H'->∃m',m'<m/\W m' σ' H')/\tb { D with nx:=N,ct:=N,bk:=D.nx } Z H1 else D.nx Z H1
theorem Ex(G:aaI (ez X.prog X.w) X.A X.env X.xe)(hc:PT X c J)(hb:AM X body tb):PS X (.While c body [] pos) (OF J tb):=by
 rintro aa1 s Z H D I ⟨W,⟨O,L⟩,turn⟩
 refine wpAny_While (codeAny_whileLoop (λn S=>∃σ' H',Inv X _ σ' H' S/\W n σ' H') ?_ O #[Z,H,I,L])
 rintro n T ⟨U,H1,I1,R⟩
 refine pa G (bu (hc _ T _ H1 _ I1<|turn n _ H1 R) λb s2 Y=>?_);obtain⟨H2,I2,g⟩:=Y;cases b with
 |true=>
  obtain⟨N,F,g⟩:=g;refine pa G (bu (hb _ s2 _ H2 _ I2 g) λf s3 j=>?_);cases f with
  |next=>
   obtain⟨z,H3,I3,l⟩:=j;obtain⟨q,y,B⟩:=F _ H3 l;exact#[q,y,_,H3,I3,B]
  |cont=>
   obtain⟨z,H3,I3,l⟩:=j;obtain⟨q,y,B⟩:=F _ H3 l;exact#[q,y,_,H3,I3,B]
  |brk=>exact j
  |ret v=>exact j
 |false=>
  exact re #[_,H2,I2,g]
structure It where
 go:Nat->Hp->Prop
 yld:Nat->Hp->V->Hp->Prop
 stop:Nat->Hp->Prop
def jN(X:Cx)(aa1:abf)(H:Hp)(b:cp):Prop:=
 H b=ca/\b≠X.env.locals/\b∉X.fs/\(b∈X.ex\/X.s₀.heap.objs.size<=b)/\(∀x c,X.env.cells.lookup x=ap c->c≠b)/\∀p∈X.pn++aa1,p.1≠b
theorem Inv.fpOk(I:Inv X aa1 Z H s)(g:s.heap.objs.size<=b)(l:H' b=ca):jN X aa1 H' b:=by
 refine#[l,Wc (Ur I.lt g),I.nofs g,.inr (Uw I.sz g),λx c e z=>?_,λp j z=>?_]
 .obtain⟨v,q⟩:=I.cell x c e
  exact absurd (Ur q.lt<|by simp_all) (U8 _)
 exact absurd (Ur (Ug (I.pin p j).1)<|by rw[z];exact g) (U8 _)
structure Turn(P:eH)(w:fx)(K:Uh)(tg:eT)(J:It)(fp:abb)(it:cp)(tn:Nat->g3->Prop):Prop where
 mem:it∈fp
 obj:∀i h,tn i h->∀b∈fp,∃o,h.get? b=ap o/\∀v,o.data≠.cell v
 keep:∀i h h',tn i h->(∀b∈fp,∀o,h.get? b=ap o->h'.get? b=ap o)->tn i h'
 item:∀(X:Cx),X.prog=P->X.w=w->X.K=K->X.calm=true->∀(i:Nat)(aa1:abf)(s:cb)(Z:St)(H:Hp)(E:abe),Inv X aa1 Z H s->(∀b∈fp,jN X aa1 H b)->tn i s.heap->J.go i H->
  eg (ez P w) X.A (w6<|.ref it) (λr s1=>∃u,r=ap u/\
   eg (ez P w) X.A (WF tg (.ref it) u) (λ_ s2=>∃x H',Inv X aa1 Z H' s2/\RelV x u/\J.yld i H x H'/\tn (i+1) s2.heap/\∀b∈fp,H' b=ca) E s1) E s
 done:∀(X:Cx),X.prog=P->X.w=w->X.K=K->X.calm=true->∀(i:Nat)(aa1:abf)(s:cb)(Z:St)(H:Hp)(E:abe),Inv X aa1 Z H s->(∀b∈fp,jN X aa1 H b)->tn i s.heap->J.stop i H->
  eg (ez P w) X.A (w6<|.ref it) (λr s1=>r=ca/\Inv X aa1 Z H s1) E s
 self:∀(A:fv)(i:Nat)(s:cb)(Q:abe)(E:abe),tn i s.heap->Q (.ref it) s->eg (ez P w) A (aad<|.ref it) Q E s
abbrev TI:=St->Hp->(It->Hp->Prop)->Prop
def PIE(X:Cx)(aa1:abf)(Z:St)(tg:eT)(R:It->Hp->Prop)(itv:ay)(s2:cb):Prop:=
 ∃(it:cp)(fp:abb)(tn:Nat->g3->Prop)(J:It)(H':Hp),itv=.ref it/\Inv X aa1 Z H' s2/\Turn X.prog X.w X.K tg J fp it tn/\tn 0 s2.heap/\(∀b∈fp,jN X aa1 H' b)/\R J H'
def PI(X:Cx)(tg iter:eT)(wi:TI):Prop:=
 ∀(aa1:abf)(s:cb)(Z:St)(H:Hp)(R:It->Hp->Prop),Inv X aa1 Z H s->wi Z H R->
  eg (ez X.prog X.w) X.A (ff iter X.env) (λv g=>eg (ez X.prog X.w) X.A (aad v) (PIE X aa1 Z tg R) X.xe g) X.xe s
theorem ve(v:s.heap.get? j=ap o)(l:o.cls=.type n)(q:o.data=.fields vs)(y:["enumerate","zip","dict_itemiterator","dict_reverseitemiterator","odict_iterator","itertools.zip_longest","itertools.pairwise"].contains n=cx)(g:Q () s):eg M A (WF tg (.ref j) u) Q E s:=by
 unfold WF
 cases tg<;>first
  |exact cT g
  |(cases u<;>first
    |exact cT g
    |(refine ax (wpAny_load v ?_)
      rw[l,q];show eg M A (if (["enumerate","zip","dict_itemiterator","dict_reverseitemiterator","odict_iterator","itertools.zip_longest","itertools.pairwise"].contains n&&vs[0]?==ap (p4 _))=true then _ else _) Q E s
      rw[if_neg (by intro h;rw[y,Bool.false_and]at h;cases h)]
      exact cT g))
noncomputable def Itl(K:Uh)(a:cp):It:=
 #[λi H=>∃xs x,SqL K H a xs/\xs[i]?=ap x,λi H x H'=>H'=H/\∀xs,SqL K H a xs->xs[i]?=ap x,λi H=>∃xs,SqL K H a xs/\xs.length<=i]
noncomputable def Itt(K:Uh)(a:cp):It:=
 #[λi H=>∃xs x,kI K H a xs/\xs[i]?=ap x,λi H x H'=>H'=H/\∀xs,kI K H a xs->xs[i]?=ap x,λi H=>∃xs,kI K H a xs/\xs.length<=i]
noncomputable def Itr(lo:Int)(n:Nat):It:=#[λi _=>i<n,λi H x H'=>H'=H/\x=.int (lo+i),λi _=>n<=i]
theorem CY(a l:cp):Turn P w K tg (Itl K a) [l] l (λi h=>h.IsListIter l a i) where
 mem:=by simp
 obj:=λi h g b j=>by
  obtain⟨o,e,c,d⟩:=g
  simp_all
 keep:=λi h h' g k=>g.at λo e=>k l (by simp) o e
 item:=by
  intro X S z G W i aa1 s Z H E I v g B;subst S z G;obtain⟨xs,x,q,L⟩:=B;obtain⟨U,O,p,Y⟩:=I.list q;obtain⟨u,hu,ru⟩:=O.get L;obtain⟨T,J,f2,y,R,F⟩:=v l (by simp)
  refine aaK g p.isList (x:=u) (by simp_all) λh' n sb=>?_
  have I1:Inv X _ Z H _:=I.turned (t':=s.toks) (λb o j e=>(sb.2 b j).trans e) T J y R F;obtain⟨o,e,c,d⟩:=id n;exact#[u,rfl,ve e c d (by decide) #[x,H,I1,ru,#[rfl,λys hy=>by rw[I.list_inj hy q];exact L],n,λb j=>(v b j).1]]
 done:=by
  intro X S z G W i aa1 s Z H E I v g B;subst S z G;obtain⟨xs,q,L⟩:=B;obtain⟨U,O,p,Y⟩:=I.list q;obtain⟨T,J,f2,y,R,F⟩:=v l (by simp)
  have hl:=O.length;exact aaT (I.ok.hd W) g p.isList (by simp;lia) λh' eb=>#[rfl,I.turned (λb o j e=>eb b o j e) T J y R F]
 self:=λ_ _ _ _ _ g h=>wpAny_pyIter_listiter g h
theorem xK(a l:cp):Turn P w K tg (Itt K a) [l] l (λi h=>h.IsTupleIter l a i) where
 mem:=by simp
 obj:=λi h g b j=>by
  obtain⟨o,e,c,d⟩:=g
  simp_all
 keep:=λi h h' g k=>g.at λo e=>k l (by simp) o e
 item:=by
  intro X S z G W i aa1 s Z H E I v g B;subst S z G;obtain⟨xs,x,q,L⟩:=B;obtain⟨U,O,p,Y⟩:=I.tuple q;obtain⟨u,hu,ru⟩:=O.get L;obtain⟨T,J,f2,y,R,F⟩:=v l (by simp)
  refine wpAny_pyNext_tuple_item g p (x:=u) (by simp_all) λh' n sb=>?_
  have I1:Inv X _ Z H _:=I.turned (t':=s.toks) (λb o j e=>(sb.2 b j).trans e) T J y R F;obtain⟨o,e,c,d⟩:=id n;exact#[u,rfl,ve e c d (by decide) #[x,H,I1,ru,#[rfl,λys hy=>by rw[I.tuple_inj hy q];exact L],n,λb j=>(v b j).1]]
 done:=by
  intro X S z G W i aa1 s Z H E I v g B;subst S z G;obtain⟨xs,q,L⟩:=B;obtain⟨U,O,p,Y⟩:=I.tuple q;obtain⟨T,J,f2,y,R,F⟩:=v l (by simp)
  have hl:=O.length;exact wpAny_pyNext_tuple_end (I.ok.hd W) g p (by simp;lia) λh' eb=>#[rfl,I.turned (λb o j e=>eb b o j e) T J y R F]
 self:=λ_ _ _ _ _ g h=>wpAny_pyIter_tupleiter g h
theorem yf(j:cp)(R:Int)(n:Nat):Turn P w K tg (Itr R n) [j] j (λi h=>IsRangeIter h j (R+(i:Nat)*1) ((n:Int)-(i:Nat)) 1) where
 mem:=by simp
 obj:=λi h g b l=>by
  simp_all
 keep:=λi h h' g k=>k j (by simp) _ g
 item:=by
  intro X U S T z i aa1 s Z H E I y g F;subst U S T;obtain⟨O,J,Y,B,L,G⟩:=y j (by simp)
  refine (Walks.range (I.ok.hd z) j R 1 n).item i s _ _ F g λv h' W hv q kk=>?_;obtain⟨t,rfl⟩:=hv;have I1:Inv X _ Z H { s with heap:=h',toks:=W }:=I.turned (λb o l e=>kk b o (by simpa using l) e) O J B L G
  refine#[_,rfl,ve q rfl rfl (by decide) #[.int _,H,I1,#[t,?_],#[rfl,rfl],q,λb l=>(y b l).1]]
  rw[Int.mul_one]
 done:=by
  intro X U S T z i aa1 s Z H E I y g F;obtain⟨O,J,Y,B,L,G⟩:=y j (by simp)
  exact wpAny_pyNext_range_end (I.ok.hd z) g (by have:n<=i:=F;lia) λh' eb=>#[rfl,I.turned (λb o l e=>eb b o l e) O J B L G]
 self:=λ_ _ _ _ _ g h=>wpAny_pyIter_rangeiter g h
theorem HM(I:Inv X aa1 Z H s)(G:-(2 ^ 62)<=g)(F:g<2 ^ 62)(J:-(2 ^ 62)<=j)(B:j<2 ^ 62)(q:R (Itr g (j-g).toNat) H):eg (ez X.prog X.w) X.A (aad<|.ref s.heap.objs.size) (PIE X aa1 Z tg R) E { s with heap:=s.heap.push { cls:=.type "range",data:=.fields (Tw [.int g t,.int j u,.int 1 v]) },toks:=l }:=by
 refine wpAny_pyIter_range (IsRange.new ..) (small_one G F J B) ?_;have I1:Inv X aa1 Z H { s with heap:=s.heap.push { cls:=.type "range",data:=.fields (Tw [.int g t,.int j u,.int 1 v]) },toks:=l }:=I.kept λb o e=>Ub _ e;refine#[(s.heap.push { cls:=.type "range",data:=.fields (Tw [.int g t,.int j u,.int 1 v]) }).objs.size,[(s.heap.push { cls:=.type "range",data:=.fields (Tw [.int g t,.int j u,.int 1 v]) }).objs.size],_,_,H,rfl,
  I1.kept (t':=l) λb o e=>Ub _ e,yf _ g (j-g).toNat,?_,λb n=>?_,q]
 .have z:g+((0:Nat):Int)*1=g:=by simp
  have y:(((j-g).toNat:Nat):Int)-((0:Nat):Int)=Builtin.Range.rangeSize g j 1:=by rw[rangeSize_one];split<;>lia
  show IsRangeIter _ _ (g+((0:Nat):Int)*1) ((((j-g).toNat:Nat):Int)-((0:Nat):Int)) 1;rw[z,y];exact Ui _ rfl
 .have e:b=(s.heap.push { cls:=.type "range",data:=.fields (Tw [.int g t,.int j u,.int 1 v]) }).objs.size:=by simpa using n
  subst e;exact I1.fpOk (Um _) (I1.hok.fresh<|Um _)
def T2(ta:TA):TI:=λZ H R=>ta Z H λg H1=>∃j:Int,g=[.int j]/\-(2 ^ 62)<=j/\j<2 ^ 62/\R (Itr 0 j.toNat) H1
theorem D6{a:eT}(B:Gl X "range")(y:X.mg "range"=ca)(F:PA X [a] ta)(z:ee [a] X.env=[(cx,ff a X.env)]:=by rfl):PI X tg (.Call (.Name "range" p) [a] [] pos) (T2 ta):=by
 intro aa1 s Z H R I h;refine Call_ (dk I B y boot_range<|UU (bu (F _ _ s Z H _ I h) λus G v=>?_) z rfl);obtain⟨J,H1,I1,n,g⟩:=v;obtain⟨j,e,g,l,q⟩:=g;subst e;cases n with
 |cons r rr=>
  cases rr;obtain⟨t,rfl⟩:=r;exact call_range_1 (HM I1 (by lia) (by lia) g l<|by simpa using q)
def tFor(wi:TI)(g:TG)(tb:TS):TS:=λD Z H=>wi Z H λJ H1=>∃W:Nat->Nat->St->Hp->Prop,(∃m,W 0 m Z H1)/\∀i m Z H,W i m Z H->
 (J.stop i H/\D.nx Z H)\/(J.go i H/\∃N:St->Hp->Prop,(∀σ' H',N σ' H'->∃m',m'<m/\W (i+1) m' σ' H')/\∀x H',J.yld i H x H'->g x Z H' λj H2=>tb { D with nx:=N,ct:=N,bk:=D.nx } j H2)
noncomputable def nG(fp:abb)(h:g3):List (cp×Obj):=fp.filterMap λb=>(h.get? b).map λo=>(b,o)
theorem fO(g:b∈fp)(e:h.get? b=ap o):(b,o)∈nG fp h:=Zi.mpr #[b,g,by rw[e];rfl]
theorem DY(j:p∈nG fp h):p.1∈fp/\h.get? p.1=ap p.2:=by
 obtain⟨b,l,e⟩:=Zi.mp j;cases q:h.get? b with
 |none=>simp_all
 |some o=>
  rw[q]at e;have g:=Vh e;subst g;trivial
theorem Inv.pinned(I:Inv X aa1 Z H s)(n:∀b∈fp,jN X aa1 H b)(l:∀b∈fp,∃o,s.heap.get? b=ap o/\∀v,o.data≠.cell v):Inv X (aa1++nG fp s.heap) Z H s:=
 I.pins_of λp j=>(Uz.mp j).elim (λz=>I.pin p (UR _ z)) λz=>by
  obtain⟨g,e⟩:=DY z;obtain⟨F,y,q,_⟩:=n _ g;obtain⟨o,B,d⟩:=l _ g
  simp_all
theorem Inv.unpinned(I:Inv X (aa1++pl) Z H s):Inv X aa1 Z H s:=I.pins_of λp g=>I.pin p (UR _<|Vl _ g)
theorem Ox(U:aaI (ez X.prog X.w) X.A X.env X.xe)(hc:X.calm=true)(hi:PI X tg y wi)(hg:PG X tg g)(q:AM X body tb)(hs:∀x,p7 y X.env x=pure x:=by intro _;rfl):PS X (.For tg y body [] pos) (tFor wi g tb):=by
 intro aa1 s Z H D I h;refine wpAny_For (bu (hi _ s Z H _ I h) λv s1 h1=>bu h1 λitv s2 h2=>?_) hs;obtain⟨it,fp,tn,J,H2,e,I2,T,Y,f2,W,⟨m0,w0⟩,G⟩:=h2;subst e
 -- what stays true of the iterator's objects through the loop
 have l:∀{H':Hp},(∀b∈fp,H' b=ca)->∀b∈fp,jN X _ H' b:=λhn b q=>#[hn b q,(f2 b q).2];refine codeAny_forLoop_any (λn s'=>∃i σ' H',Inv X _ σ' H' s'/\tn i s'.heap/\(∀b∈fp,H' b=ca)/\W i n σ' H') ?_ m0 #[0,Z,H2,I2,Y,λb q=>(f2 b q).1,w0]
 rintro n s3 ⟨i,σ3,H3,I3,R,S,w3⟩
 rcases G i n _ H3 w3 with⟨O,qn⟩|⟨go,N,hN,step⟩
 .refine pa U (bu (T.done X rfl rfl rfl hc i _ s3 _ H3 _ I3 (l S) R O) λr s4 B=>?_)
  obtain⟨hr,I4⟩:=B;subst hr;exact re #[_,H3,I4,qn]
 refine pa U (bu (T.item X rfl rfl rfl hc i _ s3 _ H3 _ I3 (l S) R go) λr s4 B=>?_);obtain⟨u,hr,h4⟩:=B;subst hr;refine pa U (bu h4 λ_ s5 B=>?_);obtain⟨x,H5,I5,r5,y5,F,fr5⟩:=B;refine pa U (bu (hg _ s5 σ3 H5 x u _ (I5.pinned (l fr5)<|T.obj _ _ F) r5<|step x H5 y5) λ_ s6 B=>?_);obtain⟨σ6,H6,I6,q6⟩:=B;refine pa U (bu (q _ s6 σ6 H6 _ I6 q6) λf s7 z=>?_);have again:∀{j:St}{H7:Hp},Inv X (aa1++nG fp s5.heap) j H7 s7->N j H7->∃m,m<n/\∃i σ' H',Inv X aa1 σ' H' s7/\tn i s7.heap/\(∀b∈fp,H' b=ca)/\W i m σ' H':=λ{j H7} I7 L=>by
  obtain⟨m',hm,w7⟩:=hN j H7 L;refine#[m',hm,i+1,j,H7,I7.unpinned,T.keep _ _ _ F λb q o e=>(I7.pin (b,o)<|UR _<|UR _<|fO q e).1,λb q=>?_,w7];obtain⟨o,e,d⟩:=T.obj _ _ F b q;exact(I7.pin (b,o)<|UR _<|UR _<|fO q e).2.1
 cases f with
 |next=>obtain⟨j,H7,I7,L⟩:=z;exact again I7 L
 |cont=>obtain⟨j,H7,I7,L⟩:=z;exact again I7 L
 |brk=>obtain⟨j,H7,I7,z⟩:=z;exact#[j,H7,I7.unpinned,z]
 |ret v=>obtain⟨x7,j,H7,I7,r7,z⟩:=z;exact#[x7,j,H7,I7.unpinned,r7,z]
abbrev R2:=V->V->Hp->VK->Prop
def cQ(X:Cx)(f:ay->ay->Sem ay)(r:R2):Prop:=
 ∀(aa1:abf)(s:cb)(Z:St)(H:Hp)(x y:V)(v u:ay)(Q:VK),Inv X aa1 Z H s->RelV x v->RelV y u->r x y H Q->
  eg (ez X.prog X.w) X.A (f v u) (EP X aa1 Z Q) X.xe s
def bo(X:Cx)(f:ay)(r:List V->Hp->VK->Prop):Prop:=
 ∀(aa1:abf)(s:cb)(Z:St)(H:Hp)(xs:List V)(us:aba)(Q:VK),Inv X aa1 Z H s->Vals xs us->r xs H Q->
  eg (ez X.prog X.w) X.A (call f us) (EP X aa1 Z Q) X.xe s
def TruR(X:Cx)(r:V->Hp->(Bool->Hp->Prop)->Prop):Prop:=
 ∀(aa1:abf)(s:cb)(Z:St)(H:Hp)(x:V)(v:ay)(Q:Bool->Hp->Prop),Inv X aa1 Z H s->RelV x v->r x H Q->
  eg (ez X.prog X.w) X.A (truthy v) (TP X aa1 Z Q) X.xe s
def RM(r:R2)(ta tb:TE):TE:=λZ H Q=>ta Z H λx H1=>tb Z H1 λy H2=>r x y H2 Q
def rI(C:Int->Int->Prop)(g:Int->Int->V):R2:=λx y H Q=>∃i j,x=.int i/\y=.int j/\C i j/\Q (g i j) H
def Ec(g:Int->Int->V):R2:=λx y H Q=>∃i j,x=.int i/\y=.int j/\Q (g i j) H
section
variable{a b:eT}
theorem Qq(B:PE X a ta)(z:PE X b tb){R:V->V->Hp->Prop}(I:Inv X aa1 Z H s)(h:ta Z H λx H1=>tb Z H1 λy H2=>R x y H2){f:ay->ay->Sem ay}(F:∀v u s2 x y H2,Inv X aa1 Z H2 s2->RelV x v->RelV y u->R x y H2->eg (ez X.prog X.w) X.A (f v u) Q X.xe s2):
  eg (ez X.prog X.w) X.A (ff a X.env) (λv s₁=>eg (ez X.prog X.w) X.A (ff b X.env) (λu s₂=>eg (ez X.prog X.w) X.A (f v u) Q X.xe s₂) X.xe s₁) X.xe s:=by
 exact bu (B _ s Z H _ I h) λv j ⟨x,H1,I1,l,q⟩=>bu (z aa1 j Z H1 _ I1 q) λu s2 ⟨y,H2,I2,n,g⟩=>F v u s2 x y H2 I2 l n g
theorem TN(l:cQ X (g4 op) r)(z:PE X a ta)(n:PE X b tb):PE X (.BinOp a op b pos) (RM r ta tb):=by
 intro aa1 s Z H Q I h;exact wpAny_BinOp (Qq z n I h λv u s2 x y H2 I2 j g q=>l _ s2 Z H2 x y v u Q I2 j g q)
theorem Rb{f:ay->ay->Sem ay}{g:Int->Int->Int}(l:∀(i j:Int)(t u:Tok)(s:cb)(Q:abe)(E:abe),C i j->Q (.int (g i j) s.toks) { s with toks:=s.toks+1 }->eg (ez X.prog X.w) X.A (f (.int i t)<|.int j u) Q E s):
  cQ X f (rI C λi j=>.int (g i j)):=by
 rintro aa1 s Z H x y v u Q I B z ⟨i,j,rfl,rfl,n,q⟩
 obtain⟨t,rfl⟩:=B;obtain⟨t',rfl⟩:=z;exact l i j t t' s _ _ n #[.int _,H,I.tok _,#[_,rfl],q]
theorem Hf{f:ay->ay->Sem ay}{g:Int->Int->Int}(l:∀(i j:Int)(t u:Tok)(s:cb)(Q:abe)(E:abe),Q (.int (g i j) s.toks) { s with toks:=s.toks+1 }->eg (ez X.prog X.w) X.A (f (.int i t)<|.int j u) Q E s):
  cQ X f (Ec λi j=>.int (g i j)):=by
 rintro aa1 s Z H x y v u Q I z n ⟨i,j,rfl,rfl,q⟩
 obtain⟨t,rfl⟩:=z;obtain⟨t',rfl⟩:=n;exact l i j t t' s _ _ #[.int _,H,I.tok _,#[_,rfl],q]
theorem Kw{f:ay->ay->Sem ay}{g:Int->Int->Bool}(l:∀(i j:Int)(t u:Tok)(s:cb)(Q:abe)(E:abe),Q (.bool<|g i j) s->eg (ez X.prog X.w) X.A (f (.int i t)<|.int j u) Q E s):
  cQ X f (Ec λi j=>.bl (g i j)):=by
 rintro aa1 s Z H x y v u Q I z n ⟨i,j,rfl,rfl,q⟩
 obtain⟨t,rfl⟩:=z;obtain⟨t',rfl⟩:=n;exact l i j t t' s _ _ #[.bl _,H,I,rfl,q]
def IU(i j:Int):Prop:=0<=j/\j<=1000000/\i.natAbs<2 ^ 64
def CMul(i j:Int):Prop:=(-(2 ^ 64)<i/\i<2 ^ 64)\/(-(2 ^ 64)<j/\j<2 ^ 64)
theorem CMul.ok{i:Int}(h:CMul i j):IntMulOk i j:=by
 rcases h with⟨l,g⟩|⟨l,g⟩
 .exact .of_left (intBits_le_64 l g)
 exact .of_right (intBits_le_64 l g)
theorem Ps(k:Nat):(0:Int)<=2 ^ k:=by
 lia
theorem NE:cQ X (g4 .Add) (Ec λi j=>.int (i+j)):=Hf λ_ _ _ _ _ _ _ q=>add_int q
theorem Oa:cQ X (g4 .Sub) (Ec λi j=>.int (i-j)):=Hf λ_ _ _ _ _ _ _ q=>sub_int q
theorem Nz:cQ X (g4 .Mult) (rI CMul λi j=>.int (i*j)):=Rb λ_ _ _ _ _ _ _ g q=>mul_int q g.ok
theorem QB:cQ X (g4 .Mod) (rI (λ_ j=>0<j) λi j=>.int (i % j)):=Rb λi j _ _ _ _ _ g q=>by
 have l:(0:Int)<j:=g;exact mod_int' (by lia) (by rw[Int.fmod_eq_emod_of_nonneg i (by lia)];exact q)
theorem PU:cQ X (g4 .Pow) (rI IU λi j=>.int (i ^ j.toNat)):=Rb λ_ _ _ _ _ _ _ g q=>pow_int_small g.1 g.2.1 g.2.2 q
theorem NF:cQ X (g4 .LShift) (rI IU λi j=>.int (i*2 ^ j.toNat)):=Rb λ_ _ _ _ _ _ _ g q=>lshift_int_small g.1 g.2.1 g.2.2 q
theorem Qa:cQ X (g4 .RShift) (rI (λ_ j=>0<=j) λi j=>.int (i / 2 ^ j.toNat)):=Rb λi j _ _ _ _ _ g q=>
 rshift_int g (by grind)
theorem Ql:cQ X (g4 .BitAnd) (Ec λi j=>.int (V0 i j)):=Hf λ_ _ _ _ _ _ _ q=>and_int q
theorem U1:cQ X (g4 .BitOr) (Ec λi j=>.int (Xu i j)):=Hf λ_ _ _ _ _ _ _ q=>or_int q
theorem Qv:cQ X (g4 .BitXor) (Ec λi j=>.int (Builtin.bitXor i j)):=Hf λ_ _ _ _ _ _ _ q=>xor_int q
end
section
variable{a b:eT}
theorem FU(I:Inv X aa1 Z H s)(q:Q (.bl k) H)(e:k=g):EP X aa1 Z Q (.bool g) s:=by
 subst e;exact#[.bl k,H,I,rfl,q]
theorem RY:cQ X (hG .Lt) (Ec λi j=>.bl (decide (i<j))):=Kw λ_ _ _ _ _ _ _ q=>lt_int q
theorem Te:cQ X (hG .LtE) (Ec λi j=>.bl (decide (i<=j))):=Kw λ_ _ _ _ _ _ _ q=>le_int q
theorem T0:cQ X (hG .Gt) (Ec λi j=>.bl (decide (j<i))):=Kw λ_ _ _ _ _ _ _ q=>gt_int q
theorem SA:cQ X (hG .GtE) (Ec λi j=>.bl (decide (j<=i))):=Kw λ_ _ _ _ _ _ _ q=>ge_int q
theorem QS:cQ X (hG .Is) (λx y H Q=>y=.non/\Q (.bl<|decide (x=.non)) H):=by
 intro aa1 s Z H x y v u Q I g j h;obtain⟨rfl,q⟩:=h;cases j;refine is_none_gen (FU I q ?_)
 cases x<;>first
  |(cases g;rfl)
  |(obtain⟨t,rfl⟩:=g;rfl)
theorem Jc:cQ X (hG .IsNot) (λx y H Q=>y=.non/\Q (.bl<|!decide (x=.non)) H):=by
 rintro aa1 s Z H x y v u Q I j g ⟨rfl,q⟩
 cases g;refine isnot_none_gen (FU I q ?_)
 cases x<;>first
  |(rfl)
  |(obtain⟨t,rfl⟩:=j;rfl)
theorem Jx(z:cQ X (hG op) r)(B:PE X a ta)(n:PE X b tb)(l:Z_ op b=cx):PE X (.Compare a [op] [b] pos) (RM r ta tb):=by
 intro aa1 s Z H Q I h;exact wpAny_Compare1 (Qq B n I h λv u s2 x y H2 I2 j g q=>z aa1 s2 Z H2 x y v u Q I2 j g q) l
def Tk(t:TE):TT:=λZ H Q=>t Z H λx H'=>∃k,x=.bl k/\Q k H'
theorem Jt(O:cQ X (hG op) r)(R:PE X a ta)(L:PE X b tb)(J:Z_ op b=cx):PT X (.Compare a [op] [b] pos) (Tk<|RM r ta tb):=by
 intro aa1 s Z H Q I h;refine wpAny_isTrue_Compare1 (bu (R _ s Z H _ I h) λv j ⟨x,H1,I1,q,F⟩=>bu (L _ j Z H1 _ I1 F) λu s2 ⟨y,H2,I2,n,g⟩=>
  bu (O _ s2 Z H2 x y v u _ I2 q n g) λc S B=>?_) J
 obtain⟨z,H3,I3,l,k,e,G⟩:=B;subst e;cases l;exact ol #[H3,I3,G]
def O0(K:Uh)(x:V)(H:Hp)(k:Bool):Prop:=
 match x with
 |.non=>k=cx
 |.bl b=>k=b
 |.int i=>k=(i != 0)
 |.str y=>y.length<=sizeLine/\k=((y.length:Int) != 0)
 |.byt y=>y.size<=sizeLine/\k=((y.size:Int) != 0)
 |.ref p=>(∃xs,SqL K H p xs/\k=!xs.isEmpty)\/(∃xs,kI K H p xs/\k=!xs.isEmpty)\/∃aa3,H p=ap (.dK aa3)/\k=!aa3.isEmpty
 |_=>False
theorem yb(r:KV aa3 vs):(!vs.isEmpty)=!aa3.isEmpty:=by
 cases r<;>rfl
theorem og(r:Vals xs aa7):(!aa7.toArray.isEmpty)=!xs.isEmpty:=by
 cases r<;>simp
theorem iP:(sizeLine:Nat)<2 ^ 63:=by trivial
theorem Of:TruR X (λx H Q=>∃k,O0 X.K x H k/\Q k H):=by
 rintro aa1 s Z H x v Q I l ⟨k,e,q⟩
 have O:=iP;have R:sizeLine=16777216:=kL;cases x with
 |non=>
  cases l;have g:k=false:=e;subst g;exact truthy_none #[H,I,q]
 |bl b=>
  cases l;have g:k=b:=e;subst g;exact ol #[H,I,q]
 |int i=>
  obtain⟨t,rfl⟩:=l;have g:k=(i != 0):=e;subst g;exact PySem.P.truthy_int #[H,I,q]
 |str y=>
  obtain⟨t,rfl⟩:=l;obtain⟨J,g⟩:y.length<=sizeLine/\k=((y.length:Int) != 0):=e;subst g;exact PySem.P.truthy_str (by lia) #[H,I.tok _,q]
 |byt y=>
  obtain⟨t,rfl⟩:=l;obtain⟨J,g⟩:y.size<=sizeLine/\k=((y.size:Int) != 0):=e;subst g;exact W.truthy_bytes (by lia) #[H,I.tok _,q]
 |ref p=>
  cases l;have g:=e;rcases g with⟨L,n,g⟩|⟨L,n,g⟩|⟨aa3,n,g⟩
  .subst g
   obtain⟨B,r,pl,F⟩:=I.list n;have j:=r.length;exact wpAny_truthy_list pl.isList (by simp;lia) #[H,I.tok _,by rw[og r];exact q]
  .subst g
   obtain⟨B,r,pl,F⟩:=I.tuple n;have j:=r.length;exact truthy_tuple pl (by simp;lia) #[H,I.tok _,by rw[og r];exact q]
  subst g;obtain⟨F,G,z,r,m⟩:aa3.length<=sizeLine/\(p==n7)=cx/\∃z,KV aa3 z/\s.heap.DictOf (aT X.prog X.w) p z:=I.hok p _ n;have j:aa3.length=z.length:=VM r;exact wpAny_truthy_dict G m (by lia) #[H,I.tok _,by rw[yb r];exact q]
 |_=>trivial
theorem Ih(y:PE X a ta)(q:∀g,isTrue a X.env g=(do let v <- g;L' a.pos;q0 [v] (truthy v))):
  PT X a (λZ H Q=>ta Z H λx H'=>∃k,O0 X.K x H' k/\Q k H'):=by
 intro aa1 s Z H Q I h;exact isTrue_plain (bu (y aa1 s Z H _ I h) λv j ⟨x,H1,I1,l,n⟩=>Of aa1 j Z H1 x v Q I1 l n) (q _)
theorem xF:cQ X (g4 .Add) (λx y H Q=>∃i j,x=.str i/\y=.str j/\i.length+j.length<=sizeLine/\Q (.str (i++j)) H):=by
 rintro aa1 s Z H x y v u Q I n l ⟨i,j,rfl,rfl,g,q⟩
 obtain⟨t,rfl⟩:=n;obtain⟨t',rfl⟩:=l;exact add_str (λt' z=>#[.str _,H,I.tok _,#[_,rfl],q]) g
theorem jC{x:V}(r:Vals [x] us):∃u,us=[u]/\RelV x u:=by
 cases r with
 |cons r1 r2=>cases r2;exact#[_,rfl,r1]
theorem Mt{x:V}(r:Vals [x,y] us):∃u g,us=[u,g]/\RelV x u/\RelV y g:=by
 cases r with
 |cons r1 r2=>
  cases r2 with
  |cons r3 r4=>cases r4;exact#[_,_,rfl,r1,r3]
theorem DJ(l:X.calm=true):bo X (.builtin "max") (λxs H Q=>∃i j,xs=[.int i,.int j]/\Q (.int (if j>i then j else i)) H):=by
 rintro aa1 s Z H xs us Q I r ⟨i,j,rfl,q⟩
 obtain⟨u,v,rfl,⟨t,rfl⟩,⟨t',rfl⟩⟩:=Mt r;refine max_two_ints (I.ok.hd l) λh' n k=>#[_,H,I.kept k,?_,q]
 by_cases g:j>i
 .rw[if_pos g,if_pos g];exact#[_,rfl]
 rw[if_neg g,if_neg g];exact#[_,rfl]
theorem CP(l:X.calm=true):bo X (.builtin "min") (λxs H Q=>∃i j,xs=[.int i,.int j]/\Q (.int (if j<i then j else i)) H):=by
 rintro aa1 s Z H xs us Q I r ⟨i,j,rfl,q⟩
 obtain⟨u,v,rfl,⟨t,rfl⟩,⟨t',rfl⟩⟩:=Mt r;refine min_two_ints (I.ok.hd l) λh' n k=>#[_,H,I.kept k,?_,q]
 by_cases g:j<i
 .rw[if_pos g,if_pos g];exact#[_,rfl]
 rw[if_neg g,if_neg g];exact#[_,rfl]
end
structure ObjM(h:g3)(x dx C:cp)(mA:abg):Prop where
 obj:h.get? x=ap (W4 C dx)
 ns:h.Ns1 dx mA
 ne:dx≠x
theorem CD(n:h.Ns1 dx mA):∃j,h.get? dx=ap j/\∀name,W.lookIn name j=ap (mA name):=by
 obtain⟨o,es,J,v,l,G,_,F⟩:=n;refine#[o,v,λname=>?_];have e:=F name;unfold nsFind findBy at e;rw[<- Array.find?_toList]at e;unfold W.lookIn;rw[l];dsimp only
 split
 .rename_i y q
  rw[q]at e;exact congrArg _ e
 rename_i q
 rw[q]at e;have a:es.toList.any (·.refKey)=false:=by
  rw[XQ];intro y B;obtain⟨z,t,g⟩:=G y (Array.mem_toList_iff.mp B);simp[DictEntry.refKey,g]
 have I:¬es.toList.any (·.refKey)=true:=by rw[a];exact XG
 rw[if_neg I];exact congrArg _ e
theorem ObjM.look{x:cp}(I:ObjM h x dx C mA):∃g,W.InstAt h x (W4 C dx) C (ap g)/\∀name,W.lookIn name g=ap (mA name):=
 let ⟨g,ho,hl⟩:=CD I.ns
 #[g,#[I.obj,rfl,rfl,ho],hl]
section
variable{x:cp}
theorem Kf(X:K.In s.heap)(I:ObjM s.heap x dx C mA)(q:WH K C name=true)(n:WL K C=true)(y:Va K (.ref C) name=ap ca)(z:mA name=ap v)(j:W.handedIn v=true)(h:Q v { s with toks:=s.toks+1 }):
  eg (ez prog w) A (getAttr (.ref x) name g) Q E s:=by
 obtain⟨B,J,l⟩:=I.look;exact W.get_value X J (YT q).1 (W.findObj_own n y rfl<|by rw[l,z]) j h
theorem Gf(X:K.In s.heap)(I:ObjM s.heap x dx C mA)(g:WH K C name=true)(n:Va K (.ref C) name=ap (ap<|.ref f))(l:W.isFn K (.ref f)=true)(y:mA name=ca)(h:Q (.ref f,[.ref x]) s):
  eg (ez prog w) A (B' (.ref x) name pl) Q E s:=by
 obtain⟨j,J,q⟩:=I.look;exact W.method_fn X J (YT g).1 (YT g).2 n (beq_iff_eq.mp l) (by show (W.lookIn _ j).map _=ap _;simp_all) h
theorem g_(X:K.In s.heap)(I:ObjM s.heap x dx C mA)(T:Va K (.ref C) "__setattr__"=ap (ap<|.builtin "object.__setattr__"))(L:Xg K C=true)(S:W.takerIn K C name=ap ca)(O:WL K C=true)(R:YG mA ns)(hsz:ns.length<=sizeLine)(h:∀h',ObjM h' x dx C (λy=>if y=name then ap v else mA y)->Vr dx s.heap h'->Q () { s with heap:=h',toks:=s.toks+2 }):
  eg (ez prog w) A (setAttr (.ref x) name v) Q E s:=by
 obtain⟨U,J,hl⟩:=I.look;refine W.set_plain X J T (W.osa_open X J L S λb=>?_);obtain⟨Y,B,z⟩:=W.any_some O;refine ax (cT<|wpAny_bind<|wpAny_bind<|wpAny_loadPart I.obj<|wpAny_bind<|W.Looks.here (W.looks_clsIn X B) ?_);rw[z];refine cT (ax<|wpAny_pure<|wpAny_bind ?_);refine wpAny_nsSet1 I.ns λh' g j=>?_;obtain⟨oD,F,G,l,n,q⟩:=g.count (PySem.Within.cons _ v R);exact ax (wpAny_lookBehind l (by rw[n];exact pastItsLine_dict (Uw q<|by rw[UB];lia))<|wpAny_pure<|h _ #[(j.2 _<|UO I.ne).trans I.obj,g,I.ne] j)
theorem FR(X:K.In s.heap)(l:Xp K C=true)(n:Va K (.ref C) "__init__"=ap (ap<|.ref f))(q:W.typeIn K (.ref f)=ap (.type "function"))(h:y2 (ez prog w) (A.under<|.builtin "type.__call__" #[.ref C::vs,kw]) (.call (.ref f) #[.ref (s.heap.objs.size+1)::vs,kw]) (W.InitBack (s.heap.objs.size+1) R)
   { s with heap:=(s.heap.push V9).push (W4 C s.heap.objs.size) }):
  y2 (ez prog w) A (.call (.ref C) #[vs,kw]) R s:=by
 obtain⟨y,g,d,t,z⟩:=s;exact W.make_core (W.makes_of X l) (W.looks_findIn X n) (λj=>W.bind_fn X j q) (.inl rfl) h
end
def dA(f:Str)(v:V):List (Str×V)->List (Str×V)
 |[]=>[(f,v)]
 |(g,x)::r=>if g=f then (g,v)::r else (g,x)::dA f v r
theorem kJ(f g:Str)(v:V):∀fs:List (Str×V),(dA f v fs).lookup g=if g=f then ap v else fs.lookup g
 |[]=>by
  show UZ g [(f,v)]=_
  by_cases h:g=f
  .simp_all
  simp_all
 |(k,x)::r=>by
  rw[show dA f v _=(if k=f then (k,v)::r else (k,x)::dA f v r) from rfl]
  by_cases l:k=f
  .rw[if_pos l]
   by_cases h:g=k
   .have j:=beq_iff_eq.mpr h
    simp only[UZ,j,if_pos (h.trans l)]
   have j:(g==k)=false:=beq_eq_false_iff_ne.mpr h;simp only[UZ,j,if_neg (λe:g=f=>h (e.trans l.symm))]
  rw[if_neg l]
  by_cases h:g=k
  .have j:(g==k)=true:=beq_iff_eq.mpr h
   simp only[UZ,j,if_neg (λe:g=f=>l (h.symm.trans e))]
  .have j:(g==k)=false:=beq_eq_false_iff_ne.mpr h
   simp only[UZ,j];exact(kJ f g v r)
theorem ke(f:Str)(v:V):∀fs:List (Str×V),f∈(dA f v fs).map (·.1)/\∀g,g∈fs.map (·.1)->g∈(dA f v fs).map (·.1)
 |[]=>#[by simp[dA],λg h=>by simp at h]
 |(k,x)::r=>by
  obtain⟨i1,i2⟩:=ke f v r;rw[show dA f v _=(if k=f then (k,v)::r else (k,x)::dA f v r) from rfl]
  by_cases j:k=f
  .simp_all
  rw[if_neg j];refine#[?_,λg h=>?_]
  .exact Uj _ i1
  rw[Ue]at h ⊢;rcases Uk.mp h with e|e
  .exact Uk.mpr (.inl e)
  .exact Uj _ (i2 g e)
theorem kH(f:Str)(v:V):∀fs:List (Str×V),(dA f v fs).length<=fs.length+1
 |[]=>by simp[dA]
 |(k,x)::r=>by
  have j:=kH f v r;rw[show dA f v _=(if k=f then (k,v)::r else (k,x)::dA f v r) from rfl]
  by_cases g:k=f
  .simp_all
  simp_all
theorem dG(r:RelO (ap v) o):∃u,o=ap u/\RelV v u:=by
 cases o with
 |none=>trivial
 |some u=>exact#[u,rfl,r]
theorem jI(r:RelO ca o):o=none:=by
 cases o<;>trivial
theorem De(r:RelV v u):W.handedIn u=true:=by
 cases v with
 |non=>cases r;rfl
 |bl b=>cases r;rfl
 |int i=>obtain⟨t,e⟩:=r;cases e;rfl
 |str x=>obtain⟨t,e⟩:=r;cases e;rfl
 |byt b=>obtain⟨t,e⟩:=r;cases e;rfl
 |flt b=>obtain⟨t,e⟩:=r;cases e;rfl
 |ref a=>cases r;rfl
 |ty n=>cases r;rfl
theorem k_(g:HOk P w H h)(e:H a=ap (.ins C dx fs)):∃mA,ObjM h a dx C mA/\(∀f,RelO (fs.lookup f) (mA f))/\YG mA (fs.map (·.1))/\fs.length<=1000/\H dx=ap (.own a):=by
 obtain⟨d,z,ne,j,mA,n,r,q⟩:=(g a _ e);exact#[mA,#[j,n,ne],r,q,z,d]
structure Cls(K:Uh)(C:cp):Prop where
 pg:WH K C X1=true
 hd:WL K C=true
 po:Xg K C=true
 sa:Va K (.ref C) "__setattr__"=ap (ap<|.builtin "object.__setattr__")
theorem Cls.get(c:Cls K C)(f:Str):WH K C f=true:=c.pg
def NoAttr(K:Uh)(C:cp)(f:Str):Prop:=Va K (.ref C) f=ap ca
theorem NoAttr.taker{f:Str}(n:NoAttr K C f):W.takerIn K C f=ap none:=by
 unfold W.takerIn;rw[n];rfl
structure Meth(K:Uh)(C:cp)(m:Str)(f:cp):Prop where
 at_:Va K (.ref C) m=ap (ap<|.ref f)
 fn:W.isFn K (.ref f)=true
 kp:VB K (.ref f)=true
section
variable{f:Str}
theorem nr{b:Bool}(I:Inv X aa1 Z H s)(e:H a=ap (.ins C dx fs))(c:Cls X.K C)(n:NoAttr X.K C f)(l:fs.lookup f=ap v)(h:∀u j,Inv X aa1 Z H j->RelV v u->Q u j):eg (ez X.prog X.w) A (getAttr (.ref a) f b) Q E s:=by
 obtain⟨mA,O,r,_,_,_⟩:=k_ I.hok e;obtain⟨u,q,g⟩:=dG (v:=v) (o:=mA f) (by grind)
 exact Kf I.kIn O (c.get f) c.hd n q (De g) (h u _ (I.tok _) g)
theorem mO(I:Inv X aa1 Z H s)(e:H a=ap (.ins C dx fs))(c:Cls X.K C)(k:Meth X.K C m g)(l:fs.lookup m=ca)(h:Q (.ref g,[.ref a]) s):eg (ez X.prog X.w) A (B' (.ref a) m pl) Q E s:=by
 obtain⟨mA,O,r,_,_,_⟩:=k_ I.hok e;exact Gf I.kIn O (c.get m) k.at_ k.fn (jI<|by rw[<- l];exact r m) h
theorem ox(I:Inv X aa1 Z H s)(e:H a=ap (.ins C dx fs))(c:Cls X.K C)(n:NoAttr X.K C f)(hl:fs.length<1000)(ry:RelV y u)(h:∀s',Inv X aa1 Z (upd H a<|.ins C dx<|dA f y fs) s'->Q () s'):eg (ez X.prog X.w) A (setAttr (.ref a) f u) Q E s:=by
 obtain⟨mA,O,r,wi,_,ho⟩:=k_ I.hok e;have hz:(fs.map (·.1)).length<=sizeLine:=by rw[Uc,kL];lia
 refine g_ I.kIn O c.sa c.po n.taker c.hd wi hz λh' O' sb=>h _ ?_;have hd:∃o,h'.get? dx=ap o:=let ⟨o,_,_,e',_⟩:=O'.ns;#[o,e'];refine I.write (by rw[e];trivial) (.inr ho) (λb q hb z=>(sb.2 b hb).trans z) hd ?_
 refine#[by rw[aw O.ne];exact ho,?_,O.ne,O'.obj,_,O'.ns,λg=>?_,λg hg=>?_]
 .have:=kH f y fs;lia
 .rw[kJ]
  by_cases q:g=f
  .rw[if_pos q,if_pos q];exact ry
  simp_all
 by_cases q:g=f
 .rw[q];exact(ke f y fs).1
 refine (ke f y fs).2 g (wi g λz=>hg ?_);show (if g=f then ap u else mA g)=ca
 rw[if_neg q];exact z
theorem Iw(I:Inv X aa1 Z H s):Inv X aa1 Z (upd (upd H s.heap.objs.size<|.own (s.heap.objs.size+1)) (s.heap.objs.size+1)<|.ins C s.heap.objs.size [])
  { s with heap:=(s.heap.push V9).push (W4 C s.heap.objs.size) }:=by
 have g:(s.heap.push V9).get? s.heap.objs.size=ap V9:=Ui s.heap rfl;have z:((s.heap.push V9).push<|W4 C s.heap.objs.size).get? (s.heap.objs.size+1)=ap (W4 C s.heap.objs.size):=by
  have:=Ui (s.heap.push V9) (o:=W4 C s.heap.objs.size) rfl
  rwa [Vc]at this
 have n:(s.heap.push V9).Ns s.heap.objs.size (λ_=>ca):=#[V9,(Tw []),_,g,rfl,(λe j=>absurd j (by simp)),λ_=>rfl]
 have I1:=I.laid (a:=s.heap.objs.size) (o:=.own (s.heap.objs.size+1)) (h':=s.heap.push V9) (t':=s.toks) (λb u q=>Ub _ q) (Um _) #[_,g];refine I1.laid (a:=s.heap.objs.size+1) (o:=.ins C s.heap.objs.size []) (t':=s.toks) (λb u q=>Ub _ q) (YW<|Vc _ _) ?_;have ne:s.heap.objs.size≠s.heap.objs.size+1:=Uy (Nat.lt_succ_self _);refine#[by rw[aw ne,upd_same],Vg _,ne,z,λ_=>ca,(Heap.Ns1.of_empty n).at λo q=>Ub _ q,λ_=>V3,λy l=>absurd rfl l]
theorem JZ{f:Str}(j:kc e f env (ff e env)=ff e env)(h:eg (ez g w) A (ff e env) (λo s₁=>eg (ez g w) A (getAttr o f true) Q E s₁) E s):eg (ez g w) A (ff (.Attribute e f pos) env) Q E s:=
 Attribute_any_ h (by rw[arm_eval_Attribute,j])
end
def tFld(K:Uh)(ta:TE)(f:Str):TE:=λZ H Q=>ta Z H λx H1=>∃a C dx fs v,x=.ref a/\H1 a=ap (.ins C dx fs)/\Cls K C/\NoAttr K C f/\fs.lookup f=ap v/\Q v H1
def sFld(K:Uh)(ta tv:TE)(f:Str):TS:=λD Z H=>tv Z H λy H1=>ta Z H1 λx H2=>∃a C dx fs,x=.ref a/\H2 a=ap (.ins C dx fs)/\Cls K C/\NoAttr K C f/\fs.length<1000/\
 D.nx Z (upd H2 a<|.ins C dx<|dA f y fs)
def PK(X:Cx)(op:W_)(rd:V->V->Hp->VK->Prop):Prop:=
 ∀(aa1:abf)(s:cb)(Z:St)(H:Hp)(x y:V)(u v:ay)(Q:VK),Inv X aa1 Z H s->RelV x u->RelV y v->rd x y H Q->eg (ez X.prog X.w) X.A (inplaceOp op u v) (EP X aa1 Z Q) X.xe s
def KW(K:Uh)(ta tv:TE)(rd:V->V->Hp->VK->Prop)(f:Str):TS:=λD Z H=>ta Z H λx H1=>∃a C dx fs v,x=.ref a/\H1 a=ap (.ins C dx fs)/\Cls K C/\NoAttr K C f/\fs.lookup f=ap v/\
 tv Z H1 λy H2=>rd v y H2 λz H3=>∃dx' fs',H3 a=ap (.ins C dx' fs')/\fs'.length<1000/\D.nx Z (upd H3 a<|.ins C dx'<|dA f z fs')
section
variable{f:Str}
theorem NK(G:PE X e ta)(F:kc e f X.env (ff e X.env)=ff e X.env):PE X (.Attribute e f pos) (tFld X.K ta f):=by
 intro aa1 s Z H Q I h;refine JZ F (bu (G _ s Z H _ I h) λu J B=>?_);obtain⟨x,H1,I1,z,a,C,dx,fs,v,j,y,c,n,l,q⟩:=B;subst j;obtain rfl:u=UH a:=z;exact nr I1 y c n l λL s2 I2 g=>#[v,H1,I2,g,q]
theorem Pp(R:PE X o ta)(L:PE X value tv)(O:py value (ap<|.Attribute o f pos') pos.line X.env=pure cx):PS X (.Assign [.Attribute o f pos'] value pos) (sFld X.K ta tv f):=by
 intro aa1 s Z H D I h;refine plainObj_wpAny_Assign_Attribute (bu (L _ s Z H _ I h) λu j ⟨y,H1,I1,B,q⟩=>bu (R _ j Z H1 _ I1 q) λJ s2 G=>?_) O;obtain⟨x,H2,I2,F,a,C,dx,fs,v,z,c,n,l,g⟩:=G;subst v;obtain rfl:J=UH a:=F;exact ox I2 z c n l B λS I3=>#[Z,_,I3,g]
theorem qu(ha:PE X o ta)(hv:PE X value tv)(j:PK X op B):PS X (.AugAssign (.Attribute o f tpos) op value pos) (KW X.K ta tv B f):=by
 intro aa1 s Z H D I h;refine wpAny_AugAssign_AttributeAny (bu (ha _ s Z H _ I h) λov s1 W=>?_);obtain⟨x,H1,I1,O,a,C,dx,fs,v,T,L,c,n,l,q⟩:=W;subst T;obtain rfl:ov=UH a:=O;exact nr I1 L c n l λu s2 I2 F=>bu (hv _ s2 Z H1 _ I2 q) (by rintro Y G ⟨y,H2,I3,U,R⟩;exact bu (j _ G Z H2 v y u Y _ I3 F U R) (by rintro w4 s4 ⟨z,H3,I4,rz,_,_,g,J,S⟩;exact ox I4 g c n J rz λs5 I5=>#[Z,_,I5,S]))
def rAdd:V->V->Hp->VK->Prop:=λx y H Q=>∃i j,x=.int i/\y=.int j/\Q (.int (i+j)) H
def rSub:V->V->Hp->VK->Prop:=λx y H Q=>∃i j,x=.int i/\y=.int j/\Q (.int (i-j)) H
theorem QN:PK X .Add rAdd:=by
 rintro aa1 s Z H x y u v Q I l g ⟨i,j,rfl,rfl,q⟩
 obtain⟨t,rfl⟩:=l;obtain⟨t',rfl⟩:=g;exact PyProof.Rows.iadd_int #[.int _,H,I.tok _,#[_,rfl],q]
theorem Ob:PK X .Sub rSub:=by
 rintro aa1 s Z H x y u v Q I l g ⟨i,j,rfl,rfl,q⟩
 obtain⟨t,rfl⟩:=l;obtain⟨t',rfl⟩:=g;exact PyProof.Rows.isub_int #[.int _,H,I.tok _,#[_,rfl],q]
end
section
variable{b:Bool}
inductive TyOf(K:Uh)(H:Hp):V->ay->Prop where
 |non:TyOf K H .non (.type "NoneType")
 |bl (x:Bool):TyOf K H (.bl x) (.type "bool")
 |int (i:Int):TyOf K H (.int i) (.type "int")
 |str (x:Str):TyOf K H (.str x) (.type "str")
 |flt (x:UInt64):TyOf K H (.flt x) (.type "float")
 |lst {a:cp} {xs:List V} (e:H a=ap (.lst xs)):TyOf K H (.ref a) (.type "list")
 |frz {a:cp} {o:Obj} {xs:List V} (e:H a=ap (.frz o<|.lst xs)):TyOf K H (.ref a) (.type "list")
 |tup {a:cp} {xs:List V} (e:H a=ap (.tup xs)):TyOf K H (.ref a) (.type "tuple")
 |dK {a:cp} {aa3:List (aC×V)} (e:H a=ap (.dK aa3)):TyOf K H (.ref a) (.type "dict")
 |dT {a:cp} {aa3:List (List aC×V)} (e:H a=ap (.dT aa3)):TyOf K H (.ref a) (.type "dict")
 |ins {a C dx:cp} {fs:List (Str×V)} (e:H a=ap (.ins C dx fs)) (cl:Cls K C) (ha:Va K (.ref C) "__class__"=ap (ap<|.builtin "object.__class__"))
   (hn:W.specialIn K (.builtin "object.__class__") "__get__"=ap (ap<|.builtin "getset_descriptor.__get__")) (htk:W.takesIn K (.builtin "object.__class__")=ap true)
   (hm:W.mroIn K C (.type "object")=ap true):TyOf K H (.ref a) (.ref C)
theorem E5{x:V}(I:Inv X aa1 Z H s)(g:RelV x u)(ty:TyOf X.K H x t)(e:W.kitOne X.K t c=ap b)(h:∀F,Q (.bool b) { s with toks:=F }):
  eg (ez X.prog X.w) A (call (.builtin "isinstance") [u,c]) Q E s:=by
 cases ty with
 |non=>cases (show u=Vj from g);exact Wh W.kitx_none I.kIn V3 e (λz=>nomatch z) h
 |bl y=>cases (show u=Y8 y from g);exact Wh W.kitx_bool I.kIn V3 e (λz=>nomatch z) h
 |int i=>obtain⟨t,q⟩:=(show ∃t,u=XT i t from g);cases q;exact Wh W.kitx_int I.kIn V3 e (λz=>nomatch z) h
 |str y=>obtain⟨t,q⟩:=(show ∃t,u=XS y t from g);cases q;exact Wh W.kitx_str I.kIn V3 e (λz=>nomatch z) h
 |flt y=>obtain⟨t,q⟩:=(show ∃t,u=Value.float y t from g);cases q;exact Wh W.kitx_float I.kIn V3 e (λz=>nomatch z) h
 |@lst a l ea=>
  cases (show u=UH a from g);obtain⟨_,_,n,_,j⟩:=(show ObjOk X.prog X.w H s.heap a (.lst l) from I.hok a _ ea);exact Wh W.kitx_list I.kIn #[_,j,rfl] e (λz=>nomatch z) h
 |@frz a ob l ea=>
  cases (show u=UH a from g);obtain⟨_,_,_,n,_,j⟩:=(show ObjOk X.prog X.w H s.heap a (.frz ob<|.lst l) from I.hok a _ ea);exact Wh W.kitx_list I.kIn #[_,j,rfl] e (λz=>nomatch z) h
 |@tup a l ea=>
  cases (show u=UH a from g);obtain⟨_,_,_,p⟩:=(show ObjOk X.prog X.w H s.heap a (.tup l) from I.hok a _ ea);obtain⟨o,j,⟨v,_⟩,_⟩:=p;exact Wh W.kitx_tuple I.kIn #[o,j,v] e (λz=>nomatch z) h
 |@dK a aa3 ea=>
  cases (show u=UH a from g);obtain⟨_,_,L,_,p⟩:=(show ObjOk X.prog X.w H s.heap a (.dK aa3) from I.hok a _ ea);obtain⟨o,es,B,j,v,_⟩:=p;exact Wh W.kitx_dict I.kIn #[o,j,v.1] e (λz=>nomatch z) h
 |@dT a aa3 ea=>
  cases (show u=UH a from g);obtain⟨_,_,l,_,o,es,B,j,v,_⟩:=(show ObjOk X.prog X.w H s.heap a (.dT aa3) from I.hok a _ ea);exact Wh W.kitx_dict I.kIn #[o,j,v.1] e (λz=>nomatch z) h
 |@ins a C dx fs ea cl ha hn htk hm=>
  cases (show u=UH a from g);obtain⟨mA,O,_⟩:=k_ I.hok ea;obtain⟨G,J,_⟩:=O.look;exact Wh (W.kitx_own (cl.get _) cl.hd ha hn htk hm) I.kIn J e (λz=>nomatch z) h
end
structure Room(k:Nat)(A:fv):Prop where
 hd:A.handled=ca
 dp:A.depth+3*k+5<recursionLimit
 un:A.units+16*k+200<kB
 gd:A.guards=ap []
theorem Room.mono(r:Room k A)(h:j<=k):Room j A:=#[r.hd,by have:=r.dp;lia,by have:=r.un;lia,r.gd]
theorem Room.deeper(r:Room (k+1) A)(env:Env):Room k (A.deeper env):=
 #[r.hd,by have:=r.dp;show A.depth+1+3*k+5<_;lia,by have:=r.un;show A.units+3+16*k+200<_;lia,r.gd]
theorem Room.in1(r:Room (k+1) A):Room k A.in1:=
 #[r.hd,by have:=r.dp;show A.depth+3*k+5<_;lia,by have:=r.un;show A.units+1+16*k+200<_;lia,r.gd]
theorem wW:(A.under<|.builtin "type.__call__" #[.ref C::us,kw]).depth=A.depth+1:=by
 rfl
theorem xO:(A.under<|.builtin "type.__call__" #[.ref C::us,kw]).units=A.units+1:=by
 rfl
theorem Mc:(A.under<|.builtin "type.__call__" #[.ref C::us,kw]).guards=A.guards:=by
 rfl
theorem Room.make(r:Room (k+1) A)(C:cp)(us:aba)(kw:List (Str×ay)):Room k (A.under<|.builtin "type.__call__" #[.ref C::us,kw]):=
 #[r.hd,by have:=r.dp;rw[wW];lia,by have:=r.un;rw[xO];lia,by exact r.gd]
theorem Room.depth(r:Room k A):A.depth<recursionLimit:=by have:=r.dp;lia
theorem Room.units(r:Room k A):A.units+64<cLine:=by have:=r.un;lia
theorem Room.units0(r:Room k A):A.units<cLine:=by have:=r.un;lia
def Sk:TA:=λ_ H Q=>Q [] H
def Sf(ta:TE)(tr:TA):TA:=λZ H Q=>ta Z H λx H1=>tr Z H1 λg H2=>Q (x::g) H2
theorem Fy:PA X [] Sk:=λ_ _ _ _ H Q I h=>Wo #[[],H,I,.nil,h]
theorem BM(y:PE X e te)(z:PA X es t)(v:ee (e::es) X.env=(cx,ff e X.env)::ee es X.env:=by rfl):PA X (e::es) (Sf te t):=by
 intro pos aa1 s Z H Q I h;rw[v];show eg _ _ (spliced ((cx,ff e _)::f' _ _)) _ _ s;exact VS (bu (y _ s Z H _ I h)<|by rintro u j ⟨x,H1,I1,n,q⟩;exact(bu (z _ _ j Z H1 _ I1 q)<|by rintro us s2 ⟨B,H2,I2,l,g⟩;exact#[_,H2,I2,.cons n l,g]))
def tTup(t:TA):TE:=λZ H Q=>t Z H λg H1=>g.length<=sizeLine/\∀p,H1 p=ca->Q (.ref p) (upd H1 p<|.tup g)
def tLst(t:TA):TE:=λZ H Q=>t Z H λg H1=>g.length<=sizeLine/\∀p,H1 p=ca->Q (.ref p) (upd H1 p<|.lst g)
theorem Ny{x1}(h:PA X es t):PE X (.Tuple es x1 pos) (tTup t):=by
 intro aa1 s Z H Q I g;refine wpAny_Tuple_spliced (bu (h _ _ s Z H _ I g) λus j ⟨l,H1,I1,r,z,q⟩=>#[by rw[<- r.length];exact z,?_])
 refine#[.ref _,_,I1.laid (λb u e=>Ub _ e) (Um _) ?_,rfl,q _<|I1.hok.fresh<|Um _];exact#[z,us,r,#[_,Ui _ rfl,#[rfl,_,rfl],rfl]]
theorem QF(h:PA X es t):PE X (.List es pos) (tLst t):=by
 intro aa1 s Z H Q I g;refine wpAny_List_spliced (bu (h _ _ s Z H _ I g) λus j ⟨l,H1,I1,r,z,q⟩=>#[by rw[<- r.length];exact z,?_])
 refine#[.ref _,_,I1.laid (λb u e=>Ub _ e) (Um _) ?_,rfl,q _<|I1.hok.fresh<|Um _];exact#[z,us,0,r,Ui _ rfl]
abbrev Sp:=List V->Hp->VK->XK->Prop
abbrev pi:=List Env->Hp->cb->XK->ay->cb->Prop
structure Env0(P:eH)(w:fx)(K:Uh)(mg:abg)(base:g3)(A:fv)(outer:List Env)(s:cb)(H:Hp):Prop where
 frames:A.frames=ap outer
 mod:Mod K mg base
 bs:∀b o,base.get? b=ap o->s.heap.get? b=ap o/\H b=ca
 bsz:base.objs.size<=s.heap.objs.size
 funs:s.heap.FunFrames base outer
 frf:∀b∈iB outer,H b=ca
 hok:HOk P w H s.heap
 bare:UF s.gens
def CE(outer:List Env)(P:eH)(w:fx)(H:Hp)(s:cb)(Q:VK)(u:ay)(s':cb):Prop:=
 ∃v H',s'.os=s.os/\UF s'.gens/\Un (iB outer) [] H H' s.heap s'.heap/\HOk P w H' s'.heap/\RelV v u/\Q v H'
def CR(CX:pi)(outer:List Env)(P:eH)(w:fx)(H:Hp)(s:cb)(Q:VK)(E:XK)(r:aaB)(s':cb):Prop:=
 match r with
 |.ok (.ret u)=>CE outer P w H s Q u s'
 |.ok _=>False
 |.error e=>CX outer H s E e s'
structure FnOk(P:eH)(w:fx)(K:Uh)(mg:abg)(base:g3)(CX:pi)(k:Nat)(f:cp)(fd:fy)(ps:aa')(sp:Sp):Prop where
 len:∀vs H Q E,sp vs H Q E->vs.length=ps.length
 run:∀(A:fv)(outer:List Env)(s:cb)(H:Hp)(args:Args)(us:aba)(vs:List V)(Q:VK)(E:XK),Room k A->Env0 P w K mg base A outer s H->aas s fd args (ps.zip us)->Vals vs us->sp vs H Q E->
  y2 (ez P w) A (.call (.ref f) args) (CR CX outer P w H s Q E) s
theorem FnOk.imp(F:FnOk P w K mg base CX k f fd ps sp)(h:∀vs H Q E,j vs H Q E->sp vs H Q E):FnOk P w K mg base CX k f fd ps j:=
 #[λvs H Q E q=>F.len vs H Q E (h _ _ _ _ q),λA outer s H g us vs Q E l z y n v=>F.run A outer s H g us vs Q E l z y n (h _ _ _ _ v)]
theorem Env0.make(e:Env0 P w K mg base A outer s H)(C:cp)(us:aba)(kw:List (Str×ay)):
  Env0 P w K mg base (A.under<|.builtin "type.__call__" #[.ref C::us,kw]) outer s H:=#[by first|exact e.frames|rfl,e.mod,e.bs,e.bsz,e.funs,e.frf,e.hok,e.bare]
theorem Env0.in1(e:Env0 P w K mg base A outer s H):
  Env0 P w K mg base A.in1 outer s H:=#[e.frames,e.mod,e.bs,e.bsz,e.funs,e.frf,e.hok,e.bare]
theorem Inv.env0(I:Inv X aa1 Z H s):Env0 X.prog X.w X.K X.mg X.base X.A X.stack s H:=
 #[I.ok.frames,I.ok.mod,I.bs,Uw I.ok.bsz I.sz,I.stack,I.stkFree,I.hok,I.bare]
theorem Inv.after(I:Inv X aa1 Z H s)(h:CE X.stack X.prog X.w H s Q u s'):EP X aa1 Z Q u s':=by
 obtain⟨v,H',os,j,un,l,r,q⟩:=h;obtain⟨y,g,d,t,n⟩:=s';obtain rfl:n=s.os:=os;exact#[v,H',I.call (h':=y) (g':=g) (d':=d) (t':=t) (ch:=[]) un l j (λb z=>absurd z (by simp)),r,q]
def Rj(sp:Sp)(dvs:List V)(E:XK)(t:TA):TE:=λZ H Q=>t Z H λg H1=>sp (g++dvs) H1 Q E
def N3(C:cp)(m:Str)(sp:Sp)(dvs:List V)(E:XK)(ta:TE)(t:TA):TE:=λZ H Q=>ta Z H λx H1=>∃a dx fs,x=.ref a/\H1 a=ap (.ins C dx fs)/\fs.lookup m=ca/\
 t Z H1 λg H2=>sp (x::(g++dvs)) H2 Q E
def Tc(C:cp)(sp:Sp)(dvs:List V)(E:XK)(t:TA):TE:=λZ H Q=>t Z H λg H1=>∀x dx,H1 x=ca->H1 dx=ca->dx≠x->
 sp (.ref x::(g++dvs)) (upd (upd H1 dx<|.own x) x<|.ins C dx []) (λv H2=>v=.non/\Q (.ref x) H2) E
def Binds(K:Uh)(fd:fy)(ps:aa')(ds:aba):Prop:=
 ∀(s:cb)(us:aba),K.In s.heap->(us++ds).length=ps.length->aas s fd #[us,[]] (ps.zip (us++ds))
theorem Binds.all(h:∀us:List ay,us.length=ps.length->aay fd #[us,[]]=pure (ps.zip us)):Binds K fd ps []:=λs us _ g=>by
 rw[U9]at g ⊢;exact .of_eq (h us g)
def bR(CX:pi)(X:Cx)(E:XK):Prop:=∀(aa1:abf)(Z:St)(H:Hp)(s:cb)(e:ay)(s':cb),Inv X aa1 Z H s->CX X.stack H s E e s'->X.xe e s'
theorem y8(F:FnOk X.prog X.w X.K X.mg X.base CX k f fd ps sp)(y:Room k X.A)(v:Binds X.K fd ps ds)(z:Vals dvs ds)(q:bR CX X E)(I:Inv X aa1 Z H s)(r:Vals vs us)(h:sp (vs++dvs) H Q E):eg (ez X.prog X.w) X.A (call (.ref f) us) (EP X aa1 Z Q) X.xe s:=by
 have j:Vals (vs++dvs) (us++ds):=r.append z;have n:(us++ds).length=ps.length:=by rw[<- j.length];exact F.len _ _ _ _ h
 refine aau (rc (F.run X.A X.stack s H #[us,[]] (us++ds) (vs++dvs) Q E y I.env0 (v s us I.kIn n) j h) λr l g=>?_);cases r with
 |error e=>exact q aa1 Z H s e l I g
 |ok fl=>
  cases fl with
  |ret u=>exact I.after g
  |next=>exact Vv g
  |brk=>exact Vv g
  |cont=>exact Vv g
theorem yL(F:FnOk X.prog X.w X.K X.mg X.base CX k f fd ps sp)(z:Room k X.A)(v:Gl X x)(B:X.mg x=ap (.ref f))(G:VB X.K (.ref f)=true)(l:Binds X.K fd ps ds)(n:Vals dvs ds)(j:bR CX X E)(y:PA X (e::es) t)(g:(x==("__debug__":Str))=false:=by decide)(he:ee (e::es) X.env=(cx,ff e X.env)::ee es X.env:=by rfl)(hpl:(f' pos<|starEach es X.env).any (·.1)=false:=by rfl):
  PE X (.Call (.Name x p) (e::es) [] pos) (Rj sp dvs E t):=by
 intro aa1 s Z H Q I h;exact k' (ic I v B (X0 (h₀:=X.base) I.ok.mod.kin G (bu (y pos aa1 s Z H _ I h)<|by rintro us J ⟨L,H1,I1,r,q⟩;exact#[I1.kIn,y8 F z l n j I1 r q]) he hpl) g)
theorem J8(O:PE X o ta)(c:Cls X.K C)(j:Meth X.K C m f)(F:FnOk X.prog X.w X.K X.mg X.base CX k f fd ps sp)(T:Room k X.A)(L:Binds X.K fd ps ds)(R:Vals dvs ds)(J:bR CX X E)(S:PA X (e::es) t)(g:ee (e::es) X.env=(cx,ff e X.env)::ee es X.env:=by rfl)(hpl:(f' pos<|starEach es X.env).any (·.1)=false:=by rfl)(ht:ff (.Call (.Attribute o m aa6) (e::es) [] pos) X.env=(do
   let ov <- ff o X.env
   L' aa6.atName
   let (f,first) <- q0 [ov] (B' ov m pl)
   aai pos f first (f' pos<|starEach (e::es) X.env) (pb pos<|keywordEach [] X.env)):=by rfl):
  PE X (.Call (.Attribute o m aa6) (e::es) [] pos) (N3 C m sp dvs E ta t):=by
 intro aa1 s Z H Q I h;refine W.methodCall_KW (pl:=pl) (bu (O aa1 s Z H _ I h) λu v G=>?_) ht;obtain⟨x,H1,I1,B,a,dx,fs,y,z,l,q⟩:=G;subst y;obtain rfl:u=UH a:=B;refine mO I1 z c j l ?_;refine X0 (first:=[.ref a]) (h₀:=X.base) I.ok.mod.kin j.kp (bu (S pos aa1 v Z H1 _ I1 q) λus s2 ⟨vs,H2,I2,r,n⟩=>#[I2.kIn,?_]) g hpl
 exact y8 (us:=.ref a::us) (vs:=.ref a::vs) F T L R J I2 (.cons rfl r) n
theorem HH(G:PE X o ta)(c:Cls X.K C)(g:Meth X.K C m f)(F:FnOk X.prog X.w X.K X.mg X.base CX k f fd ps sp)(O:Room k X.A)(B:Binds X.K fd ps ds)(J:Vals dvs ds)(z:bR CX X E)(L:ff (.Call (.Attribute o m aa6) [] [] pos) X.env=(do
   let ov <- ff o X.env
   L' aa6.atName
   let (f,first) <- q0 [ov] (B' ov m pl)
   aai pos f first (f' pos<|starEach [] X.env) (pb pos<|keywordEach [] X.env)):=by rfl):
  PE X (.Call (.Attribute o m aa6) [] [] pos) (N3 C m sp dvs E ta Sk):=by
 intro aa1 s Z H Q I h;refine W.methodCall_KW (pl:=pl) (bu (G aa1 s Z H _ I h) λu R y=>?_) L;obtain⟨x,H1,I1,v,a,dx,fs,j,n,l,q⟩:=y;subst j;obtain rfl:u=UH a:=v;refine mO I1 n c g l ?_;exact W.callWith_K0 (first:=[.ref a]) I1.kIn g.kp (y8 (us:=[.ref a]) (vs:=[.ref a]) F O B J z I1 (.cons rfl .nil) q)
structure Mk(K:Uh)(C f:cp):Prop where
 makes:Xp K C=true
 init:Va K (.ref C) "__init__"=ap (ap<|.ref f)
 fn:W.isFn K (.ref f)=true
 kp:VB K (.ref C)=true
theorem F7(M:Mk X.K C f)(F:FnOk X.prog X.w X.K X.mg X.base CX k f fd ps sp)(L:Room (k+1) X.A)(J:Binds X.K fd ps ds)(O:Vals dvs ds)(G:bR CX X E)(I:Inv X aa1 Z H s)(r:Vals vs us)(h:∀x dx,H x=ca->H dx=ca->dx≠x->sp (.ref x::(vs++dvs)) (upd (upd H dx<|.own x) x<|.ins C dx []) (λv H2=>v=.non/\Q (.ref x) H2) E):
  eg (ez X.prog X.w) X.A (call (.ref C) us) (EP X aa1 Z Q) X.xe s:=by
 have l:=h _ _ (I.hok.fresh<|V5 _) (I.hok.fresh<|Um _) (Uy<|Nat.lt_succ_self _);have I2:=Iw (C:=C) I;have j:Vals (V.ref (s.heap.objs.size+1)::(vs++dvs)) _:=.cons rfl (r.append O);have z:(UH (s.heap.objs.size+1)::us++ds).length=ps.length:=by
  have e:=j.length;rw[F.len _ _ _ _ l]at e;exact e.symm
 refine aau (FR I.kIn M.makes M.init (beq_iff_eq.mp M.fn) (rc (F.run _ _ _ _ _ _ _ _ E (L.make C us [])
  (I2.env0.make C us []) (J _ _ I2.kIn z) j l) λr y g=>?_))
 cases r with
 |error e=>exact G _ Z _ _ e y I2 g
 |ok fl=>
  cases fl with
  |ret u=>
   obtain⟨v,H',I3,q,n,B⟩:=I2.after g;subst n;exact#[q,#[V.ref _,H',I3,rfl,B]]
  |next=>assumption
  |brk=>assumption
  |cont=>assumption
theorem Le(M:Mk X.K C f)(F:FnOk X.prog X.w X.K X.mg X.base CX k f fd ps sp)(z:Room (k+1) X.A)(v:Gl X x)(B:X.mg x=ap (.ref C))(l:Binds X.K fd ps ds)(n:Vals dvs ds)(j:bR CX X E)(y:PA X (e::es) t)(g:(x==("__debug__":Str))=false:=by decide)(he:ee (e::es) X.env=(cx,ff e X.env)::ee es X.env:=by rfl)(hpl:(f' pos<|starEach es X.env).any (·.1)=false:=by rfl):
  PE X (.Call (.Name x p) (e::es) [] pos) (Tc C sp dvs E t):=by
 intro aa1 s Z H Q I h;exact k' (ic I v B (X0 (h₀:=X.base) I.ok.mod.kin M.kp (bu (y pos aa1 s Z H _ I h)<|by rintro us G ⟨J,H1,I1,r,q⟩;exact#[I1.kIn,F7 M F z l n j I1 r q]) he hpl) g)
structure FnScope(N P:aa')(sc:qa):Prop where
 kind:sc.kind=.function
 co:sc.isCoroutine=cx
 gen:sc.isGenerator=cx
 nd:N.Nodup
 pre:N.take P.length=P
 par:∀x∈P,sc.names.lookup x=ap .local\/sc.names.lookup x=ap .cell
 nofree:∀y∈sc.names,y.2≠.free
theorem qq{x:Str}:∀{binds:List (Str×ay)}{m:abg},(∀v,(x,v)∉binds)->bindL g binds m x=m x
 |[],_,_=>rfl
 |(n,v)::r,m,h=>by
  unfold bindL;rw[qq λw j=>h w (Uj _ j)]
  split
  .have:x≠n:=by rintro rfl;exact h v Ux
   simp[this]
  rfl
theorem pZ{x:Str}:∀{binds:List (Str×ay)}{m:abg},(∀v,(x,v)∉binds)->bindC g binds m x=m x
 |[],_,_=>rfl
 |(n,v)::r,m,h=>by
  unfold bindC;rw[pZ λw j=>h w (Uj _ j)]
  split
  .rfl
  have:x≠n:=by rintro rfl;exact h v Ux
  simp[this]
theorem qr{kindOf:Str->Option W'}{x:Str}{v:ay}:∀{P:aa'}{vs:aba}{i:Nat}{m:abg},P.Nodup->P[i]?=ap x->vs[i]?=ap v->kindOf x=ap .local->
  bindL kindOf (P.zip vs) m x=ap v
 |[],_,_,_,_,h,_,_=>by simp at h
 |_::_,[],_,_,_,_,h,_=>by simp at h
 |p::P,w::vs,0,m,nd,h1,h2,hk=>by
  simp at h1 h2;subst h1 h2;show bindL _ ((p,w)::P.zip vs) m p=_;unfold bindL;rw[qq λv hv=>(VC.mp nd).1 (Wj hv).1,if_pos hk];simp
 |p::P,w::vs,i+1,m,nd,h1,h2,hk=>by
  unfold bindL;exact qr (VC.mp nd).2 (by trivial) (by trivial) hk
theorem qy{kindOf:Str->Option W'}{x:Str}{v:ay}:∀{P:aa'}{vs:aba}{i:Nat}{m:abg},P.Nodup->P[i]?=ap x->vs[i]?=ap v->kindOf x≠ap .local->
  bindC kindOf (P.zip vs) m x=ap v
 |[],_,_,_,_,h,_,_=>by simp at h
 |_::_,[],_,_,_,_,h,_=>by simp at h
 |p::P,w::vs,0,m,nd,h1,h2,hk=>by
  simp at h1 h2;subst h1 h2;show bindC _ ((p,w)::P.zip vs) m p=_;unfold bindC;rw[pZ λv hv=>(VC.mp nd).1 (Wj hv).1,if_neg hk];simp
 |p::P,w::vs,i+1,m,nd,h1,h2,hk=>by
  unfold bindC;exact qy (VC.mp nd).2 (by trivial) (by trivial) hk
noncomputable def start(N:aa')(vs:List V):St:=vs.map ap++UI (N.length-vs.length) ca
noncomputable def eY(CX:pi)(P:eH)(w:fx)(K:Uh)(mg:abg)(base:g3)(N:aa')(aa2:Str)(scope:qa)(f:cp)(cd:ay)(A:fv)(outer:List Env)(s:cb)(H:Hp)(E:XK):Cx where
 prog:=P
 w:=w
 K:=K
 mg:=mg
 base:=base
 A:=A.deeper (envOfC aa2 scope s.heap.objs.size f cd)
 N:=N
 s₀:=s
 H₀:=H
 env:=envOfC aa2 scope s.heap.objs.size f cd
 outer:=outer
 stack:=envOfC aa2 scope s.heap.objs.size f cd::outer
 ex:=[]
 calm:=true
 fn:=λ_=>true
 pn:=[]
 xe:=λe l=>eg (ez P w) (A.deeper<|envOfC aa2 scope s.heap.objs.size f cd) (leaving (envOfC aa2 scope s.heap.objs.size f cd) e) (λ_ g=>CX outer H s E e g) (λj g=>CX outer H s E j g) l
theorem uQ{g:qa}(h:g.names.lookup x=ap .cell):∃c,(ot n g.names []).lookup x=ap c:=by
 exact VN.mp (WJ _ n []<|.inl h)
theorem DQ(S:FnScope N ps g)(hd:A.handled=ca)(l:Env0 P w K mg base A outer s H)(hl:vs.length=ps.length)(r:Vals vs us)(x:InCallC s s.heap.objs.size (bindL (envOfC j g s.heap.objs.size f J).kindOf (ps.zip us) λ_=>ca) (ot (s.heap.objs.size+1) g.names []) (bindC (envOfC j g s.heap.objs.size f J).kindOf (ps.zip us) λ_=>ca) T):
  Inv (eY CX P w K mg base N j g f J A outer s H E) [] (start N vs) H T:=by
 have W:ps.length<=N.length:=by have:=congrArg VO S.pre;rw[Xj]at this;lia
 obtain⟨I,tk,rfl,R⟩:=x.done;have B:∀b:cp,b∉(eY CX P w K mg base N j g f J A outer s H E).ex:=λb z=>absurd (show b∈[] from z) (by simp)
 refine#[#[l.mod,S.kind,rfl,rfl,Um _,λy z c I n=>?_,λy hy=>?_,λy c _ h=>?_,λ_=>hd,Around.frames_deeper l.frames,.inr #[rfl,rfl],λb z=>absurd z (B b),l.bs,l.bsz,λb _ _=>B b,λb z=>absurd z (B b),l.funs,l.frf],
  rfl,l.bare,Un.kept R,#[_,x.toInCall.ns,λi y v I n h3=>?_],λy c h=>#[_,x.cell y c h],l.hok.fresh (Um _),λy c h=>?_,λp G=>absurd (show p∈[] from G) (by simp),l.hok.kept R,?_]
 .exact name_of_addr x.apart (Vd I) (Vd n)
 .rcases hy with hy|hy
  .exact uQ hy
  exact absurd rfl (S.nofree _<|Vd hy)
 .exact Wd (x.above y c<|Vd h)
 .have L:i<vs.length:=by
   unfold start at n
   by_cases L:i<vs.length
   .exact L
   rw[Vs (by simpa using L)]at n
   rw[YL]at n
   split at n<;>cases n
  have U:vs[i]?=ap v:=by
   unfold start at n;rw[Wf (by simp_all)]at n
   cases e:vs[i]?<;>simp_all
  obtain⟨u,O,Y⟩:=r.get U;have G:ps[i]?=ap y:=by
   rw[<- S.pre,List.getElem?_take_of_lt (by lia)];exact I
  have F:ps.Nodup:=by rw[<- S.pre];exact S.nd.sublist (List.take_sublist _ _)
  refine#[u,Y,?_];rcases S.par y (Vk G) with k|k
  .exact .inl #[k,qr F G O k]
  obtain⟨c,e⟩:=uQ k;refine .inr #[.inl k,c,e,?_];have q:=x.cell y c e;rw[qy F G O (by show g.names.lookup y≠_;rw[k];decide)]at q
  exact q
 .exact l.hok.fresh (Wd<|x.above y c<|Vd h)
 unfold start;show _=N.length;rw[UG,Uc,List.length_replicate];lia
theorem Ml{kV:ay}(lk:K.lookup f=ap #[oc,od,.func (WI name j z body g dV kV T pm an l ct),osl])(hcd:XZ K l j=true)(S:FnScope N ps g)(len:∀vs H Q E,sp vs H Q E->vs.length=ps.length)(G:∀(A:fv)(outer:List Env)(s:cb)(H:Hp)(vs:List V)(Q:VK)(E:XK),Room k (A.deeper<|envOfC j g s.heap.objs.size f l)->sp vs H Q E->
   ∃t,AM (eY CX P w K mg base N j g f l A outer s H E) body t/\t { nx:=λ_ H'=>Q .non H',rt:=Q } (start N vs) H):
  FnOk P w K mg base CX (k+1) f (WI name j z body g dV kV T pm an l ct) ps sp:=by
 refine#[len,λA outer s H args us vs Q E hr R hb r O=>?_];have hl:=len _ _ _ _ O;have KX:K.In s.heap:=R.mod.kin.keeps λb o e=>(R.bs b o e).1;have U:s.heap.NoLimit:=R.mod.nolimit.keeps λb o e=>(R.bs b o e).1;have F:∀y∈ps.zip us,g.names.lookup y.1=ap .local\/(g.names.lookup y.1=ap .cell/\((ot (s.heap.objs.size+1) g.names []).lookup y.1).isSome=true):=λ⟨n,v⟩ hy=>by
  rcases S.par n (Wj hy).1 with q|q
  .exact .inl q
  .exact .inr #[q,WJ _ _ _<|.inl q]
 refine codeAny_call_function hr.depth (KX _ _ lk) rfl S.co S.gen rfl (W.codeRec_of KX hcd) (hb _ _ _ _ ?_);refine wpAny_newFunctionEnv_cells S.kind F λenv he s1 x=>?_;subst he;refine#[U.keeps x.toInCall.keep,codeAny_func ?_];obtain⟨t,ht,hq⟩:=G A outer s H vs Q E (hr.deeper _) O;have I:Inv (eY CX P w K mg base N j g f l A outer s H E) [] (start N vs) H s1:=DQ S hr.hd R hl r x;refine hW (ht [] s1 (start N vs) H _ I hq) (λfl Y L=>?_) λe Y L=>L;have fin:∀{B:St}{H':Hp}{v:V}{u:ay},Inv (eY CX P w K mg base N j g f l A outer s H E) [] B H' Y->RelV v u->Q v H'->CE outer P w H s Q u Y:=
  λ{B H' v u} J rv q=>#[v,H',J.os,J.bare,J.base,J.hok,rv,q]
 cases fl with
 |ret u=>
  obtain⟨v,B,H',J,rv,q⟩:=L;exact fin J rv q
 |next=>
  obtain⟨B,H',J,q⟩:=L;exact fin (v:=V.non) (u:=Vj) J rfl q
 |brk=>
  obtain⟨_,_,_,q⟩:=L;exact Vv q
 |cont=>
  obtain⟨_,_,_,q⟩:=L;exact Vv q
section
variable{id:String}{r:List V->Hp->VK->Prop}
def tCB(r:List V->Hp->VK->Prop)(t:TA):TE:=λZ H Q=>t Z H λg H1=>r g H1 Q
theorem Ha(q:bo X (.builtin id) r)(v:Gl X x)(z:X.mg x=ca)(F:eS x=ap (.builtin id))(y:PA X (e::es) t)(B:x≠"__name__":=by decide)(hdb:(x==("__debug__":Str))=false:=by decide)(he:ee (e::es) X.env=(cx,ff e X.env)::ee es X.env:=by rfl)(hpl:(f' pos<|starEach es X.env).any (·.1)=false:=by rfl):PE X (.Call (.Name x p) (e::es) [] pos) (tCB r t):=by
 intro aa1 s Z H Q I h;refine k' (dk I v z F ?_ B hdb);exact PyProof.Rows.callWith_builtin1 (bu (y pos aa1 s Z H _ I h) λus g ⟨n,H1,I1,j,l⟩=>q aa1 g Z H1 n us Q I1 j l) he hpl
theorem D4(q:bo X (.type T) r)(v:Gl X x)(z:X.mg x=ca)(F:eS x=ap (.type T))(y:PA X (e::es) t)(B:x≠"__name__":=by decide)(hdb:(x==("__debug__":Str))=false:=by decide)(he:ee (e::es) X.env=(cx,ff e X.env)::ee es X.env:=by rfl)(hpl:(f' pos<|starEach es X.env).any (·.1)=false:=by rfl):PE X (.Call (.Name x p) (e::es) [] pos) (tCB r t):=by
 intro aa1 s Z H Q I h;refine k' (dk I v z F ?_ B hdb);exact UU (bu (y pos aa1 s Z H _ I h) λus g ⟨n,H1,I1,j,l⟩=>q aa1 g Z H1 n us Q I1 j l) he hpl
end
end _2
namespace HT
open PySem PyProof.Rows
theorem KD(C:IsTup s.heap t vs.toArray)(y:IsTup s.heap b a.toArray)(x:vs≠[])
  (B:a=[]->Q (.ref t) s) (z:a≠[]->Q (.ref s.heap.objs.size) { s with heap:=s.heap.push { cls:=.type "tuple",data:=.seq (vs++a).toArray } })
  (hsz:vs.length+a.length<=sizeLine):eg (ez prog w) A (g4 .Add (.ref t)<|.ref b) Q E s:=by
 obtain⟨⟨cls,o,data,v⟩,j,p,n,u⟩:=id C;obtain⟨⟨r,g,m,h⟩,c,f,q,i⟩:=id y;simp only at p u f i;subst p u f i;have e:vs.toArray++a.toArray=(vs++a).toArray:=by simp
 by_cases l:a=[]
 .exact aaR #[_,j,rfl] #[_,c,rfl] aam aaF Xf W9 (W3 _ _)
   (tuple_addW1 t b vs.toArray a.toArray n q o g v h (by simpa using x)<|by simp[l]) #[j,c,B l]
 .refine aaR #[_,j,rfl] #[_,c,rfl] aam aaF Xf W9 (W3 _ _)
   (tuple_addW2 t b vs.toArray a.toArray n q o g v h (by simpa using x) (by simpa using l)<|by rw[Uq,Uq];exact hsz) #[j,c,?_]
  rw[e];exact z l
noncomputable def sIx(n d:Nat):Option Int->Nat
 |none=>d
 |some v=>if v<0 then (v+(n:Int)).toNat else min v.toNat n
theorem FM(n d:Nat):sIx n d ca=d:=rfl
theorem IH(n d k:Nat):sIx n d (ap (k:Int))=min k n:=by
 rfl
theorem sIx_le(n d:Nat)(a:d<=n)(o:Option Int):sIx n d o<=n:=by
 cases o with
 |none=>exact a
 |some v=>
  show (if v<0 then (v+n).toNat else min _ n)<=n
  lia
theorem BB(v:Int)(n d:Nat):(if v<0 then max (v+(n:Int)) 0 else min v (n:Int))=((sIx n d (ap v):Nat):Int):=by
 show (if v<0 then max _ 0 else min v _)=(if v<0 then (v+(n:Int)).toNat else min v.toNat n)
 lia
theorem xf(b a:Option Int)(n:Nat):XD b a 1 (n:Int)=(((sIx n 0 b:Nat):Int),((sIx n n a:Nat):Int)):=by
 refine Prod.ext ?_ ?_
 .cases b with
  |none=>rfl
  |some v=>exact BB v n 0
 cases a with
 |none=>rfl
 |some v=>exact BB v n n
theorem xo(i j:Nat):WC (i:Int) (j:Int) 1=j-i:=by
 unfold WC
 split<;>lia
theorem nA(p:XV v o)(h:Q o s):eg (ez prog w) A (Builtin.Slice.slicePartIndex v) Q E s:=by
 cases p with
 |none=>exact slicePart_none h
 |int i t=>exact slicePart_int h
theorem fj{Q:Int×Int×Nat->cb->Prop}(m:s.heap.IsSliceOf f i g .none)(pl:XV i a)(l:XV g e)
  (h:Q (((sIx n 0 a:Nat):Int),1,sIx n n e-sIx n 0 a) s):eg (ez prog w) A (Builtin.Slice.sliceApplied (.ref f)<|pure (n:Int)) Q E s:=by
 obtain⟨o,c,j,b⟩:=id m;refine ax (ax<|wpAny_field c b rfl<|wpAny_bind<|wpAny_field c b rfl<|wpAny_bind<|wpAny_field c b rfl<|wpAny_pure ?_);refine ax (slicePart_none ?_);refine ax (nA pl<|wpAny_bind<|nA l<|wpAny_bind<|wpAny_pure ?_);show eg _ _ (match XD a e 1 _ with|(a,e)=>pure (a,(1:Int),WC a e 1)) _ _ s
 rw[xf a e n];show eg _ _ (pure _) _ _ s;rw[xo];exact cT h
theorem FQ(xs:abh)(i k:Nat):((Uu k).filterMap λ(m:Nat)=>xs[((i:Int)+(m:Int)*1).toNat]?).toArray=((xs.toList.drop i).take k).toArray:=by
 have e:(λ(m:Nat)=>xs[(i+(m:Int)*1).toNat]?)=λm=>xs[i+m]?:=by
  funext m;have:(i+(m:Int)*1).toNat=i+m:=by lia
  rw[this]
 rw[e];have:=pick_run xs i k;have a:((λx=>xs[x]?) ∘ λx=>i+x)=λm=>xs[i+m]?:=rfl
 simp_all
theorem jt(f:IsTup s.heap t a)(o:s.heap.IsSliceOf m p n .none)(pl:XV p b)(x:XV n e)
  (v:¬(sIx a.size 0 b=0/\sIx a.size a.size e=a.size))
  (h:Q (.ref s.heap.objs.size) { s with heap:=s.heap.push { cls:=.type "tuple",data:=.seq ((a.toList.drop<|sIx a.size 0 b).take (sIx a.size a.size e-sIx a.size 0 b)).toArray } })
  (hsz:a.size<=sizeLine):eg (ez prog w) A (X_ (.ref t)<|.ref m) Q E s:=by
 have c:sizeOk (.seq ((a.toList.drop<|sIx a.size 0 b).take (sIx a.size a.size e-sIx a.size 0 b)).toArray):=by
  show ((a.toList.drop _).take _).toArray.size<=sizeLine;rw[Uq,Xj,List.length_drop,Vp];lia
 obtain⟨r,i,l,u⟩:=id o;have g:s.TypeIs (.ref m) _:=#[r,i,l];unfold X_
 try with_reducible refine j0 ?_
 refine ax (wpAny_sequenceKey f.typeIs (by decide) ?_)
 refine ax (wpAny_callSpecial?_slot f.typeIs Ve
  (kr Ve f.typeIs entry_tuple_getitem ?_<|args_tuple_getitem _ _))
 show eg _ _ (XB _ >>= _) _ _ s;refine ax (tupleItemsOf_ f ?_);refine ax (aae g ?_);refine ax (fj o pl x ?_);have j:¬((((sIx a.size 0 b):Int)==0&&(1:Int)==1&&(sIx a.size a.size e-sIx a.size 0 b)==a.size)=true):=by
  intro q;rw[Vw,Vw]at q;have z:=eq_of_beq q.1.1;have y:=eq_of_beq q.2;exact v #[by lia,by lia]
 show eg _ _ (if (((sIx _ 0 b):Int)==0&&1==1&&(sIx _ _ e-sIx _ 0 b)==a.size)=true then _ else _) _ _ s
 rw[if_neg j,FQ]
 first
  |exact ax (p6 (cT #[_,rfl,cT h]) c)
  |rfl
  |rfl
  |rfl
end HT
namespace _2
open PySem PySem.Spec PyProof.Rows
variable{xs:List (List aC×cp×ay)}{aa7:aba}{n:Nat}{α:Type}{u:ay}
abbrev TO:=St->Hp->(Option Int->Hp->Prop)->Prop
def PO(X:Cx)(e:Option eT)(t:TO):Prop:=
 ∀(aa1:abf)(s:cb)(Z:St)(H:Hp)(Q:Option Int->Hp->Prop),Inv X aa1 Z H s->t Z H Q->
  eg (ez X.prog X.w) X.A (evalPart e X.env) (λu c=>∃o H',Inv X aa1 Z H' c/\XV u o/\Q o H') X.xe s
def IT:TO:=λ_ H Q=>Q ca H
def TH(t:TE):TO:=λZ H Q=>t Z H λx H1=>∃i,x=.int i/\Q (ap i) H1
section
variable{lo hi:Option eT}
theorem KZ:PO X ca IT:=by
 intro aa1 s Z H Q I h;exact cT #[_,H,I,.none,h]
theorem Kn(h:PE X e te):PO X (ap e) (TH te):=by
 intro aa1 s Z H Q I c;refine bu (h _ s Z H _ I c) λu l g=>?_;obtain⟨x,H1,I1,f,j⟩:=g;obtain⟨i,rfl,q⟩:=j;obtain⟨t,rfl⟩:=f;exact#[_,H1,I1,.int i t,q]
def Tq(X:Cx)(r:V->Option Int->Option Int->Hp->VK->Prop):Prop:=
 ∀(aa1:abf)(s:cb)(Z:St)(H:Hp)(x:V)(v vl vu:ay)(lo hi:Option Int)(sl:cp)(Q:VK),Inv X aa1 Z H s->RelV x v->s.heap.IsSliceOf sl vl vu .none->XV vl lo->XV vu hi->r x lo hi H Q->
  ∃T id,yl (.type T) "__getitem__"=pure (ap<|.builtin id)/\s.TypeIs v T/\eg (ez X.prog X.w) X.A (X_ v<|.ref sl) (EP X aa1 Z Q) X.xe s
def tSl(r:V->Option Int->Option Int->Hp->VK->Prop)(te:TE)(tl th:TO):TE:=λZ H Q=>te Z H λx H1=>tl Z H1 λl H2=>th Z H2 λu H3=>r x l u H3 Q
theorem Fz(L:Tq X r)(J:PE X e te)(K:PO X lo tl)(G:PO X hi th):PE X (.Subscript e (.Slice lo hi ca p2) pos) (tSl r te tl th):=by
 intro aa1 s Z H Q I h;refine Subscript_ (bu (J aa1 s Z H _ I h) λv j ⟨x,H1,I1,y,C⟩=>?_);refine wpAny_Slice (bu (K aa1 j Z H1 _ I1 C) λg s2 ⟨l,H2,I2,pl,i⟩=>bu (G aa1 s2 Z H2 _ I2 i) λf c ⟨u,H3,I3,p,F⟩=>?_);rw[evalPart_none];refine cT ?_;have I4:Inv X aa1 Z H3 { c with heap:=c.heap.push { cls:=.type "slice",data:=.fields (Tw [g,f,.none]) } }:=I3.kept (t':=c.toks) λb M q=>Ub _ q;obtain⟨T,id,B,z,m⟩:=L aa1 { c with heap:=c.heap.push { cls:=.type "slice",data:=.fields (Tw [g,f,.none]) } } Z H3 x v g f l u c.heap.objs.size Q I4 y (Heap.IsSliceOf.new ..) pl p F;show eg (ez X.prog X.w) X.A (subscriptTail e (.Slice lo hi ca p2) v<|.ref c.heap.objs.size) (EP X aa1 Z Q) X.xe { c with heap:=c.heap.push { cls:=.type "slice",data:=.fields (Tw [g,f,.none]) } };exact tail_any (ops:=[.ref c.heap.objs.size,v]) z B m (by with_unfolding_all rfl)
def pc(xs:List V)(lo hi:Option Int):List V:=(xs.drop<|HT.sIx xs.length 0 lo).take (HT.sIx xs.length xs.length hi-HT.sIx xs.length 0 lo)
theorem kz(xs:List V)(lo hi:Option Int):(pc xs lo hi).length<=xs.length:=by
 unfold pc;rw[Xj,List.length_drop];lia
def rSlT(K:Uh):V->Option Int->Option Int->Hp->VK->Prop:=λx lo hi H Q=>∃a xs,x=.ref a/\kI K H a xs/\
 ¬(HT.sIx xs.length 0 lo=0/\HT.sIx xs.length xs.length hi=xs.length)/\∀p,H p=ca->Q (.ref p) (upd H p<|.tup<|pc xs lo hi)
theorem PJ:Tq X (rSlT X.K):=by
 rintro aa1 s Z H x v B p lo hi y Q I m j pl i ⟨a,xs,rfl,l,g,q⟩
 cases m;obtain⟨aa7,r,f,h⟩:=I.tuple l;have c:aa7.toArray.size=xs.length:=by exact r.length.symm
 refine#[_,_,Ve.lookup,f.typeIs,?_];refine HT.jt f j pl i (by rw[c];exact g) ?_ (by simp_all)
 rw[c];refine#[.ref _,_,I.laid (λb z q=>Ub _ q) (Um _) ?_,rfl,q _<|I.hok.fresh<|Um _];exact#[Uw (kz xs lo hi) h,_,(r.drop _).take _,#[_,Ui _ rfl,#[rfl,_,rfl],rfl]]
def SW(K:Uh):R2:=λx y H Q=>∃a b xs ys,x=.ref a/\y=.ref b/\kI K H a xs/\kI K H b ys/\xs≠[]/\xs.length+ys.length<=sizeLine/\
 (ys=[]->Q (.ref a) H)/\(ys≠[]->∀p,H p=ca->Q (.ref p) (upd H p<|.tup (xs++ys)))
theorem Vals.nil_iff{xs:List V}(r:Vals xs us):us=[]↔xs=[]:=by
 cases r<;>simp_all
theorem Lv:cQ X (g4 .Add) (SW X.K):=by
 rintro aa1 s Z H x y v u Q I B l ⟨a,b,xs,F,rfl,rfl,i,m,p,h,C,g⟩
 cases B;cases l;obtain⟨aa7,c,j,_⟩:=I.tuple i;obtain⟨f,r2,p2,_⟩:=I.tuple m;refine HT.KD j p2 (λz=>p (c.nil_iff.mp z)) (λz=>#[.ref a,H,I,rfl,C<|r2.nil_iff.mp z]) (λz=>?_) (by rw[<- c.length,<- r2.length];exact h)
 refine#[.ref _,_,I.laid (λb G q=>Ub _ q) (Um _) ?_,rfl,g (λw=>z (r2.nil_iff.mpr w)) _<|I.hok.fresh<|Um _];exact#[by simp_all,_,c.append r2,#[_,Ui _ rfl,#[rfl,_,rfl],rfl]]
end
noncomputable def xP(n:Nat)(i:Int):Option Nat:=if 0<=i then (if i<n then ap i.toNat else ca) else if -(n:Int)<=i then ap (i+n).toNat else ca
def atI{α:Type}(xs:List α)(i:Int):Option α:=(xP xs.length i).bind λj=>xs[j]?
theorem tK(h:xP n i=ap j):aaH i n=ap j/\j<n/\-(n:Int)<=i/\i<n:=by
 unfold xP at h
 by_cases f:0<=i
 .rw[if_pos f]at h
  by_cases c:i<n
  .rw[if_pos c]at h
   have e:=Vh h;exact#[by rw[seqIndex_of f c,e],by lia,by lia,c]
  simp_all
 rw[if_neg f]at h
 by_cases c:-n<=i
 .rw[if_pos c]at h
  have e:=Vh h;exact#[by rw[aaN (by lia) c,e],by lia,c,by lia]
 rw[if_neg c]at h;cases h
theorem sS{xs:List α}(h:atI xs i=ap v):∃j,aaH i xs.length=ap j/\xs[j]?=ap v/\j<xs.length/\-(xs.length:Int)<=i/\i<xs.length:=by
 unfold atI at h;cases e:xP xs.length i with
 |none=>simp_all
 |some j=>
  rw[e]at h;obtain⟨g,f,l,c⟩:=tK e;exact#[j,g,h,f,l,c]
def BH(b:eT):Prop:=∀o i,subscripted b cx o i=operate [o,i] (X_ o i)
def IxR(X:Cx)(r:R2):Prop:=
 ∀(value slice:eT)(aa1:abf)(s:cb)(Z:St)(H:Hp)(x y:V)(v u:ay)(Q:VK),Inv X aa1 Z H s->RelV x v->RelV y u->r x y H Q->
  subscripted slice cx v u=operate [v,u] (X_ v u)->eg (ez X.prog X.w) X.A (subscriptTail value slice v u) (EP X aa1 Z Q) X.xe s
def vo(X:Cx)(id:String)(r:V->List V->Hp->VK->Prop):Prop:=
 ∀(aa1:abf)(s:cb)(Z:St)(H:Hp)(x:V)(xs:List V)(v:ay)(us:aba)(Q:VK),Inv X aa1 Z H s->RelV x v->Vals xs us->r x xs H Q->
  eg (ez X.prog X.w) X.A (call (.builtin id) (v::us)) (EP X aa1 Z Q) X.xe s
section
theorem IxR.or(h:IxR X r)(h':IxR X l):IxR X (λx y H Q=>r x y H Q\/l x y H Q):=by
 intro c f aa1 s Z H x y v u Q I j i q g;rcases q with q|q
 .exact h _ _ _ s Z H x y v u Q I j i q g
 exact h' _ _ _ s Z H x y v u Q I j i q g
theorem SZ(l:IxR X r)(j:PE X a ta)(g:PE X b tb)(i:BH b):PE X (.Subscript a b pos) (RM r ta tb):=by
 intro aa1 s Z H Q I h;exact Subscript_ (Qq j g I h λv u s2 x y H2 I2 f c q=>l a b aa1 s2 Z H2 x y v u Q I2 f c q (i _ _))
def SK(K:Uh):R2:=λx y H Q=>∃p xs i v,x=.ref p/\y=.int i/\SqL K H p xs/\atI xs i=ap v/\Q v H
def Rt(K:Uh):R2:=λx y H Q=>∃p xs i v,x=.ref p/\y=.int i/\kI K H p xs/\atI xs i=ap v/\Q v H
def R_:R2:=λx y H Q=>∃z i c,x=.str z/\y=.int i/\z.length<=sizeLine/\atI z.cps.toList i=ap c/\Q (.str #[(Tw [c])]) H
theorem ix_list:IxR X (SK X.K):=by
 intro f l aa1 s Z H x y v u Q I L R h F;obtain⟨p,xs,i,z,rfl,rfl,J,S,q⟩:=h;cases L;obtain⟨t,rfl⟩:=R;obtain⟨aa7,r,pl,T⟩:=I.list J;obtain⟨j,c,G,W,N,M⟩:=sS S;obtain⟨w,C,g⟩:=r.get G;have O:=r.length;have U:=iP;have fin:EP X _ Z Q w s:=#[z,H,I,g,q]
 by_cases B:0<=i
 .have m:i.toNat=j:=by
   rw[seqIndex_of B M]at c;exact Vh c
  exact item_listR pl.isList B (by lia) (by rw[m];simpa using C) fin F
 have m:(i+aa7.toArray.size).toNat=j:=by
  rw[aaN (by lia) N]at c
  rw[Uq,<- O];exact Vh c
 exact aaM pl.isList.typeIs slot_list_getitem.lookup
  (wpAny_getItem_list_neg pl.isList (by lia) (by rw[Uq]<;>lia) (by lia) (by rw[m];simpa using C) #[rfl,fin]) F
theorem ix_tup:IxR X (Rt X.K):=by
 intro c g aa1 s Z H x y v u Q I B J h G;obtain⟨p,xs,i,z,rfl,rfl,m,L,q⟩:=h;cases B;obtain⟨t,rfl⟩:=J;obtain⟨aa7,r,pl,M⟩:=I.tuple m;obtain⟨j,F,l,S,R,O⟩:=sS L;obtain⟨w,C,f⟩:=r.get l;have N:=iP;have fin:EP X _ Z Q w s:=#[z,H,I,f,q]
 exact aaM pl.typeIs slot_tuple_getitem.lookup
  (getItem_tuple pl (by lia) (by lia) (by rw[Uq,<- r.length];exact F) (by simpa using C) #[rfl,fin]) G
theorem Ew:IxR X R_:=by
 intro f g aa1 s Z H x y v u Q I L J h G;obtain⟨z,i,c,rfl,rfl,N,K,q⟩:=h;obtain⟨t,rfl⟩:=L;obtain⟨t',rfl⟩:=J;obtain⟨j,l,B,O,p,m⟩:=sS K;have F:z.cps.toList.length=z.length:=by rfl
 rw[F]at l p m;have R:=iP;exact tail_any (typeIs_str s z t) slot_str_getitem.lookup (getItem_str (by
  have C:decide (i < -(2 ^ 63))=false:=decide_eq_false (by lia)
  have M:decide (i>=2 ^ 63)=false:=decide_eq_false (by lia)
  rw[C,M,Xe]) (by rw[l];simpa using B) #[.str _,H,I.tok _,#[_,rfl],q]) G
def rIx(K:Uh):R2:=λx y H Q=>SK K x y H Q\/Rt K x y H Q\/R_ x y H Q
theorem On:IxR X (rIx X.K):=ix_list.or (ix_tup.or Ew)
theorem wI(aa7:aba)(n j:Nat)(u:ay):UY (·.setIfInBounds j u) { cls:=.type "list",data:=.seq aa7.toArray n }={ cls:=.type "list",data:=.seq (aa7.set j u).toArray n }:=by
 simp[UY]
theorem Inv.lst{xs:List V}(I:Inv X aa1 Z H s)(h:H p=ap (.lst xs)):
  ∃(aa7:aba)(n:Nat),Vals xs aa7/\s.heap.get? p=ap { cls:=.type "list",data:=.seq aa7.toArray n }/\xs.length<=sizeLine:=by
 obtain⟨z,aa7,n,r,e⟩:=I.hok p _ h;exact#[_,n,r,e,z]
theorem Inv.lstUpd{xs:List V}(I:Inv X aa1 Z H s)(h:H p=ap (.lst xs))(ho:s.heap.get? p=ap { cls:=.type "list",data:=.seq aa7.toArray n })(hf:f { cls:=.type "list",data:=.seq aa7.toArray n }={ cls:=.type "list",data:=.seq its'.toArray n' })(r:Vals ys its')(hz:ys.length<=sizeLine)(t:Nat):
  Inv X aa1 Z (upd H p<|.lst ys) { s with heap:=s.heap.update p f,toks:=t }:=by
 have e:(s.heap.update p f).get? p=ap { cls:=.type "list",data:=.seq its'.toArray n' }:=by
  rw[WA f ho (by rw[hf]<;>rfl),hf]
 refine I.write (x:=p) (e:=p) (by rw[h];trivial) (.inl rfl) (λb u hb q=>(Xn _ _<|UO hb).trans q) #[_,e] ?_
 exact#[hz,its',n',r,e]
def Sa:V->V->V->Hp->(Hp->Prop)->Prop:=λo i v H Q=>∃p xs k j,o=.ref p/\i=.int k/\H p=ap (.lst xs)/\xP xs.length k=ap j/\Q (upd H p<|.lst<|xs.set j v)
theorem GT:Oi X Sa:=by
 rintro aa1 s Z H o i v L K u Q I y G B ⟨p,xs,k,j,rfl,rfl,x,z,q⟩
 cases y;obtain⟨t,rfl⟩:=G;obtain⟨aa7,n,r,g,C⟩:=I.lst x;obtain⟨c,M,l,F⟩:=tK z;have m:=r.length;have J:=iP;have I':Inv X _ Z _ _:=
  I.lstUpd x g (wI _ n j u) (r.set B j) (by rw[VL];exact C) s.toks
 by_cases h:0<=k
 .have f:k.toNat=j:=by
   rw[seqIndex_of h F]at c;exact Vh c
  exact W.ki_setAt g h (by lia) (by simp_all) (by rw[f];exact#[_,I',q])
 have f:(k+aa7.toArray.size).toNat=j:=by
  rw[aaN (by lia) l]at c
  rw[Uq,<- m];exact Vh c
 exact W.ki_setBack g (by lia) (by rw[Uq,<- m];exact l) (by lia) (by rw[f];exact#[_,I',q])
theorem tN(f c:Option Int)(n:Nat):(S' f c ca n).1=((HT.sIx n 0 f:Nat):Int)/\(S' f c ca n).2.1=((HT.sIx n n c:Nat):Int)/\(S' f c ca n).2.2=1:=by
 refine#[?_,?_,rfl]
 .cases f with
  |none=>rfl
  |some i=>
   simp[S',HT.sIx,if_true];lia
 cases c with
 |none=>simp[S',HT.sIx]
 |some i=>
  simp only[S',HT.sIx,Option.getD_none,if_true]
  by_cases h:i<0
  .simp only[h,if_true]<;>lia
  simp only[h,if_false]<;>lia
theorem pN(aa7:aba)(c f:Option Int):slicePick aa7.toArray c f ca=((aa7.drop<|HT.sIx aa7.length 0 c).take (HT.sIx aa7.length aa7.length f-HT.sIx aa7.length 0 c)).toArray:=by
 obtain⟨h,g,i⟩:=tN c f _;unfold slicePick;rw[h,g,i];simp only[sliceRange_one,pick_run]<;>rfl
def rSlL(K:Uh):V->Option Int->Option Int->Hp->VK->Prop:=λx f c H Q=>∃a xs,x=.ref a/\SqL K H a xs/\∀p,H p=ca->Q (.ref p) (upd H p<|.lst<|pc xs f c)
theorem BI:Tq X (rSlL X.K):=by
 rintro aa1 s Z H x v C z i g y Q I p l pl j ⟨a,xs,rfl,m,q⟩
 cases p;obtain⟨aa7,r,f,h⟩:=I.list m;have c:=r.length;refine#[_,_,slot_list_getitem.lookup,f.isList.typeIs,?_];refine wpAny_getItem_list_slice f.isList l pl j .none (by simp) ?_ (by simp_all)
 rw[pN,<- c];refine#[.ref _,_,I.laid (λb B q=>Ub _ q) (Um _) ?_,rfl,q _<|I.hok.fresh<|Um _];exact#[Uw (kz xs i g) h,_,0,(r.drop _).take _,Ui _ rfl]
noncomputable def EM:V->Bool
 |.non=>true
 |.bl _=>true
 |.int _=>true
 |.str _=>true
 |_=>cx
noncomputable def wA:V->V->Bool
 |.non,.non=>true
 |.bl a,.bl b=>a==b
 |.bl a,.int b=>(if a then 1 else 0)==b
 |.int a,.bl b=>a==(if b then 1 else 0)
 |.int a,.int b=>a==b
 |.str a,.str b=>a==b
 |_,_=>cx
theorem Gy(f:RelV y u)(c:RelV x v)(h:EM y=true)(g:EM x=true):Xm A s u v (wA y x):=by
 cases y with
 |non=>
  cases f;cases x with
  |non=>cases c;exact SeqAt.EqAt.same _
  |bl b=>cases c;exact SeqAt.EqAt.none_bool b
  |int b=>obtain⟨t,rfl⟩:=c;exact Ys b t
  |str b=>obtain⟨t,rfl⟩:=c;exact Yr b t
  |_=>trivial
 |bl a=>
  cases f;cases x with
  |non=>cases c;exact SeqAt.EqAt.bool_none a
  |bl b=>cases c;exact SeqAt.EqAt.bool_bool a b
  |int b=>obtain⟨t,rfl⟩:=c;exact SeqAt.EqAt.bool_int a b t
  |str b=>obtain⟨t,rfl⟩:=c;exact SeqAt.EqAt.bool_str a b t
  |_=>trivial
 |int a=>
  obtain⟨t',rfl⟩:=f;cases x with
  |non=>cases c;exact Yt a t'
  |bl b=>cases c;exact SeqAt.EqAt.int_bool a t' b
  |int b=>obtain⟨t,rfl⟩:=c;exact SeqAt.EqAt.int_int a t' b t
  |str b=>obtain⟨t,rfl⟩:=c;exact Yy a t' b t
  |_=>trivial
 |str a=>
  obtain⟨t',rfl⟩:=f;cases x with
  |non=>cases c;exact Yq a t'
  |bl b=>cases c;exact SeqAt.EqAt.str_bool a t' b
  |int b=>obtain⟨t,rfl⟩:=c;exact Yx a t' b t
  |str b=>obtain⟨t,rfl⟩:=c;exact SeqAt.EqAt.str_str a t' b t
  |_=>trivial
 |_=>trivial
theorem sO:bo X (.builtin "len") (λxs H Q=>∃p ys,xs=[.ref p]/\(SqL X.K H p ys\/kI X.K H p ys)/\Q (.int ys.length) H):=by
 rintro aa1 s Z H xs us Q I r ⟨p,ys,rfl,hq,q⟩
 obtain⟨u,rfl,h⟩:=jC r;cases h;have i:=iP;rcases hq with hq|hq
 .obtain⟨aa7,f,pl,g⟩:=I.list hq
  have c:=f.length;exact Calls.call_len_list pl.isList (by simp<;>lia) #[.int _,H,I.tok _,#[_,by rw[Uq,c]],q]
 obtain⟨aa7,f,pl,g⟩:=I.tuple hq;have c:=f.length;exact len_tuple pl (by simp only[Uq]<;>lia) #[.int _,H,I.tok _,#[_,by rw[Uq,c]],q]
theorem rJ:bo X (.builtin "len") (λxs H Q=>∃z,xs=[.str z]/\z.length<=sizeLine/\Q (.int z.length) H):=by
 rintro aa1 s Z H xs us Q I r ⟨z,rfl,c,q⟩
 obtain⟨u,rfl,t,rfl⟩:=jC r;have f:=iP;exact len_str (by lia) #[.int _,H,I.tok _,#[_,rfl],q]
theorem rT:bo X (.type "list") (λxs H Q=>∃p ys,xs=[.ref p]/\(SqL X.K H p ys\/kI X.K H p ys)/\∀l,H l=ca->Q (.ref l) (upd H l<|.lst ys)):=by
 rintro aa1 s Z H xs us Q I r ⟨p,ys,rfl,hq,q⟩
 obtain⟨u,rfl,x⟩:=jC r;cases x
 have fin:∀(aa7:List _),Vals ys _->ys.length<=sizeLine->∀(c:g3)(g:Nat),(∀b o',s.heap.get? b=ap o'->c.get? b=ap o')->
   c.get? _=ap _->EP X _ Z Q _ _:=λaa7 f h c g kp e=>
  #[.ref _,_,I.laid (t':=s.toks) kp (Um _) (show ObjOk _ _ _ c _ (.lst ys) from #[h,aa7,g,f,e]),rfl,q _<|I.hok.fresh<|Um _]
 rcases hq with hq|hq
 .obtain⟨aa7,f,pl,h⟩:=I.list hq
  have i:=f.length;obtain⟨o,v,j,n,m⟩:=pl.isList;exact call_list_seq p (.inl rfl) v j m (λc g kp e=>fin _ f h c g kp e) (by simp_all)
 obtain⟨aa7,f,pl,h⟩:=I.tuple hq;have i:=f.length;obtain⟨o,v,j,n,m⟩:=pl;exact call_list_seq p (.inr rfl) v j m (λc g kp e=>fin _ f h c g kp e) (by simp only[Uq]<;>lia)
theorem iw:bo X (.type "tuple") (λxs H Q=>∃p ys,xs=[.ref p]/\((SqL X.K H p ys/\∀l,H l=ca->Q (.ref l) (upd H l<|.tup ys))\/(kI X.K H p ys/\Q (.ref p) H))):=by
 rintro aa1 s Z H xs us Q I r ⟨p,ys,rfl,h⟩
 obtain⟨u,rfl,j⟩:=jC r;cases j;rcases h with⟨c,q⟩|⟨c,q⟩
 .obtain⟨aa7,f,pl,g⟩:=I.list c
  have i:=f.length;refine call_tuple_list pl.isList (λm kp=>?_) (by simp_all)
  have I1:Inv X _ Z H _:=I.kept (t':=s.toks) kp;have I2:Inv X _ Z (upd H _<|.tup ys) { s with heap:=m.push { cls:=.type _,data:=.seq _ } }:=
   I1.laid (λb o e=>Ub _ e) (Um _) (#[g,_,f,#[_,Ui _ rfl,#[rfl,_,rfl],rfl]])
  exact#[.ref _,_,I2,rfl,q _<|I1.hok.fresh<|Um _]
 obtain⟨aa7,f,pl,g⟩:=I.tuple c;exact call_tuple_same pl #[.ref p,H,I,rfl,q]
def tyV(K:Uh)(T:String)(x:V)(H:Hp):Prop:=match x with
 |.str _=>T="str"
 |.int _=>T="int"
 |.ref p=>(T="list"/\∃xs,SqL K H p xs)\/(T="tuple"/\∃o,K.lookup p=ap o/\o.cls=.type "tuple"/\o.dict=ca)\/
   (T="dict"/\((∃aa3,H p=ap (.dK aa3))\/∃aa3,H p=ap (.dT aa3)))\/(T="set"/\∃S n,H p=ap (.set S n))
 |_=>False
theorem Hq(I:Inv X aa1 Z H s)(r:RelV x v)(ty:tyV X.K T x H):
  s.TypeIs v T/\∀a,v=.ref a->∃m,s.heap.get? a=ap m/\m.dict=none:=by
 cases x with
 |str z=>
  obtain⟨t,rfl⟩:=r;cases ty;exact#[typeIs_str s z t,λ_ e=>nomatch e]
 |int i=>
  obtain⟨t,rfl⟩:=r;cases ty;exact#[typeIs_int s i t,λ_ e=>nomatch e]
 |ref p=>
  cases r;rcases ty with⟨rfl,xs,q⟩|⟨rfl,o,f,hc,h⟩|⟨rfl,f⟩|⟨rfl,S,n,f⟩
  .obtain⟨aa7,_,pl,_⟩:=I.list q
   refine#[pl.isList.typeIs,λa e=>?_];cases e;obtain⟨o,n,e,c,h,_⟩:=pl;exact#[o,e,h]
  .refine#[#[o,I.kIn p o f,hc],λa e=>?_]
   cases e;exact#[o,I.kIn _ o f,h]
  .have z:∃o,s.heap.get? p=ap o/\o.ExactDict:=by
    rcases f with⟨j,f⟩|⟨j,f⟩
    .obtain⟨_,_,_,_,o,_,_,e,g,_⟩:=I.hok p _ f
     exact#[o,e,g]
    obtain⟨_,_,_,_,o,_,_,e,g,_⟩:=I.hok p _ f;exact#[o,e,g]
   obtain⟨o,e,g⟩:=z;refine#[#[o,e,g.1],λa l=>?_];cases l;exact#[o,e,g.2.1]
  obtain⟨o,_,_,_,e,g,_⟩:=I.hok p _ f;refine#[#[o,e,g.1],λa l=>?_];cases l;exact#[o,e,g.2.1]
 |_=>exact Vv ty
def tBM0(K:Uh)(T:String)(r:V->List V->Hp->VK->Prop)(to:TE):TE:=λZ H Q=>to Z H λx H1=>tyV K T x H1/\r x [] H1 Q
def tBM(K:Uh)(T:String)(r:V->List V->Hp->VK->Prop)(to:TE)(t:TA):TE:=λZ H Q=>to Z H λx H1=>tyV K T x H1/\t Z H1 λxs H2=>r x xs H2 Q
variable{id:String}
theorem NG(y:V_ T)(f:Slot T name id)(g:Z' (.builtin id)=pure (.type "method_descriptor"))(hm:vo X id r)(z:PE X o to)(c:kc o name X.env (ff o X.env)=ff o X.env:=by rfl)(hline:(aa6.endLine==aa5.line)=true:=by rfl):PE X (.Call (.Attribute o name aa6) [] [] aa5) (tBM0 X.K T r to):=by
 intro aa1 s Z H Q I h;refine wpAny_Call_method0_late c hline (bu (z _ s Z H _ I h) λv j p=>?_);obtain⟨x,H1,I1,i,ty,q⟩:=p;obtain⟨m,l⟩:=Hq I1 i ty;exact#[T,id,y,f,g,m,l,VT rfl<|PySem.evalArgs_none<|hm _ j Z H1 x [] v [] Q I1 i .nil q]
theorem SV(F:V_ T)(f:Slot T name id)(g:Z' (.builtin id)=pure (.type "method_descriptor"))(L:vo X id r)(G:PE X o to)(J:PA X (e::es) t)(c:kc o name X.env (ff o X.env)=ff o X.env:=by rfl)(hfew:((f' aa5<|starEach (e::es) X.env).all (λx=>!x.1)&&(pb aa5<|keywordEach [] X.env).all (λx=>x.1.isSome)
   && decide ((e::es).length+([]:List o4).length+(if ([]:List o4).isEmpty then 0 else 1)<30))=true:=by rfl)(hline:(aa6.endLine==aa5.line)=true:=by rfl)(hs:ee (e::es) X.env=(cx,ff e X.env)::ee es X.env:=by rfl)(hplain:(f' aa5<|starEach es X.env).any (·.1)=false:=by rfl):
  PE X (.Call (.Attribute o name aa6) (e::es) [] aa5) (tBM X.K T r to t):=by
 intro aa1 s Z H Q I h;refine aaL c hfew hline rfl (bu (G _ s Z H _ I h) λv m B=>?_);obtain⟨x,H1,I1,j,ty,C⟩:=B;obtain⟨y,q⟩:=Hq I1 j ty;refine#[T,id,F,f,g,y,q,?_];have i:=J aa5 _ m Z H1 _ I1 C;rw[hs]at i ⊢;exact VT (by show (cx||(f' _ _).any _)=cx;rw[hplain]<;>rfl) (V2<|bu i<|by rintro us s2 ⟨z,H2,I2,p,l⟩;exact L _ s2 Z H2 x z v us Q I2 j p l)
end
def T9(X:Cx)(id:String)(r:V->List V->Hp->VK->Prop):Prop:=
 ∀(aa1:abf)(s:cb)(Z:St)(H:Hp)(x:V)(xs:List V)(v:ay)(us:aba)(Q:VK),Inv X aa1 Z H s->RelV x v->Vals xs us->r x xs H Q->
  eg (ez X.prog X.w) X.A (call (.builtin id) (v::us)) (EP X aa1 Z Q) X.xe s
theorem Vals.one:∀{x:V}{us:aba},Vals [x] us->∃u,us=[u]/\RelV x u
 |_,_,h=>by cases h with|cons r q=>cases q;exact#[_,rfl,r]
theorem Vals.two:∀{x y:V}{us:aba},Vals [x,y] us->∃u v,us=[u,v]/\RelV x u/\RelV y v
 |_,_,_,h=>by cases h with|cons r q=>cases q with|cons q z=>cases z;exact#[_,_,rfl,r,q]
theorem Vals.zero:∀{us:aba},Vals [] us->us=[]
 |_,.nil=>rfl
theorem Vals.dropLast{xs:List V}(h:Vals xs us):Vals xs.dropLast us.dropLast:=by
 induction h with
 |nil=>exact .nil
 |cons r t ih=>
  cases t with
  |nil=>exact .nil
  |cons q t'=>exact .cons r ih
theorem Vals.eraseIdx:∀{xs:List V}{us:aba}(i:Nat),Vals xs us->Vals (xs.eraseIdx i) (us.eraseIdx i)
 |_,_,_,.nil=>.nil
 |_,_,0,.cons _ t=>t
 |_,_,i+1,.cons r t=>.cons r (Vals.eraseIdx i t)
theorem Vals.reverse{xs:List V}(h:Vals xs us):Vals xs.reverse us.reverse:=by
 induction h with
 |nil=>exact .nil
 |cons r t ih=>rw[XJ,XJ];exact Vals.append ih (.cons r .nil)
theorem Vals.rep{xs:List V}(h:Vals xs us):∀k:Nat,Vals (UI k xs).flatten (UI k us).flatten
 |0=>.nil
 |k+1=>by
  exact Vals.append h (Vals.rep h k)
theorem Q7(l:List α):l.eraseIdx (l.length-1)=l.dropLast:=by
 simp_all
theorem qo{α:Type}:∀(l:List α)(i:Nat),(l.eraseIdx i).length<=l.length
 |[],_=>Um _
 |_::_,0=>V5 _
 |_::r,i+1=>Nat.succ_le_succ (qo r i)
section
variable{xs:List V}
theorem Inv.lset(I:Inv X aa1 Z H s)(hH:H l=ap (.lst xs))(e:s.heap.get? l=ap { cls:=.type "list",data:=.seq aa7.toArray n })(hf:f aa7.toArray=its'.toArray)(hv:Vals ys its')(hz:ys.length<=sizeLine):
  Inv X aa1 Z (upd H l<|.lst ys) { s with heap:=s.heap.update l (UY f),toks:=t' }:=by
 have q:=PySem.IsL.update e f;rw[hf]at q;refine I.write (by rw[hH];exact trivial) (.inl rfl) (λb' u hb hu=>(Xn _ _<|UO hb).trans hu) #[_,q] ?_
 exact#[hz,_,_,hv,q]
theorem Inv.lnew(I:Inv X aa1 Z H s)(c:Vals ys aa7)(f:ys.length<=sizeLine):
  Inv X aa1 Z (upd H s.heap.objs.size<|.lst ys) { s with heap:=s.heap.push { cls:=.type "list",data:=.seq aa7.toArray },toks:=t' }:=
 I.laid (λ_ _ q=>Ub _ q) (Um _) #[f,_,0,c,Ui _ rfl]
theorem Inv.fresh(I:Inv X aa1 Z H s):H s.heap.objs.size=none:=I.hok.fresh (Um _)
theorem Inv.lstM(I:Inv X aa1 Z H s)(c:H l=ap (.lst xs)):xs.length<=sizeLine/\∃(aa7:aba)(n:Nat),Vals xs aa7/\xs.length=aa7.length/\s.heap.get? l=ap { cls:=.type "list",data:=.seq aa7.toArray n }:=by
 obtain⟨z,aa7,n,r,e⟩:=I.hok l _ c;exact#[z,_,n,r,r.length,e]
end
def Kj:V->List V->Hp->VK->Prop:=λx c H Q=>∃l xs y,x=.ref l/\c=[y]/\H l=ap (.lst xs)/\xs.length<sizeLine/\Q .non (upd H l<|.lst (xs++[y]))
theorem CS:T9 X "list.append" Kj:=by
 rintro aa1 s Z H x m v us Q I g h ⟨l,xs,y,rfl,rfl,c,i,q⟩
 cases g;obtain⟨u,rfl,f⟩:=h.one;obtain⟨z,aa7,n,r,j,e⟩:=I.lstM c;refine mo Xw #[_,e,rfl] F.entry_list_append (F.args_list_append_2 _ _) (Zf l _ n u<|by simp_all) #[e,?_]
 refine#[.non,_,I.lset c e (by simp) (r.append<|.cons f .nil) ?_,rfl,q]
 rw[UG,VH];lia
def rPop:V->List V->Hp->VK->Prop:=λx c H Q=>∃l xs y,x=.ref l/\c=[]/\H l=ap (.lst xs)/\xs[xs.length-1]?=ap y/\Q y (upd H l<|.lst xs.dropLast)
theorem PP:T9 X "list.pop" rPop:=by
 rintro aa1 s Z H x C v us Q I j m ⟨l,xs,y,rfl,rfl,g,i,q⟩
 cases j;have c:=m.zero;subst c;obtain⟨z,aa7,n,r,B,e⟩:=I.lstM g;obtain⟨u,p,h⟩:=r.get i;have f:aa7.toArray[aa7.toArray.size-1]?=ap u:=by
  simp_all
 refine mo WU #[_,e,rfl] F.entry_list_pop (F.args_list_pop_1 _) (MeetsSeq.list_pop_last l _ n u f<|by rw[Uq];lia) #[e,?_]
 refine#[y,_,I.lset g e ?_ r.dropLast ?_,h,q]
 .simp_all
 rw[List.length_dropLast];lia
def NQ:V->List V->Hp->VK->Prop:=λx c H Q=>∃l xs i k y,x=.ref l/\c=[.int i]/\H l=ap (.lst xs)/\-(2 ^ 63)<=i/\i<2 ^ 63/\aaH i xs.length=ap k/\xs[k]?=ap y/\Q y (upd H l<|.lst<|xs.eraseIdx k)
theorem Ik:T9 X "list.pop" NQ:=by
 rintro aa1 s Z H x J v us Q I B C ⟨l,xs,i,k,y,rfl,rfl,f,j,h,K,p,q⟩
 cases B;obtain⟨u,rfl,m⟩:=C.one;obtain⟨t,rfl⟩:=m;obtain⟨z,aa7,n,r,G,e⟩:=I.lstM f;obtain⟨w,g,c⟩:=r.get p
 refine mo WU #[_,e,rfl] F.entry_list_pop (F.args_list_pop_2 _ _)
  (MeetsSeq.list_pop_at l _ n i t k w (fitsIndex_both j h) (by simp_all) (by rw[<- Array.getElem?_toList];exact g)<|by rw[Uq];lia) #[e,?_]
 refine#[y,_,I.lset f e ?_ (r.eraseIdx k) ?_,c,q]
 .simp_all
 have:=qo xs k;lia
def Im:V->List V->Hp->VK->Prop:=λx c H Q=>∃l xs,x=.ref l/\c=[]/\H l=ap (.lst xs)/\Q .non (upd H l<|.lst xs.reverse)
theorem wY:T9 X "list.reverse" Im:=by
 rintro aa1 s Z H x j v us Q I g h ⟨l,xs,rfl,rfl,f,q⟩
 cases g;have c:=h.zero;subst c;obtain⟨z,aa7,n,r,i,e⟩:=I.lstM f;refine mo YO #[_,e,rfl] F.entry_list_reverse (F.args_list_reverse_1 _) (AutoSeq1.list_reverse_list_0 l _ n<|by simp_all) #[e,?_]
 refine#[.non,_,I.lset f e (by simp) r.reverse ?_,rfl,q]
 rw[List.length_reverse];lia
def Op:V->List V->Hp->VK->Prop:=λx c H Q=>∃l xs,x=.ref l/\c=[]/\H l=ap (.lst xs)/\Q .non (upd H l<|.lst [])
theorem GO:T9 X "list.clear" Op:=by
 rintro aa1 s Z H x j v us Q I g h ⟨l,xs,rfl,rfl,f,q⟩
 cases g;have c:=h.zero;subst c;obtain⟨z,aa7,n,r,i,e⟩:=I.lstM f;exact mo Y2 #[_,e,rfl] F.entry_list_clear (F.args_list_clear_1 _) (AutoSeq1.list_clear_list_0 l _ n<|by rw[Uq];lia) #[e,#[.non,_,I.lset f e rfl .nil (Vg _),rfl,q]]
theorem KL(xs:List α)(k:Nat):(UI k xs).flatten.length=k*xs.length:=by
 induction k<;>simp_all
section
variable{κ:Type}[DecidableEq κ]
noncomputable def eB(aa3:List (κ×V))(k:κ):Option V:=(aa3.find? λc=>decide (c.1=k)).map (·.2)
noncomputable def fE(aa3:List (κ×V))(k:κ)(v:V):List (κ×V):=
 if (aa3.any λc=>decide (c.1=k))=true then aa3.map (λc=>if c.1=k then (c.1,v) else c) else aa3++[(k,v)]
noncomputable def iq(aa3:List (κ×V))(k:κ):List (κ×V):=aa3.filter λc=>decide (c.1≠k)
theorem oo{p:κ×V}{r:List (κ×V)}{k:κ}(e:p.1=k):eB (p::r) k=ap p.2:=by simp[eB,e]
theorem oq{p:κ×V}{r:List (κ×V)}{k:κ}(e:¬p.1=k):eB (p::r) k=eB r k:=by simp[eB,e]
theorem vL(k:κ):∀aa3:List (κ×V),(aa3.any λkv=>decide (kv.1=k))=(eB aa3 k).isSome
 |[]=>rfl
 |p::r=>by
  rw[WE]
  by_cases e:p.1=k
  .simp[oo e,decide_eq_true e,Xo]
  rw[oq e,decide_eq_false e];exact vL k r
theorem kC(aa3:List (κ×V))(k:κ)(v:V):(fE aa3 k v).length<=aa3.length+1:=by
 unfold fE
 split
 .rw[Uc];lia
 simp_all
theorem RelO.isSome_eq{u:Option ay}(r:RelO o u):o.isSome=u.isSome:=by
 cases o with
 |none=>cases u<;>trivial
 |some _=>cases u<;>trivial
theorem KV.val{aa3:List (κ×V)}{vs:List (κ×ay)}(r:KV aa3 vs)(k:κ):RelO (eB aa3 k) (U' vs k):=by
 unfold KV at r
 induction r with
 |nil=>exact V3
 |@cons p q ps qs h t ih=>
  obtain⟨f,g⟩:=h
  by_cases e:p.1=k
  .have c:q.1=k:=f.symm.trans e
   have b:U' (q::qs) k=ap q.2:=by simp[U',VX,c]
   rw[oo e,b];exact g
  .have c:¬q.1=k:=λz=>e (f.trans z)
   have b:U' (q::qs) k=U' qs k:=by simp[U',VX,c]
   rw[oq e,b];exact ih
theorem KV.any{aa3:List (κ×V)}{vs:List (κ×ay)}(r:KV aa3 vs)(k:κ):(aa3.any λkv=>decide (kv.1=k))=vs.any λkv=>decide (kv.1=k):=by
 induction r<;>simp_all
theorem KV.repl{aa3:List (κ×V)}{vs:List (κ×ay)}(r:KV aa3 vs)(k:κ){y:V}(g:RelV y u):
  KV (aa3.map λkv=>if kv.1=k then (kv.1,y) else kv) (vs.map λkv=>if kv.1=k then (kv.1,u) else kv):=by
 induction r with
 |nil=>exact .nil
 |@cons p q ps qs h t ih=>
  rw[Ue,Ue];refine .cons ?_ ih;obtain⟨c,f⟩:=h
  by_cases e:p.1=k
  .rw[if_pos e,if_pos (c.symm.trans e)];trivial
  rw[if_neg e,if_neg (λz=>e (c.trans z))];exact#[c,f]
theorem KV.put{aa3:List (κ×V)}{vs:List (κ×ay)}(r:KV aa3 vs)(k:κ){y:V}(c:RelV y u):KV (fE aa3 k y) (aac vs k u):=by
 unfold fE aac;rw[r.any k]
 by_cases e:(vs.any λf=>decide (f.1=k))=true
 .rw[if_pos e,if_pos e];exact r.repl k c
 rw[if_neg e,if_neg e];exact Paired.snoc r #[rfl,c]
theorem KV.drop{aa3:List (κ×V)}{vs:List (κ×ay)}(r:KV aa3 vs)(k:κ):KV (iq aa3 k) (without vs k):=by
 unfold iq without
 induction r with
 |nil=>exact .nil
 |@cons p q ps qs h t ih=>
  obtain⟨c,f⟩:=h;rw[UC,UC]
  by_cases e:p.1=k
  .have a:¬decide (p.1≠k)=true:=by simp[e]
   have b:¬decide (q.1≠k)=true:=by simp_all
   rw[if_neg a,if_neg b];exact ih
  have g:¬q.1=k:=λz=>e (c.trans z);have a:decide (p.1≠k)=true:=by simp[e]
  have b:decide (q.1≠k)=true:=by simp[g]
  rw[if_pos a,if_pos b];exact .cons #[c,f] ih
theorem KV.length{aa3:List (κ×V)}{vs:List (κ×ay)}(r:KV aa3 vs):aa3.length=vs.length:=VM r
theorem Gh(aa3:List (κ×V))(k:κ):(iq aa3 k).length<=aa3.length:=UM _ _
end
theorem jE(r:RelV (kV k) u):(aT P w).is k u=true:=by
 cases k with
 |inl i=>obtain⟨t,e⟩:=r;subst e;exact vS P w i t
 |inr x=>obtain⟨t,e⟩:=r;subst e;exact w8 P w x t
theorem qz:∀{ks:List aC}{us:aba},Vals (ks.map kV) us->ItemsAre (aT P w) ks us
 |[],_,r=>by cases r;exact .nil
 |k::ks,_,r=>by
  cases r with
  |cons h t=>exact .cons (jE h) (qz t)
abbrev KT(H:Hp):List (List aC×V)->List (List aC×cp×ay)->Prop:=V' λp q=>p.1=q.1/\H q.2.1=ap (.tup<|p.1.map kV)/\RelV p.2 q.2.2
theorem KT.val(r:KT H aa3 xs)(k:List aC):RelO (eB aa3 k) ((atKey xs k).map (·.2)):=by
 induction r with
 |nil=>trivial
 |@cons p q ps qs h t ih=>
  obtain⟨f,_,g⟩:=h
  by_cases e:p.1=k
  .have c:=f.symm.trans e
   have b:atKey (q::qs) k=ap q.2:=by simp[atKey,c]
   rw[oo e,b];exact g
  have c:¬q.1=k:=λz=>e (f.trans z);have b:atKey (q::qs) k=atKey qs k:=by simp[atKey,c]
  rw[oq e,b];exact ih
theorem KT.repl(r:KT H aa3 xs)(k:List aC)(i:RelV y u):
  KT H (aa3.map λkv=>if kv.1=k then (kv.1,y) else kv) (xs.map<|putAt k u):=by
 induction r with
 |nil=>exact .nil
 |@cons p q ps qs h t ih=>
  rw[Ue];refine .cons ?_ ih;obtain⟨c,f,g⟩:=h;unfold putAt
  by_cases e:p.1=k
  .rw[if_pos e,if_pos (c.symm.trans e)];trivial
  rw[if_neg e,if_neg (λz=>e (c.trans z))];exact#[c,f,g]
theorem KT.put(r:KT H aa3 xs)(k:List aC)(g:H b=ap (.tup<|k.map kV))(c:RelV y u):
  KT H (fE aa3 k y) (storedH xs k b u):=by
 have e:(aa3.any λf=>decide (f.1=k))=(atKey xs k).isSome:=by
  rw[vL,(r.val k).isSome_eq,XF]
 unfold fE storedH;rw[e]
 by_cases q:(atKey xs k).isSome=true
 .rw[if_pos q,if_pos q];exact r.repl k c
 rw[if_neg q,if_neg q];exact Paired.snoc r #[rfl,g,c]
theorem KT.keeps(r:KT H aa3 xs)(c:∀b ys,H b=ap (.tup ys)->H' b=ap (.tup ys)):KT H' aa3 xs:=
 gR r λ_ _ z=>#[z.1,c _ _ z.2.1,z.2.2]
theorem Ng{u:HO}(ok:HOk P w H h)(e:Rd H a u):ObjOk P w H h a u:=e.ok ok
theorem jA(ok:HOk P w H h)(e:Rd H a (.dK aa3)):aa3.length<=sizeLine/\(a==n7)=cx/\∃vs,KV aa3 vs/\h.DictOf (aT P w) a vs:=
 Ng ok e
theorem EY(ok:HOk P w H h)(e:H a=ap (.dK aa3)):aa3.length<=sizeLine/\(a==n7)=cx/\∃vs,KV aa3 vs/\h.DictOf (aT P w) a vs:=jA ok (.inl e)
theorem nR(ok:HOk P w H h)(e:H a=ap (.tup<|ks.map kV)):(aal<|aT P w).is h ks a:=by
 obtain⟨_,aa7,r,o,f,⟨c,n,g⟩,_⟩:=(show ObjOk P w H h a (.tup<|ks.map kV) from ok a _ e);exact#[o,aa7.toArray,n,f,c,g,by simpa using qz r]
theorem qt(ok:HOk P w H h)(e:Rd H a (.dT aa3)):aa3.length<=sizeLine/\(a==n7)=cx/\
  ∃xs,KT H aa3 xs/\h.DictOfH (aal<|aT P w) a xs:=by
 obtain⟨z,y,xs,r,o,j,B,i,g,v,f,c⟩:=(Ng ok e);refine#[z,y,xs,r,o,j,B,i,g,v,f,λx hx=>?_,c];have all:∀{l:List _}{m:List _},KT H l m->∀x∈m,(aal<|aT P w).is h x.1 x.2.1:=by
  intro l m q
  induction q with
  |nil=>intro x hx;exact nomatch hx
  |@cons p q ps qs hq t ih=>
   intro x hx;rcases Uk.mp hx with e|hx
   .exact nR ok (by simp_all)
   exact ih x hx
 exact all r x hx
theorem TR(ok:HOk P w H h)(e:H a=ap (.dT aa3)):aa3.length<=sizeLine/\(a==n7)=cx/\
  ∃xs,KT H aa3 xs/\h.DictOfH (aal<|aT P w) a xs:=qt ok (.inl e)
def DGet(H:Hp)(a:cp)(y:V)(r:Option V):Prop:=
 (∃aa3 k,Rd H a (.dK aa3)/\y=kV k/\r=eB aa3 k)\/∃aa3 k b,Rd H a (.dT aa3)/\y=.ref b/\H b=ap (.tup<|k.map kV)/\r=eB aa3 k
def DPut(H:Hp)(a:cp)(y v:V)(H':Hp):Prop:=
 (∃aa3 k,H a=ap (.dK aa3)/\y=kV k/\aa3.length<sizeLine/\H'=upd H a (.dK<|fE aa3 k v))\/
 ∃aa3 k b,H a=ap (.dT aa3)/\y=.ref b/\H b=ap (.tup<|k.map kV)/\aa3.length<sizeLine/\H'=upd H a (.dT<|fE aa3 k v)
theorem DGet.k{k:aC}(e:H a=ap (.dK aa3)):DGet H a (kV k) (eB aa3 k):=.inl #[_,k,.inl e,rfl,rfl]
theorem DGet.t{k:List aC}(e:H a=ap (.dT aa3))(c:H b=ap (.tup<|k.map kV)):DGet H a (.ref b) (eB aa3 k):=.inr #[_,k,b,.inl e,rfl,c,rfl]
theorem DPut.k{k:aC}(e:H a=ap (.dK aa3))(c:aa3.length<sizeLine):DPut H a (kV k) v (upd H a<|.dK<|fE aa3 k v):=.inl #[_,k,e,rfl,c,rfl]
theorem DPut.t{k:List aC}(e:H a=ap (.dT aa3))(c:H b=ap (.tup<|k.map kV))(f:aa3.length<sizeLine):
  DPut H a (.ref b) v (upd H a<|.dT<|fE aa3 k v):=.inr #[_,k,b,e,rfl,c,f,rfl]
theorem Inv.big(I:Inv X aa1 Z H s):n7<s.heap.objs.size:=by
 exact YV (by decide) ((I.mod.glob.keeps I.bk).lt)
theorem DH(L:A.units+1<kB)(I:Inv X aa1 Z H s)(g:DGet H a y (ap v))(C:RelV y u)(h:∀i F,Inv X aa1 Z H F->RelV v i->Q i F):
  eg (ez X.prog X.w) A (X_ (.ref a) u) Q E s:=by
 rcases g with⟨x,k,e,m,l⟩|⟨x,k,b,e,m,eb,l⟩
 .subst m
  obtain⟨z,J,K,c,j⟩:=jA I.hok e;obtain⟨i,q,f⟩:=dG (v:=v) (o:=U' K k) (by rw[l];exact c.val k)
  exact wpAny_getItem_of (jE C) j.mapOf q (h i _ (I.tok _) f)
 .subst m
  cases (show u=UH b from C);obtain⟨z,J,xs,c,j⟩:=qt I.hok e;obtain⟨i,q,f⟩:=dG (v:=v) (o:=(atKey xs k).map (·.2)) (by rw[l];exact c.val k)
  obtain⟨p,G,B⟩:=Vo.mp q;refine wpAny_getItem_heap (G' L) (nR I.hok eb) j G ?_;rw[B];exact h i _ (I.tok _) f
theorem RS(B:A.units+1<kB)(I:Inv X aa1 Z H s)(g:DGet H a y o)(p:RelV y u)(h:∀x,Inv X aa1 Z H x->Q (.bool o.isSome) x):
  eg (ez X.prog X.w) A (hG .In u<|.ref a) Q E s:=by
 rcases g with⟨m,k,e,i,l⟩|⟨m,k,b,e,i,eb,l⟩
 .subst i
  obtain⟨z,j,C,c,f⟩:=jA I.hok e;refine wpAny_in_of (jE p) j f.mapOf ?_;rw[<- (c.val k).isSome_eq,<- l];exact h _ (I.tok _)
 .subst i
  cases (show u=UH b from p);obtain⟨z,j,xs,c,f⟩:=qt I.hok e;refine wpAny_in_heap (G' B) (nR I.hok eb) j f ?_;have q:=(c.val k).isSome_eq;rw[XF]at q;rw[<- q,<- l];exact h _ (I.tok _)
theorem yM(B:A.units+1<kB)(I:Inv X aa1 Z H s)(g:DGet H a y o)(p:RelV y u)(h:∀x,Inv X aa1 Z H x->Q (.bool<|!o.isSome) x):
  eg (ez X.prog X.w) A (hG .NotIn u<|.ref a) Q E s:=by
 rcases g with⟨m,k,e,i,l⟩|⟨m,k,b,e,i,eb,l⟩
 .subst i
  obtain⟨z,j,C,c,f⟩:=jA I.hok e;refine wpAny_notIn_of (jE p) j f.mapOf ?_;rw[<- (c.val k).isSome_eq,<- l];exact h _ (I.tok _)
 subst i;cases (p);obtain⟨z,j,xs,c,f⟩:=qt I.hok e;refine wpAny_notIn_heap (G' B) (nR I.hok eb) j f ?_;have q:=(c.val k).isSome_eq;rw[XF]at q;rw[<- q,<- l];exact h _ (I.tok _)
theorem sC(I:Inv X aa1 Z H s)(i:S5 (H a))(g:Vr a s.heap h')(h:∃q,h'.get? a=ap q)(new:ObjOk X.prog X.w (upd H a c) h' a c):
  Inv X aa1 Z (upd H a c) { s with heap:=h',toks:=t' }:=
 I.write (x:=a) (e:=a) i (.inl rfl) (λb q f z=>(g.2 b f).trans z) h new
theorem sE(z:aa3.length<=sizeLine)(f:(a==n7)=cx)(c:KV aa3 vs)(dd:h'.DictOf (aT P w) a vs):
  ObjOk P w H' h' a (.dK aa3):=#[z,f,vs,c,dd]
theorem qG(hu:A.units+1<kB)(I:Inv X aa1 Z H s)(g:DPut H a y v H')(M:RelV y u)(O:RelV v r)(h:∀N,Inv X aa1 Z H' N->Q () N):
  eg (ez X.prog X.w) A (setItem (.ref a) u r) Q E s:=by
 rcases g with⟨f,k,e,B,l,J⟩|⟨f,k,b,e,B,eb,l,J⟩
 .subst B J
  obtain⟨z,x,Y,i,p⟩:=EY I.hok e;have C:Y.length<=sizeLine:=by rw[<- i.length];exact z
  have F:(fE f k v).length<=sizeLine:=by have:=kC f k v;lia
  refine wpAny_setItem_pairs (hsz:=C) (jE M) p λL j G=>h _ ?_;have he:∃q,L.get? a=ap q:=let ⟨q,_,_,m,_⟩:=j;#[q,m];exact sC I (by rw[e];exact V3) G he (sE F x (i.put k O) j)
 .subst B J
  cases (show u=UH b from M);obtain⟨z,x,xs,i,p⟩:=TR I.hok e;have C:xs.length<=sizeLine:=by rw[<- VM i];exact z
  have F:(fE f k v).length<=sizeLine:=by have:=kC f k v;lia
  refine wpAny_setItem_heap (hsz:=C) (G' hu) (nR I.hok eb) p λL j G=>h _ ?_;obtain⟨q,U,ep,m,T,W,S,_,R⟩:=j;refine sC I (by rw[e];exact V3) G #[q,m] #[F,x,_,(i.put k eb O).keeps λc ys K=>?_,q,U,ep,m,T,W,S,R]
  rw[aw (SB K e λz=>nomatch z)];exact K
theorem Mn(I:Inv X aa1 Z H s)(e:H a=ap (.dK aa3))(m:RelV (kV k) u)(l:eB aa3 k=ap v)(B:more=[]\/∃x,more=[x])(h:∀g C,Inv X aa1 Z (upd H a<|.dK<|iq aa3 k) C->RelV v g->Q g C):eg (ez X.prog X.w) A (call (.builtin "dict.pop") (.ref a::u::more)) Q E s:=by
 obtain⟨z,K,y,c,p⟩:=EY I.hok e;obtain⟨g,L,j⟩:=dG (v:=v) (o:=U' y k) (by rw[<- l];exact c.val k)
 have G:(keyPart u).isSome=true:=by
  cases k with
  |inl i=>obtain⟨t,q⟩:=(show ∃t,u=XT i t from m);subst q;rfl
  |inr x=>obtain⟨t,q⟩:=(show ∃t,u=XS x t from m);subst q;rfl
 have N:aaA "dict.pop" #[.ref a::u::more,[]]:=by
  rcases B with q|⟨x,q⟩
  .subst q;exact PySem.F.args_dict_pop_2 _ _
  .subst q;exact Yj _ _ _
 refine call_meetsIn Wq p.typeIs Yu N (meets_dict_pop_there (aT X.prog X.w) a (jE m) more B G)
  #[y,g,p,by rw[<- c.length];exact z,L,λM f O=>h g _ ?_ j]
 have J:∃q,M.get? a=ap q:=let ⟨q,_,_,hq,_⟩:=f;#[q,hq];exact sC I (by rw[e];exact V3) O J (sE (Uw (Gh aa3 k) z) K (c.drop k) f)
theorem Ph(I:Inv X aa1 Z H s)(e:H a=ap (.dK aa3))(f:RelV (kV k) u)(l:eB aa3 k=ca)(h:∀m,Inv X aa1 Z H m->Q r m):
  eg (ez X.prog X.w) A (call (.builtin "dict.pop") [.ref a,u,r]) Q E s:=by
 obtain⟨z,v,j,c,g⟩:=EY I.hok e;have y:U' j k=none:=jI (by rw[<- l];exact c.val k)
 have p:(keyPart u).isSome=true:=by
  cases k with
  |inl i=>obtain⟨t,q⟩:=(show ∃t,u=XT i t from f);subst q;rfl
  |inr x=>obtain⟨t,q⟩:=(show ∃t,u=XS x t from f);subst q;rfl
 exact call_meetsIn Wq g.typeIs Yu (Yj _ _ _) (meets_dict_pop_default (aT X.prog X.w) a (jE f) v p r) #[j,g,y,h _<|I.tok _]
theorem Rr(I:Inv X aa1 Z H s)(e:Rd H a (.dK aa3))(h:∀t f,Inv X aa1 Z H f->Q (.int aa3.length t) f):eg (ez X.prog X.w) A (call (.builtin "len") [.ref a]) Q E s:=by
 obtain⟨z,i,j,c,g⟩:=jA I.hok e;refine call_len_dict i g (by rw[<- c.length];rw[kL]at z;lia) ?_
 rw[<- c.length];exact h _ _ (I.tok _)
theorem uh(I:Inv X aa1 Z H s)(g:DGet H a y o):s.TypeIs (.ref a) "dict":=by
 rcases g with⟨f,k,e,_,_⟩|⟨f,k,b,e,_,_,_⟩
 .obtain⟨_,_,h,_,c⟩:=jA I.hok e
  exact c.typeIs
 obtain⟨_,_,xs,_,c⟩:=qt I.hok e;exact c.typeIs
theorem Ip(h:g3)(c:n7<h.objs.size):ObjOk P w H (h.push { cls:=.type "dict",data:=.dict (Tw []) }) h.objs.size (.dT []):=
 #[Vg _,beq_eq_false_iff_ne.mpr (UO<|Uy c),[],.nil,_,_,0,Ui _ rfl,#[rfl,rfl,rfl],rfl,rfl,List.nodup_nil]
def QR:TE:=λ_ H Q=>∀p,H p=ca->Q (.ref p) (upd H p<|.dT [])
theorem FS:PE X (.Dict [] [] pos) QR:=λaa1 s Z H Q I h=>
 wpAny_Dict_empty #[.ref _,_,I.laid (λ_ _ q=>Ub _ q) (Um _) (Ip _ I.big),rfl,h _<|I.hok.fresh<|Um _]
structure M1(X:Cx)(o:eT)(m:Str)(aa6:Pos)(e:eT)(aa5:Pos):Prop where
 base:kc o m X.env (ff o X.env)=ff o X.env
 few:((f' aa5<|starEach [e] X.env).all (λx=>!x.1)&&(pb aa5<|keywordEach [] X.env).all (λx=>x.1.isSome)
  && decide (([e]:abc).length+([]:List o4).length+(if ([]:List o4).isEmpty then 0 else 1)<30))=true
 line:(aa6.endLine==aa5.line)=true
 trees:f' aa5 (ee [e] X.env)=[(cx,ff e X.env)]
structure M2(X:Cx)(o:eT)(m:Str)(aa6:Pos)(e f:eT)(aa5:Pos):Prop where
 base:kc o m X.env (ff o X.env)=ff o X.env
 few:((f' aa5<|starEach [e,f] X.env).all (λx=>!x.1)&&(pb aa5<|keywordEach [] X.env).all (λx=>x.1.isSome)
  && decide (([e,f]:abc).length+([]:List o4).length+(if ([]:List o4).isEmpty then 0 else 1)<30))=true
 line:(aa6.endLine==aa5.line)=true
 trees:f' aa5 (ee [e,f] X.env)=[(cx,ff e X.env),(cx,ff f X.env)]
def IsD(H:Hp)(a:cp):Prop:=(∃aa3,Rd H a (.dK aa3))\/∃aa3,Rd H a (.dT aa3)
theorem El(I:Inv X aa1 Z H s)(d:IsD H a):
  s.TypeIs (.ref a) "dict"/\(∀b,UH a=.ref b->∃c,s.heap.get? b=ap c/\c.dict=ca)/\(a==n7)=false:=by
 rcases d with⟨j,e⟩|⟨j,e⟩
 .obtain⟨_,g,l,_,f⟩:=jA I.hok e
  refine#[f.typeIs,λb q=>?_,g];cases q;obtain⟨c,_,_,i,h,_⟩:=f;exact#[c,i,h.2.1]
 obtain⟨_,g,xs,_,f⟩:=qt I.hok e;refine#[f.typeIs,λb q=>?_,g];cases q;obtain⟨c,_,_,i,h,_⟩:=f;exact#[c,i,h.2.1]
def QD(td ty:TE):TE:=λZ H Q=>td Z H λx H1=>∃a,x=.ref a/\IsD H1 a/\ty Z H1 λy H2=>∃aa3 k v,H2 a=ap (.dK aa3)/\y=kV k/\eB aa3 k=ap v/\Q v (upd H2 a<|.dK<|iq aa3 k)
def Pv(td ty tx:TE):TE:=λZ H Q=>td Z H λx H1=>∃a,x=.ref a/\IsD H1 a/\ty Z H1 λy H2=>tx Z H2 λz H3=>∃aa3 k,H3 a=ap (.dK aa3)/\y=kV k/\
 (∀v,eB aa3 k=ap v->Q v (upd H3 a<|.dK<|iq aa3 k))/\(eB aa3 k=ca->Q z H3)
theorem Eo(G:PE X o td)(J:PE X e ty)(m:M1 X o "pop" aa6 e aa5):PE X (.Call (.Attribute o "pop" aa6) [e] [] aa5) (QD td ty):=by
 intro aa1 s Z H Q I h;refine wpAny_Call_method m.base m.few m.line Yh Wq YA (bu (G _ s Z H _ I h) λu p C=>?_);obtain⟨x,H1,I1,j,a,z,d,F⟩:=C;subst z;obtain rfl:u=UH a:=j;obtain⟨t1,t2,_⟩:=El I1 d;refine#[t1,t2,?_];rw[m.trees];refine VT rfl (V2<|VS (bu (J _ p Z H1 _ I1 F) λM s2 ⟨y,H2,I2,B,_,k,v,i,q,l,g⟩=>Wo ?_));subst q;exact Mn I2 i B l (.inl rfl) λL K I3 c=>#[v,_,I3,c,g]
theorem GU(O:PE X o td)(R:PE X e ty)(S:PE X f tx)(m:M2 X o "pop" aa6 e f aa5):PE X (.Call (.Attribute o "pop" aa6) [e,f] [] aa5) (Pv td ty tx):=by
 intro aa1 s Z H Q I h;refine wpAny_Call_method m.base m.few m.line Yh Wq YA (bu (O _ s Z H _ I h) λu C L=>?_);obtain⟨x,H1,I1,q,a,J,d,M⟩:=L;subst J;obtain rfl:u=UH a:=q;obtain⟨t1,t2,_⟩:=El I1 d;refine#[t1,t2,?_];rw[m.trees];refine VT rfl (V2<|VS (bu (R _ C Z H1 _ I1 M) λW s2 ⟨y,H2,I2,i,j⟩=>
  VS (bu (S _ s2 Z H2 _ I2 j) λK T ⟨z,H3,I3,N,_,k,g,F,B,G⟩=>Wo ?_)))
 subst F;cases l:eB _ k with
 |some v=>exact Mn I3 g i l (.inr #[K,rfl]) λU p I4 c=>#[v,_,I4,c,B v l]
 |none=>exact Ph I3 g i l λp I4=>#[z,H3,I4,N,G l]
theorem FG(I:Inv X aa1 Z H s)(e:Rd H a (.dK aa3))(h:∀p i,H p=ca->Inv X aa1 Z (upd H p<|.dK aa3) i->Q (.ref p) i):eg (ez X.prog X.w) A (call (.type "dict") [.ref a]) Q E s:=by
 obtain⟨z,l,x,c,j⟩:=jA I.hok e;exact kt_call_dict l j (by rw[<- c.length];exact z) λv f m=>h _ _ (I.hok.fresh<|Um _) (I.laid (a:=s.heap.objs.size) (o:=.dK aa3) (t':=s.toks) (λb q g=>(m.2 b<|Uy<|Ug g).trans (Ub _ g)) (Um _)<|sE z (beq_eq_false_iff_ne.mpr<|UO<|Uy I.big) c f)
end _2
namespace Att
open PySem PySem.W PySem.Calls PyProof.Rows
theorem kX:∀(c:aa_)(vs:aba),WellAll P h vs (c.map WData.int)->s9 vs c:=by
 intro c
 induction c with
 |nil=>
  rintro vs ⟨⟩
  exact .nil
 |cons n c ih=>
  intro vs w;cases w with
  |cons a b=>
   cases a;exact .cons _ _ (ih _ b)
theorem Dh{l:OpenLaw}(s:l.most=ap n)
  (c:l.row.toRowW.claim.pre args=true) (j:WellAll P h e args):
  ∃a vs b,e=[UH a]/\args=[WData.list (b.map WData.int)]/\h.get? a=ap { cls:=.type "list",data:=.seq vs.toArray }/\s9 vs b/\b.length<=n:=by
 have i:WShape.hasAll [] _ _=true:=(pre_splitW c).1;have m:l.pre.holds [] _=true:=(pre_splitW c).2;obtain⟨d,r,rfl,p,o⟩:=hasAllW_cons i;obtain rfl:=hasAllW_nil o;obtain⟨v,rfl,q⟩:=hasW_list p;obtain⟨b,rfl⟩:=items_int q;have f:b.length<=n:=by
  have g:(WTm.not<|.lt (.lit<|.int n)<|.len<|.arg 0).holds [] { args:=[.list (b.map .int)] }=true:=by
   have g:=(holds_andW m).1;rw[s]at g;exact g
  have u:=condW_of g (w_not<|w_lt w_lit<|w_len_list<|w_arg rfl)
  simp_all
 cases j with
 |cons w1 w2=>
  cases w2;cases w1 with
  |list ho hall=>exact#[_,_,b,rfl,rfl,ho,kX b _ hall,f]
theorem DB(l:OpenLaw)(args:List WData):l.row.toRowW.claim.post args (.bool true) args=true:=
 postW_of
  (show WShape.has [] _ _=true by rfl)
  (w_eq_bool (w_res rfl) w_lit) rfl
theorem we{l:OpenLaw}
  (T:l.most=ap n) (A:d.params.defaults=[])
  (call:∀(w:fx)(c b:cb)(u z:abg)(fa:cp)(o:Obj)(B p g:ay)(a:cp)(vs:aba)(s:aa_),
   Ground q loose [] XP w c u z b.heap->YP w b.heap->
   b.heap.get? fa=ap o->o.data=.func (docDef d.name d.params d.body d.scope B p g)->b.heap.CodeRec p d.name->u d.name=ap (.ref fa)->
   b.heap.get? a=ap { cls:=.type "list",data:=.seq vs.toArray }->s9 vs s->s.length<=n->b.gens=(Tw [])->
   y2 (ez l.prog w) aah (.call (.ref fa) #[[.ref a],[]]) (λr m=>r=.ok (.ret<|.bool true)/\OldK b.heap m.heap/\m.os=b.os/\UF m.gens) b):
  WalkO q loose XP YP l.row.toRowW d [] (λf vs=>Y6 f vs):=by
 intro w c b u z G Y fa o B p g S kV Q I v E x K H F U h C M y R;obtain rfl:S=.none:=Dflts.none E A;obtain rfl:kV=.none:=Dflts.noKw E;obtain⟨a,vs,s,rfl,rfl,j,e,i⟩:=Dh T h y;refine enter_call (rc (call w c b u z fa o B p g a vs s G Y Q (fd_plain I) v x j e i K) λr m L=>?_);obtain⟨rfl,J,O,N⟩:=L;exact#[.inl #[.bool true,.bool true,[],rfl,λ_=>rfl,.bool true,DB l _,λ_=>#[Ym,λ_ P=>(nomatch P)]],J,O,N]
end Att
namespace _2
open PySem PySem.Spec PyProof.Rows
variable{a l:cp}{A:fv}{items:abh}{b f1:Bool}{h h':g3}{args:List (Bool×cp)}{fp:abb}{i j n:Nat}{s:cb}{x:Str}{α:Type}{K:Uh}{f0:ay}{w:fx}{F:ZS->Option ay}
theorem dH:∀{vs:aba}{c:aa_},s9 vs c->Vals (c.map V.int) vs:=by
 intro vs c h
 induction h with
 |nil=>exact .nil
 |cons n t _ ih=>exact .cons #[t,rfl] ih
def GR(H:Hp):Prop:=∀b,H b=ca\/∃o xs,H b=ap (.frz o<|.lst xs)
theorem Iv(KX:K.In c.heap)(O:c.heap.Ns eC T)(g:c.heap.Ns aax mb)(hbb:∀x:Str,x≠"__name__"->mb x=eS x)(R:c.heap.NoLimit)(hg:c.gens=(Tw []))(U:c.heap.get? a=ap { cls:=.type "list",data:=.seq vs.toArray })(hi:s9 vs ns)(hl:ns.length<=sizeLine)(hr:Room k aah)(F:∀base:g3,K.In base->base.Ns eC T->FnOk P w K T base CX k fa fd [x] sp)(hbind:∀(s:cb)(u:ay),aas s fd #[[u],[]] [(x,u)])(hsp:∀H:Hp,GR H->SqL K H a (ns.map V.int)->sp [.ref a] H (λv _=>v=.bl true) λ_ _ _=>False)(hCX:∀H e p,CX [] H c (λ_ _ _=>False) e p->False):
  y2 (ez P w) aah (.call (.ref fa) #[[.ref a],[]]) (λr p=>r=.ok (.ret<|.bool true)/\OldK c.heap p.heap/\p.os=c.os/\UF p.gens) c:=by
 have rv:=dH hi;have N:=hi.length
 -- from an abstract heap in which nothing but the script may be tracked
 have y:∀H:Hp,GR H->SqL K H a (ns.map V.int)->HOk P w H c.heap->(∀b,H b≠ca->b=a)->(H a≠ca->K.lookup a=ca)->
   y2 (ez P w) aah (.call (.ref fa) #[[.ref a],[]]) (λr p=>r=.ok (.ret<|.bool true)/\OldK c.heap p.heap/\p.os=c.os/\UF p.gens) c:=by
  intro H hO hS G hA hK;have f:∀{b:cp}{o:Obj},c.heap.get? b=ap o->H b=ca->(qN c.heap H).get? b=ap o:=λe n=>Es e n;have noA:∀{b:cp}{o:Obj}{I:Array aao}{L:Nat},c.heap.get? b=ap o->o.data=.dict I L->H b=none:=λ{b o I L} e d=>by
   cases q:H b with
   |none=>rfl
   |some u=>
    have W:b=a:=hA b (by rw[q];simp)
    subst W;rw[U]at e;cases e;have d':Data.seq vs.toArray _=Data.dict I L:=d;cases d'
  have nsK:∀{b:cp}{m:abg},c.heap.Ns b m->(qN c.heap H).Ns b m:=λ{b m} ⟨o,I,L,e,d,r⟩=>#[o,I,L,f e (noA e d),d,r];have B:K.In (qN c.heap H):=λb o e=>f (KX b o e) (by
   cases q:H b with
   |none=>rfl
   |some u=>
    have W:b=a:=hA b (by rw[q];simp)
    subst W;rw[hK (by rw[q];simp)]at e;cases e)
  have hM:Mod K T (qN c.heap H):=#[B,nsK O,#[mb,nsK g,hbb],let ⟨mc,h1,h2⟩:=R;#[mc,nsK h1,h2]];have e0:Env0 P w K T (qN c.heap H) aah [] c H:=#[rfl,hM,λb o e=>L9 e,YW (DV _ _),trivial,λb g=>absurd (show b∈([]:abb) from g) (by simp),G,.of_eq hg]
  refine rc ((F _ B<|nsK O).run aah [] c H #[[.ref a],[]] [.ref a] [.ref a] _ _ hr e0 (hbind c<|.ref a) (.cons rfl .nil)<|hsp H hO hS) λr p h=>?_;cases r with
  |error e=>exact(hCX H e p h).elim
  |ok fl=>
   cases fl with
   |next=>exact Vv h
   |brk=>exact Vv h
   |cont=>exact Vv h
   |ret u=>
    obtain⟨v,H',os,C,un,J,r',q⟩:=h;have q':v=.bl true:=q;subst q';obtain rfl:u=Y8 true:=r';refine#[rfl,OldK.of_keep λb o e=>?_,os,C];cases q:H b with
    |none=>exact un.keep b o e q (by intro z;exact absurd (show b∈([]:abb) from z) (by simp)) (by simp)
    |some u=>
     rcases hO b with z|⟨ob,xs,z⟩
     .rw[q]at z;cases z
     .have z2:=un.frzs b ob _ z
      obtain⟨e1,_⟩:=G b _ z;obtain⟨e2,_⟩:=J b _ z2;rw[e]at e1;cases e1;exact e2
 cases Y:K.lookup a with
 |some o=>
  -- the script is one of the module's own objects
  have e:=KX a o Y;rw[U]at e;cases e;refine y (λ_=>ca) (λ_=>.inl rfl) (.inr #[_,vs.toArray,_,Y,rfl,rfl,rfl,by rw[Uq,N];exact hl,by simpa using rv]) (λb u z=>by have M:(none:Option HO)=ap u:=z;cases M) (λb z=>absurd rfl z) λz=>absurd rfl z
 |none=>
  refine y (λb=>if b=a then ap (.frz { cls:=.type "list",data:=.seq vs.toArray }<|.lst<|ns.map V.int) else ca) (λb=>?_) (.inl<|.inr #[{ cls:=.type "list",data:=.seq vs.toArray },if_pos rfl]) (λb u z=>?_) (λb z=>?_) λ_=>Y
  .by_cases g:b=a
   .exact .inr #[_,_,if_pos g]
   .exact .inl (if_neg g)
  .by_cases g:b=a
   .have M:=(if_pos g).symm.trans z
    cases M;subst g;exact#[U,by rw[Uc];exact hl,vs,_,rv,U]
   .have M:=(if_neg g).symm.trans z
    cases M
  .by_cases g:b=a
   .exact g
   .exact absurd (if_neg g) z
theorem L7{l:W.OpenLaw}{K:Params->Uh}{CX:fx->pi}{sp:fx->Sp}(hn:l.most=ap n)(M:n<=sizeLine)(N:d.params.defaults=[])(hr:Room k aah)(hY:∀(w:fx)(h:g3),YP w h->(K w.params).In h)(F:∀(w:fx)(r:abg)(fa:cp)(h:g3),(K w.params).In h->h.Ns eC r->r d.name=ap (.ref fa)->
   ∃fd:fy,(∀(s:cb)(u:ay),aas s fd #[[u],[]] [(x,u)])/\
    ∀c:g3,(K w.params).In c->c.Ns eC r->FnOk l.prog w (K w.params) r c (CX w) k fa fd [x] (sp w))(J:∀(w:fx)(H:Hp)(a:cp)(C:aa_),C.length<=n->GR H->SqL (K w.params) H a (C.map V.int)->sp w [.ref a] H (λv _=>v=.bl true) λ_ _ _=>False)(L:∀(w:fx)(H:Hp)(s:cb)(e:ay)(O:cb),CX w [] H s (λ_ _ _=>False) e O->False):
  W.WalkO q loose XP YP l.row.toRowW d [] (λf vs=>Y6 f vs):=by
 refine Att.we hn N λw R y r mb fa o pm cd doc a vs C G Y ho hd U I B p m hg=>?_;have KX:=hY w _ Y;obtain⟨fd,hb,hF⟩:=F w r fa _ KX G.T.g I;exact Iv KX G.T.g G.T.b G.T.builtins G.T.nolimit hg B p (Uw m M) hr hF hb (λH hO hS=>J w H a C m hO hS) λH e O=>L w H y e O
noncomputable def eM(s:mu)(j:Nat):Stmt:=match s with
 |.ClassDef _ _ _ body _ _ _ _ _ _ _=>body.getD j (.Pass #[0,0,0,0])
 |_=>.Pass #[0,0,0,0]
def cg(s:mu):Arguments:=match s with
 |.FunctionDef _ a _ _ _ _ _ _ _ _=>a
 |_=>{ posonlyargs:=[],args:=[],vararg:=ca,kwonlyargs:=[],kw_defaults:=[],kwarg:=ca,defaults:=[] }
def bw(s:mu):List Stmt:=match s with
 |.FunctionDef _ _ b _ _ _ _ _ _ _=>b
 |_=>[]
def aP(s:mu):Scope:=match s with
 |.FunctionDef _ _ _ _ _ _ sc _ _ _=>sc
 |_=>{ kind:=.function,names:=[],isGenerator:=cx,isCoroutine:=cx }
abbrev CX0:pi:=λ_ _ _ _ _ _=>False
abbrev E0:XK:=λ_ _ _=>False
structure Fun(K:Uh)(x aa2:Str)(st:mu)(f:cp)(fd:fy):Prop where
 ex:∃(oc:ay)(od:Option cp)(kV doc pm:ay)(an:Option cp)(cdv ct:ay)(osl:Array (Option ay)),
  fd=WI x aa2 (cg st) (bw st) (aP st) .none kV doc pm an cdv ct/\K.lookup f=ap #[oc,od,.func fd,osl]/\XZ K cdv aa2=true
 kp:VB K (.ref f)=true
theorem Fun.binds(F:Fun K x c m f fd)(h:∀(kV e p:ay)(q:Option cp)(g o:ay)(us:aba),us.length=ps.length->aay (WI x c (cg m) (bw m) (aP m) .none kV e p q g o) #[us,[]]=pure (ps.zip us)):Binds K fd ps []:=by
 obtain⟨v,y,kV,e,p,q,g,o,u,rfl,lk,r⟩:=F.ex;exact .all (h kV e p q g o)
theorem y3{kV:ay}(l:K.lookup f=ap #[v,y,.func (WI x e (cg g) (bw g) (aP g) .none kV o r u m p),q])(c:XZ K m e=true)(k:VB K (.ref f)=true):Fun K x e g f (WI x e (cg g) (bw g) (aP g) .none kV o r u m p):=#[#[v,y,kV,_,r,u,_,p,_,rfl,l,c],k]
theorem uv(c:Room k A):A.units+1<cLine:=Nat.lt_of_le_of_lt (Nat.add_le_add_left (by decide) _) c.units
theorem DL:bo X (.builtin "len") (λxs H Q=>∃a aa3,xs=[V.ref a]/\H a=ap (.dK aa3)/\Q (.int aa3.length) H):=by
 intro aa1 s Z H xs g Q I r h;obtain⟨a,aa3,rfl,e,q⟩:=h;obtain⟨u,rfl,c⟩:=jC r;cases c;exact Rr I (.inl e) λt f I'=>#[.int aa3.length,H,I',#[t,rfl],q]
theorem rl(I:Nat->cb->Prop)(turn:∀n s,I n s->eg (ez prog w) A (w6 it) (λr s₁=>match r with
   |none=>R (.ok .next) s₁
   |some v=>eg (ez prog w) A (WF target it v) (λ_ s₂=>eg (ez prog w) A (aan target env v) (λ_ s₃=>
     eg (ez prog w) A (forIn ifs true λc r=>if r=true then do let ok <- isTrue c env (ff c env);pure (Xd ok) else pure (Xd r)) (λok s₄=>
      if ok=true then eg (ez prog w) A (ff elt env) (λx s₅=>
       eg (ez prog w) A (call (.builtin "list.append") [aa4,x]) (λ_ s₆=>∃m,m<n/\I m s₆) (λ_ _=>False) s₅) (λ_ _=>False) s₄
      else ∃m,m<n/\I m s₄) (λ_ _=>False) s₃) (λ_ _=>False) s₂) (λ_ _=>False) s₁) (λ_ _=>False) s)(n:Nat)(h:I n s):
  y2 (ez prog w) A (.compLoop (.ListComp elt [#[target,iter,ifs,0]] scope pos) 0 it aa4 env) R s:=by
 refine codeAny_loop rfl I (λn s hI=>?_) n h;show eg _ A _ _ _ s;refine wpAny_noted ?_;rw[compTurn_list];refine ax (Y_<|wpAny_bind<|wpAny_mono (turn n s hI) (λr s₁ h₁=>?_)<|by lia)
 cases r with
 |none=>exact cT h₁
 |some v=>
  refine ax (hW h₁ (λ_ s₂ h₂=>ax (hW h₂ (λ_ s₃ h₃=>ax (hW h₃ (λok s₄ h₄=>?_)<|by lia))<|by lia))<|by lia)
  cases ok with
  |false=>exact cT (by trivial)
  |true=>
   exact ax (ax<|wpAny_mono h₄ (λx s₅ h₅=>ax (hW h₅ (λ_ s₆ h₆=>cT (cT<|by trivial))<|by lia))<|by lia)
noncomputable def O5(X:Cx)(N:aa')(scope:qa)(cl:List (Str×cp))(C:cp)(s₀:cb)(H₀:Hp)(fp:abb)(pl:abf):Cx where
 prog:=X.prog
 w:=X.w
 K:=X.K
 mg:=X.mg
 base:=X.base
 A:=X.A
 N:=N
 s₀:=s₀
 H₀:=H₀
 env:=compEnvC scope cl C X.env
 outer:=X.stack
 stack:=X.stack
 ex:=fp
 fn:=λ_=>cx
 calm:=X.calm
 pn:=X.pn++pl
 xe:=λ_ _=>False
inductive Frees(X:Cx)(scope:qa):List Str->List Nat->Prop where
 |nil:Frees X scope [] []
 |cons {x:Str} {j:Nat} {xs:aa'} {js:List Nat}:X.N[j]?=ap x->(X.env.kindOf x=ap .cell\/X.env.kindOf x=ap .free)->
   ((Uf scope X.env).names.lookup x=ap .cell\/(Uf scope X.env).names.lookup x=ap .free)->Frees X scope xs js->Frees X scope (x::xs) (j::js)
theorem Frees.length:∀{xs:aa'}{e:List Nat},Frees X c xs e->xs.length=e.length
 |_,_,.nil=>rfl
 |_,_,.cons _ _ _ t=>congrArg _ t.length
theorem Frees.get:∀{xs:aa'}{f:List Nat},Frees X e xs f->∀{i:Nat}{x:Str},xs[i]?=ap x->∃j,f[i]?=ap j/\X.N[j]?=ap x/\(X.env.kindOf x=ap .cell\/X.env.kindOf x=ap .free)/\
   ((Uf e X.env).names.lookup x=ap .cell\/(Uf e X.env).names.lookup x=ap .free)
 |_,_,.nil,i,x,h=>by simp at h
 |_,_,.cons a b c _,0,x,h=>by simp at h;subst h;exact#[_,rfl,a,b,c]
 |_,_,.cons _ _ _ t,i+1,x,h=>by
  obtain⟨j,m,g⟩:=t.get (by simpa using h)
  exact#[j,by trivial,g]
noncomputable def dw(ls:aa')(js:List Nat)(Z:St):St:=ls.map (λ_=>ca)++js.map λj=>(Z[j]?).join
def Pc(X:Cx)(ifs:abc)(t:TT):Prop:=
 ∀(aa1:abf)(s:cb)(Z:St)(H:Hp)(Q:Bool->Hp->Prop),Inv X aa1 Z H s->t Z H Q->
  eg (ez X.prog X.w) X.A (forIn ifs true λc r=>if r=true then do let ok <- isTrue c X.env (ff c X.env);pure (Xd ok) else pure (Xd r)) (TP X aa1 Z Q) X.xe s
def tAll:TT:=λ_ H Q=>Q true H
theorem Lj:Pc X [] tAll:=λ_ _ _ H _ I h=>wpAny_tests_nil #[H,I,h]
theorem JR(h:PT X c t):Pc X [c] t:=λaa1 s Z H Q I q=>wpAny_tests_one (h _ s Z H Q I q)
def Ft(wi:TI)(ls:aa')(js:List Nat)(g:TG)(tt:TT)(te:TE):TE:=λZ H Q=>wi Z H λJ H1=>∀p,H1 p=ca->∃W:Nat->Nat->St->Hp->Prop,(∃m,W 0 m (dw ls js Z) (upd H1 p<|.lst []))/\∀i m σ' H',W i m σ' H'->
 (J.stop i H'/\Q (.ref p) H')\/(J.go i H'/\∃N:St->Hp->Prop,(∀σ2 H2,N σ2 H2->∃m',m'<m/\W (i+1) m' σ2 H2)/\∀x H2,J.yld i H' x H2->g x σ' H2 λe H3=>tt e H3 λc H4=>
  if c=true then te e H4 λy H5=>∃ys,H5 p=ap (.lst ys)/\ys.length<sizeLine/\N e (upd H5 p<|.lst (ys++[y])) else N e H4)
def PZ(i:Nat)(t:TE):TS:=λD Z H=>t Z H λv H1=>D.nx (Z.set i<|some v) H1
def SrcTn(b:Bool)(it a:cp)(i:Nat)(h:g3):Prop:=if b=true then h.IsListIter it a i else h.IsTupleIter it a i
def SrcSq(b:Bool)(h:g3)(a:cp)(items:abh):Prop:=if b=true then h.IsList a items else h.IsTuple a items
theorem SrcTn.lt(x:SrcTn b it a i h):∃o,h.get? it=ap o/\∀v,o.data≠.cell v:=by
 cases b with
 |true=>obtain⟨o,e,c,d⟩:=x;exact#[o,e,λv z=>by simp_all]
 |false=>obtain⟨o,e,c,d⟩:=x;exact#[o,e,λv z=>by simp_all]
theorem SrcTn.keep(x:SrcTn b it a i h)(k:∀o,h.get? it=ap o->h'.get? it=ap o):SrcTn b it a i h':=by
 cases b with
 |true=>obtain⟨o,e,r⟩:=x;exact(#[o,k o e,r])
 |false=>obtain⟨o,e,r⟩:=x;exact(#[o,k o e,r])
theorem SrcSq.keep(x:SrcSq b h a items)(k:∀o,h.get? a=ap o->h'.get? a=ap o):SrcSq b h' a items:=by
 cases b with
 |true=>obtain⟨o,e,r⟩:=x;exact(#[o,k o e,r])
 |false=>obtain⟨o,e,r⟩:=x;exact(#[o,k o e,r])
theorem ji{x:ay}(c:s.heap.IsTupleIter it l i)(r:s.heap.IsTuple l items)(q:items[i]?=ap x)(hQ:∀h',h'.IsTupleIter it l (i+1)->Vr it s.heap h'->Q x { s with heap:=h' }):eg (ez prog w) A (Vf<|.ref it) Q E s:=by
 obtain⟨o,f,p,e⟩:=id c;obtain⟨u,m,_,v,g⟩:=r
 refine ax (wpAny_callSpecial?_slot c.typeIs Wa
  (kr Wa c.typeIs YC ?_<|Yv _))
 show eg _ _ (field _ 0 >>= _) _ _ s;refine ax (kl f e rfl ?_);refine ax (kl f e rfl ?_);refine ax (vr m g ?_);simp[q];exact ax (aat f e (by simp)<|wpAny_pure #[x,rfl,cT<|hQ _ #[_,WA _ f (Y0<|W0 e _),(Obj.cls_mapFields ..).trans p,by
  rw[W0 e];simp[p4]]<|U7 ..])
theorem kf(r:A.handled=ca)(c:s.heap.IsTupleIter it l i)(v:s.heap.IsTuple l items)(u:items[i]?=ca)(hE:∀h' e,W7 it s.heap h'->(∃o,h'.get? e=ap o/\o.cls=.type "StopIteration")->E (.ref e) { s with heap:=h' }):eg (ez prog w) A (Vf<|.ref it) Q E s:=by
 obtain⟨o,g,B,f⟩:=id c;obtain⟨y,q,_,C,p⟩:=v
 refine ax (wpAny_callSpecial?_slot c.typeIs Wa
  (kr Wa c.typeIs YC ?_<|Yv _))
 show eg _ _ (field _ 0 >>= _) _ _ s;refine ax (kl g f rfl ?_);refine ax (kl g f rfl ?_);refine ax (vr q p ?_);simp[u];refine ax (F'<|wpAny_bind<|wpAny_setField g f (by simp) ?_)
 refine ax ?_;refine ax (m:=aav _ _) (K' (by rfl) ?_)
 refine p6 ?_ (by size_fits)
 refine ax (aaD ?_)
 first|rw[r]|rw[r]
 exact ax (cT<|wpAny_throw<|hE _ _ (((U7 ..).extBut.push _).push _) #[_,Ui _ rfl,rfl])
theorem fX{x:ay}(c:SrcTn b it l i s.heap)(f:SrcSq b s.heap l items)(e:items[i]?=ap x)(g:∀h',SrcTn b it l (i+1) h'->Vr it s.heap h'->Q x { s with heap:=h' }):eg (ez prog w) A (Vf<|.ref it) Q E s:=by
 cases b with
 |true=>exact wpAny_nextOf_list_item c f e g
 |false=>exact ji c f e g
theorem dL(g:A.handled=ca)(c:SrcTn b it l i s.heap)(p:SrcSq b s.heap l items)(f:items[i]?=ca)(m:∀h' e,W7 it s.heap h'->(∃o,h'.get? e=ap o/\o.cls=.type "StopIteration")->E (.ref e) { s with heap:=h' }):eg (ez prog w) A (Vf<|.ref it) Q E s:=by
 cases b with
 |true=>exact wpAny_nextOf_list_end g c p f m
 |false=>exact kf g c p f m
noncomputable def iE(b:Bool):String:=if b=true then "list_iterator" else "tuple_iterator"
theorem fT(c:SrcSq b s.heap l items)(e:Q (.ref s.heap.objs.size) { s with heap:=s.heap.push { cls:=.type (iE b),data:=.fields (Tw [.ref l,.int 0 0]) } }):eg (ez prog w) A (aad<|.ref l) Q E s:=by
 cases b with
 |true=>exact vw c e
 |false=>exact wpAny_pyIter_tuple c e
theorem AY(e:h.get? it=ap { cls:=.type (iE b),data:=.fields (Tw [.ref l,.int 0 0]) }):SrcTn b it l 0 h:=by
 cases b with
 |true=>exact(#[_,e,rfl,rfl])
 |false=>exact(#[_,e,rfl,rfl])
theorem xU(c:s.heap.get? a=ap o)(h:Q (ap o) s):eg M A (loadIfAlive a) Q E s:=λΓ p _=>by
 show Sem.wp M Γ (.loadIfAlive a _) _ _ p s;rw[Sem.wp_loadIfAlive,c];exact h
structure ZS where
 b:Bool
 i:cp
 l:cp
abbrev iF(h:g3)(T:cp)(vs:aba):Prop:=h.get? T=ap { cls:=.type "tuple",data:=.seq vs.toArray }
noncomputable abbrev pj(z TI TO:cp)(S:List ZS):List Addr:=z::TI::TO::S.map ZS.i
structure ZOk(z TI TO:cp)(S:List ZS):Prop where
 nd:(pj z TI TO S).Nodup
 off:∀t∈S,t.l∉pj z TI TO S
 ne:S≠[]
 few:S.length<=3
abbrev ph(h:g3)(z TI TO:cp)(f0:ay)(f1:Bool):Prop:=
 h.get? z=ap { cls:=.type "zip",dict:=ca,data:=.fields (Tw [f0,.bool f1,.bool cx,.ref TI,.ref TO]),slots:=(Tw []) }
def IA(S:List ZS)(k:Nat)(h:g3):Prop:=∀t∈S,SrcTn t.b t.i t.l k h
theorem gZ{α:Type}{f:α->g->Sem (ForInStep g)}{xs:List α}(b:Nat->g)(I:Nat->cb->Prop)
  (m:∀i x s,xs[i]?=ap x->I i s->eg M A (f x<|b i) (λr c=>r=.yield (b (i+1))/\I (i+1) c) E s) (o:∀c,I xs.length c->Q (b xs.length) c):
  ∀(n j:Nat)(s:cb),j+n=xs.length->I j s->eg M A (forIn (xs.drop j) (b j) f) Q E s
 |0,j,s,e,h=>by
  rw[Wu (by lia)]
  have:j=xs.length:=by lia
  subst this;exact cT (o s h)
 |n+1,j,s,e,h=>by
  have p:j<xs.length:=by lia
  rw[VJ p,List.forIn_cons];refine ax (hW (m j _ s (by simp) h) (λr c q=>?_) λ_ _ q=>q)
  obtain⟨rfl,q⟩:=q;exact gZ b I m o n _ c (by lia) q
theorem oJ{TI TO:cp}(D:ZOk z TI TO S):z≠TI/\z≠TO/\TI≠TO/\∀t∈S,t.i≠z/\t.i≠TI/\t.i≠TO:=by
 have:=D.nd;simp only[VC,Uk,not_or]at this;obtain⟨⟨a,b,c⟩,⟨d,e⟩,f,g⟩:=this;exact#[a,b,d,λt m=>#[λe=>c (e▸UK m),λq=>e (q▸UK m),λe=>f (e▸UK m)]]
theorem Ak{TI TO:cp}(D:ZOk z TI TO S)(c:S[i]?=ap t)(f:S[j]?=ap u)(h:i≠j):t.i≠u.i:=by
 have nd:(S.map ZS.i).Nodup:=by have:=D.nd;simp only[VC]at this;exact this.2.2.2
 intro e;exact h ((List.getElem?_inj (by rw[Uc];exact(UQ.1 c).1) nd).1<|by simp_all)
theorem vj{t:ZS}(m:A.handled=ca)(f:SrcTn t.b t.i t.l k s.heap)(g:SrcSq t.b s.heap t.l xs)(c:xs[k]?=o)(p:∀x h',o=ap x->SrcTn t.b t.i t.l (k+1) h'->Vr t.i s.heap h'->Q x { s with heap:=h' })(hE:∀h' e,o=ca->W7 t.i s.heap h'->(∃o,h'.get? e=ap o/\o.cls=.type "StopIteration")->E (.ref e) { s with heap:=h' }):
  eg (ez prog w) A (Vf<|.ref t.i) Q E s:=by
 cases o with
 |none=>exact dL m f g c λh' e q r=>hE h' e rfl q r
 |some x=>exact fX f g c λh' q r=>p x h' rfl q r
structure ZMid(S:List ZS)(F:ZS->Option ay)(k:Nat)(fp:abb)(h₀:g3)(j:Nat)(h:g3):Prop where
 ahead:∀i t,S[i]?=ap t->SrcTn t.b t.i t.l (if i<j then k+1 else k) h
 got:∀i t,i<j->S[i]?=ap t->(F t).isSome=true
 frame:∀c o,c∉fp->h₀.get? c=ap o->h.get? c=ap o
 size:h.objs.size=h₀.objs.size
theorem ZMid.zero(a:IA S k h)(f:∀c o,c∉fp->h₀.get? c=ap o->h.get? c=ap o)(z:h.objs.size=h₀.objs.size):ZMid S F k fp h₀ 0 h:=
 #[λi t e=>by simpa using a t (Vk e),λi t q=>absurd q (Yg _),f,z]
theorem ZMid.at(m:ZMid S F k fp h₀ j h)(e:S[j]?=ap t):SrcTn t.b t.i t.l k h:=by simpa using m.ahead j t e
theorem ZMid.go(m:ZMid S F k fp h₀ j h)(i1:∀t∈S,∀o,h.get? t.i=ap o->h'.get? t.i=ap o)(f:∀c o,c∉fp->h.get? c=ap o->h'.get? c=ap o)(z:h'.objs.size=h.objs.size):ZMid S F k fp h₀ j h':=
 #[λi t e=>(m.ahead i t e).keep (i1 t<|Vk e),m.got,λc o n e=>f c o n (m.frame c o n e),z.trans m.size]
theorem ZMid.step{TI TO:cp}(D:ZOk z TI TO S)(m:ZMid S F k fp h₀ j h)(e:S[j]?=ap t)(r:t.i∈fp)(p:(F t).isSome=true)(v:SrcTn t.b t.i t.l (k+1) h')(b:Vr t.i h h'):ZMid S F k fp h₀ (j+1) h':=by
 refine#[λi u f=>?_,λi u q f=>?_,λc o n q=>b.extBut c o (λx=>n (x▸r)) (m.frame c o n q),b.1.trans m.size]
 .by_cases g:i=j
  .simp_all
  have q:=(m.ahead i u f).keep λo x=>b.extBut _ o (Ak D f e g) x
  by_cases lt:i<j
  .rw[if_pos lt]at q
   rw[if_pos (Wz lt)];exact q
  rw[if_neg lt]at q;rw[if_neg (by lia)]
  exact q
 by_cases g:i=j
 .subst g
  cases e.symm.trans f;exact p
 exact m.got i u (by lia) f
theorem wS{TI TO:cp}(m:ph s.heap z TI TO f0 f1)(h:eg (ez prog w) A.in1 (Builtin.«zip.__next__» #[[.ref z],[]]) (λfin s'=>∃v,fin=.done (.ret v)/\Q (ap v) s') (λe s'=>∃a,e=.ref a/\(∃o,s'.heap.get? a=ap o/\o.cls=.type "StopIteration")/\Q ca s') s):
  eg (ez prog w) A (w6<|.ref z) Q E s:=by
 have c:s.TypeIs (.ref z) _:=#[_,m,rfl];refine ax (pt<|wpAny_callSpecial?_slot c F.slot_zip_next<|wpAny_call_entry F.slot_zip_next c F.entry_zip_next (hW h (λfin s' q=>?_) λe s' q=>?_)<|F.args_zip_next_1 _)
 .obtain⟨v,rfl,q⟩:=q
  exact#[v,rfl,cT q]
 obtain⟨a,rfl,⟨o,g,f⟩,q⟩:=q;exact ax (x9 #[o,g,f] W1<|wpAny_pure q)
theorem Dp{TI TO:cp}(c:ph s.heap z TI TO .none f1)(h:Q true s):eg (ez prog w) A (VU<|.ref z) Q E s:=by
 exact ax (kl c rfl rfl<|wpAny_pure h)
theorem Dg{TI TO T:cp}(hz:ph s.heap z TI TO (p4 T) f1)(hT:s.heap.get? T=ap oT)(h:∀h₀,ph h₀ z TI TO (p4 T) true->(∀c o,c≠z->s.heap.get? c=ap o->h₀.get? c=ap o)->h₀.objs.size=s.heap.objs.size->Q cx { s with heap:=h₀ }):eg (ez prog w) A (VU<|.ref z) Q E s:=by
 refine ax (kl hz rfl rfl ?_);refine ax (xU (by trivial) ?_)
 refine ax (kl hz rfl rfl ?_);cases f1 with
 |true=>
  exact cT (h _ hz (λ_ _ _ e=>e) rfl)
 |false=>
  exact ax (k6 hz (by simp) λh₀ hz0 hs0=>cT (h _ hz0 hs0.extBut hs0.1))
theorem lX{TI TO:cp}(hh:A.handled=ca)(D:ZOk z TI TO S)(hz:ph s.heap z TI TO f0 f1)(hf:f0=.none/\f1=cx/\(∃vs:List ay,vs.length=S.length/\iF s.heap TO vs)\/∃(T:cp)(oT:Obj),f0=p4 T/\s.heap.get? T=ap oT)(hTI:iF s.heap TI (S.map λt=>.ref t.i))(h1:IA S k s.heap)(hl:∀t∈S,∃xs,SrcSq t.b s.heap t.l xs/\xs[k]?=F t)(hQ:∀h' us,us.map ap=S.map F->(f0=.none/\aar h' z TI TO (p4 s.heap.objs.size)/\iF h' TO us\/f0≠.none/\ph h' z TI TO f0 true)->IA S (k+1) h'->iF h' s.heap.objs.size us->
   (∀c o,c∉z::TO::S.map ZS.i->s.heap.get? c=ap o->h'.get? c=ap o)->Q (ap<|.ref s.heap.objs.size) { s with heap:=h' })(hE:∀h',(∃t∈S,F t=ca)->(∀c o,c∉z::TO::S.map ZS.i->s.heap.get? c=ap o->h'.get? c=ap o)->Q ca { s with heap:=h' }):
  eg (ez prog w) A (w6<|.ref z) Q E s:=by
 obtain⟨zTI,zTO,TITO,R⟩:=oJ D;have few:S.length<=sizeLine:=Uw D.few (by decide)
 refine wS hz ?_;show eg _ _ (field (.ref z) 2 >>= _) _ _ _;refine ax (kl hz rfl (x:=.bool cx) rfl ?_);show eg _ _ (field (.ref z) 3 >>= _) _ _ _;refine ax (kl hz rfl (x:=.ref TI) rfl ?_);refine ax (vr hTI rfl ?_);have hne:¬(S.map λt=>UH t.i).toArray.isEmpty=true:=by have:=D.ne;simp[this]
 refine (congrArg (eg (ez prog w) A.in1 · _ _ s)<|if_neg hne).mpr ?_;show eg _ _ (VU (.ref z) >>= _) _ _ _;refine ax ?_;have hnd:∀t∈S,t.l∉z::TO::S.map ZS.i:=λt g q=>D.off t g (by
  simp only[pj,Uk]at q ⊢;exact q.imp id .inr)
 have C:∀{h h':g3}{c:cp}(b:cp),b∈z::TO::S.map ZS.i->(∀c o,c≠b->h.get? c=ap o->h'.get? c=ap o)->c∉z::TO::S.map ZS.i->∀o,h.get? c=ap o->h'.get? c=ap o:=λb hb k n o e=>k _ o (λx=>n (x▸hb)) e;have mi:∀{t:ZS},t∈S->t.i∈z::TO::S.map ZS.i:=λg=>by simp[UK g]
 have fin:∀{us:aba},us.length=S.length->(∀i t,i<S.length->S[i]?=ap t->us[i]?=F t)->(∀i t,i<S.length->S[i]?=ap t->(F t).isSome=true)->us.map ap=S.map F:=λ{us} hu I hs=>by
  refine Xb λi=>?_;rw[Uo,Uo];cases B:S[i]? with
  |none=>
   rw[W6]at B;rw[Vu (by lia)]
   rfl
  |some t=>
   have il:i<S.length:=(UQ.1 B).1;have hs:=hs i t il B;rw[I i t il B];cases hF:F t with
   |none=>rw[hF]at hs;cases hs
   |some x=>simp[hF]
 have st:∀{h:g3},ZMid S F k (z::TO::S.map ZS.i) s.heap S.length h->IA S (k+1) h:=λm t g=>by
  obtain⟨i,il,rfl⟩:=WM g;have q:=m.ahead i S[i] (by simp[il])
  rwa [if_pos il]at q
 rcases hf with⟨rfl,rfl,vs,hv,hTO⟩|⟨T,oT,rfl,hT⟩
 .refine Dp hz ?_
  refine (congrArg (eg (ez prog w) A.in1 · _ _ s)<|if_pos rfl).mpr ?_;refine ax (F' ?_);refine ax (kl hz rfl (x:=.ref TO) rfl ?_);refine ax (k6 hz (by simp) λU hz1 r=>?_)
  replace hz1:aar U z TI TO .ellipsis:=hz1
  refine ax ?_
  refine gZ (xs:=(S.map λt=>UH t.i).toArray.toList.zipIdx) (λ_=>_)
   (λj s'=>∃h' us,s'={ s with heap:=h' }/\ZMid S F k (z::TO::S.map ZS.i) s.heap j h'/\aar h' z TI TO .ellipsis/\iF h' TO us/\us.length=S.length/\∀i t,i<j->S[i]?=ap t->us[i]?=F t)
   (λj x s' hx hI=>?_) (λs' hI=>?_) _ 0 _ (Wx _) #[U,vs,rfl,.zero (λt g=>(h1 t g).keep λo e=>r.extBut _ o (R t g).1 e) (λc o n e=>C z (.head _) r.extBut n o e) r.1,hz1,r.extBut _ _ zTO.symm hTO,hv,λi t q=>absurd q (Yg _)]
  .obtain⟨h',us,rfl,m,y,G,hu,I⟩:=hI
   simp only[Y4,Uo,Vo,Wx]at hx;obtain⟨v,⟨t,B,rfl⟩,rfl⟩:=hx;have g:=Vk B;obtain⟨xs,hsq,hxs⟩:=hl t g;refine ax (wpAny_onRaise ?_);show eg _ _ (Vf (.ref t.i) >>= _) _ _ _;refine ax (vj hh (m.at B) (hsq.keep λo e=>m.frame _ o (hnd t g) e) hxs (λx p N h12 f=>cT ?_) λp e N f he=>?_)
   .have jl:j<S.length:=(UQ.1 B).1
    have L:iF p TO us:=f.extBut _ _ (R t g).2.2.symm G;refine ax (vr L rfl ?_);refine ax (wpAny_updateSeq L rfl ?_ (by show us.toArray.size<=sizeLine;rw[Uq,hu];exact few)<|by rw[Array.size_setIfInBounds,Uq,hu];exact Nat.le_succ_of_le few)
    refine ax (wpAny_letGo<|wpAny_pure #[rfl,_,us.set j x,rfl,?_,?_,?_,by rw[VL,hu],λi u q eu=>?_])
    all_goals have sb:Vr TO p (p.update TO<|UY (·.setIfInBounds j x)):=U7 ..
    .exact(m.step D B (mi g) (by rw[N];rfl) h12 f).go (λu hu' o e=>sb.extBut _ o (R u hu').2.2 e) (λc o n e=>C TO (by simp) sb.extBut n o e) sb.1
    .exact sb.extBut _ _ zTO (f.extBut _ _ (R t g).1.symm y)
    .show Heap.get? _ _=_
     rw[WA _ L rfl];simp[UY]
    .rw[XN]
     by_cases ij:j=i
     .subst ij
      cases B.symm.trans eu;rw[if_pos rfl,if_pos (by lia),N]
     .rw[if_neg ij]
      exact I i u (by lia) eu
   .obtain⟨oe,Y,hce⟩:=he
    have hz2:aar p z TI TO .ellipsis:=f _ _ (R t g).1.symm y;have hez:e≠z:=λx=>by subst x;rw[hz2]at Y;cases Y;simp at hce
    exact k6 hz2 (by simp) λh₃ _ J=>#[e,rfl,#[oe,J.extBut _ _ hez Y,hce],hE h₃ #[t,g,N] λc o n q=>C z (.head _) J.extBut n o (C _ (mi g) f n o<|m.frame c o n q)]
  .obtain⟨h',us,rfl,m,y,G,hu,I⟩:=hI
   rw[show (S.map λt=>UH t.i).toArray.toList.zipIdx.length=S.length by simp]at m I
   refine ax (vr G rfl ?_);refine ax (vx ?_<|by simpa [hu] using few)
   have W:z<h'.objs.size:=Ug y;show eg _ _ (WV (.ref z) (.ref h'.objs.size) >>= _) _ _ _;refine ax ?_;unfold WV;have hz8:aar (h'.push { cls:=.type "tuple",data:=.seq us.toArray }) z TI TO .ellipsis:=Ub _ y;refine ax (k6 hz8 (by simp) λh₉ hz9 hs9=>?_)
   replace hz9:aar h₉ z TI TO (p4 h'.objs.size):=hz9
   refine k6 hz9 (by simp) λhA O hsA=>?_
   replace O:aar hA z TI TO (p4 h'.objs.size):=O
   have up:∀c o,c≠z->h'.get? c=ap o->hA.get? c=ap o:=λc o c1 e=>hsA.extBut _ _ c1 (hs9.extBut _ _ c1<|Ub _ e);have hTA:iF hA h'.objs.size us:=hsA.extBut _ _ (Wc W) (hs9.extBut _ _ (Wc W)<|Ui _ rfl);rw[m.size]at O hTA;refine cT #[_,rfl,?_];show Q (ap<|.ref h'.objs.size) _;rw[m.size];exact hQ hA us (fin hu I m.got) (.inl #[rfl,O,up _ _ zTO.symm G]) (λt g=>(st m t g).keep λo e=>up _ o (R _ g).1 e) hTA λc o n e=>C z (.head _) up n o (m.frame c o n e)
 .refine Dg hz hT λh₀ hz0 M hs0=>?_
  refine (congrArg (eg (ez prog w) A.in1 · _ _ _)<|if_neg XG).mpr ?_;show eg _ _ (forIn (S.map λt=>UH t.i).toArray _ _ >>= _) _ _ _;rw[<- Zd];refine ax ?_
  refine gZ (xs:=(S.map λt=>UH t.i).toArray.toList) (λj=>(ca,((S.map λt=>(F t).getD .none).take j).toArray))
   (λj s'=>∃h',s'={ s with heap:=h' }/\ZMid S F k (z::TO::S.map ZS.i) s.heap j h'/\ph h' z TI TO (p4 T) true)
   (λj x s' hx hI=>?_) (λs' hI=>?_) _ 0 _ (Wx _) #[h₀,rfl,.zero (λt g=>(h1 t g).keep λo e=>M _ o (R t g).1 e) (λc o n e=>C z (.head _) M n o e) hs0,hz0]
  .obtain⟨h',rfl,m,y⟩:=hI
   simp only[Uo,Vo]at hx;obtain⟨t,B,rfl⟩:=hx;have g:=Vk B;obtain⟨xs,hsq,hxs⟩:=hl t g;refine ax (j0 ?_);show eg _ _ (Vf (.ref t.i) >>= _) _ _ _;refine ax (vj hh (m.at B) (hsq.keep λo e=>m.frame _ o (hnd t g) e) hxs (λx p N h12 f=>cT (cT #[?_,_,rfl,m.step D B (mi g) (by rw[N];rfl) h12 f,f.extBut _ _ (R t g).1.symm y])) λp e N f he=>#[e,rfl,he,hE p #[t,g,N] λc o n q=>C _ (mi g) f n o (m.frame c o n q)])
   rw[Yk,show (S.map λt=>(F t).getD .none)[j]?=ap x by rw[Uo,B];simp[N]]
   simp
  .obtain⟨h',rfl,m,y⟩:=hI
   rw[show (S.map λt=>UH t.i).toArray.toList.length=S.length by simp]at m ⊢
   rw[YQ (by simp)]
   refine ax (vx (cT #[_,rfl,?_])<|by simpa using few)
   have up:∀c o,h'.get? c=ap o->(h'.push { cls:=.type "tuple",data:=.seq (S.map λt=>(F t).getD .none).toArray }).get? c=ap o:=λc o e=>Ub _ e;have hn:=Ui h' (o:={ cls:=.type "tuple",data:=.seq (S.map λt=>(F t).getD .none).toArray }) rfl;show Q (ap<|.ref h'.objs.size) _;rw[m.size]at hn ⊢;refine hQ _ (S.map λt=>(F t).getD .none) (fin (by simp) (λi t il B=>?_) m.got) (.inr #[by simp[p4],up _ _ y]) (λt g=>(st m t g).keep λo e=>up _ o e) (by simpa using hn) λc o n e=>up _ _ (m.frame c o n e)
   have hs:=m.got i t il B;cases hF:F t with
   |none=>rw[hF]at hs;cases hs
   |some x=>simp[B,hF]
theorem Qp{l:List α}(h:l.length=2):∃a b,l=[a,b]:=by
 cases l with
 |nil=>cases h
 |cons a l=>
  cases l<;>simp_all
theorem len3{l:List α}(h:l.length=3):∃a b c,l=[a,b,c]:=by
 cases l with
 |nil=>cases h
 |cons a l=>
  obtain⟨b,c,rfl⟩:=Qp (by simpa using h)
  exact#[a,b,c,rfl]
theorem m_(a b c:ay):ZB "zip" #[[a,b,c],[]]=pure ():=by kernel_rfl
theorem pE(a b c:ay):U_ "zip.__new__" #[[.type "zip",a,b,c],[]]=pure ():=by kernel_rfl
theorem iM(a b c d:ay):aaA "object.__init__" #[[a,b,c,d],[]]:=by
 unfold aaA;rw[signature?_of (id:="object.__init__") (n:=['_','_','t','i','n','i','_','_']) (o:=['t','c','e','j','b','o']) (by kernel_rfl) F.owner_object];kernel_rfl
noncomputable def di(n:Nat)(args:List (Bool×cp)):List ZS:=args.zipIdx.map λp=>#[p.1.1,n+p.2,p.1.2]
theorem gc:(di n args)[i]?=(args[i]?).map λp=>#[p.1,n+i,p.2]:=by
 simp[di,YZ]
theorem vY(B:∀p∈args,∃xs,SrcSq p.1 s.heap p.2 xs)(C:∀h',IA (di s.heap.objs.size args) 0 h'->(∀c o,s.heap.get? c=ap o->h'.get? c=ap o)->h'.objs.size=s.heap.objs.size+args.length->Q ((di s.heap.objs.size args).map λt=>.ref t.i) { s with heap:=h' }):
  eg (ez prog w) A (Builtin.SmallTypes.iterAll (args.map λp=>.ref p.2)) Q E s:=by
 refine ax ?_
 refine gZ (λj=>(((di s.heap.objs.size args).take j).map λt=>UH t.i).toArray)
  (λj q=>∃h',q={ s with heap:=h' }/\IA ((di s.heap.objs.size args).take j) 0 h'/\(∀c o,s.heap.get? c=ap o->h'.get? c=ap o)/\h'.objs.size=s.heap.objs.size+j)
  (λj x q r m=>?_) (λq m=>?_) _ 0 _ (Wx _) #[_,rfl,λt ht=>by simp at ht,λ_ _ e=>e,rfl]
 .obtain⟨h',rfl,g,k,f⟩:=m
  simp only[Uo,Vo]at r;obtain⟨p,v,rfl⟩:=r;obtain⟨xs,y⟩:=B p (Vk v);have u:(di s.heap.objs.size args)[j]?=ap #[p.1,s.heap.objs.size+j,p.2]:=by rw[gc,v];rfl
  refine ax (j0<|fT (y.keep λo e=>k _ o e)<|wpAny_pure #[?_,_,rfl,λt ht=>?_,λc o e=>Ub _ (k c o e),by rw[Vc,f];rfl])
  .rw[Yk,u]
   simp[f]
  rw[Yk,u]at ht;rcases Uz.1 ht with ht|ht
  .exact(g t ht).keep λo e=>Ub _ e
  have:=WW.1 ht;subst this;refine AY ?_;rw[<- f];exact Ui _ rfl
 obtain⟨h',rfl,g,k,f⟩:=m;have e:(di _ _).take (args.map λp=>UH p.2).length=di s.heap.objs.size args:=YQ (by simp[di])
 rw[e]at g ⊢;refine cT (C h' g k<|by simpa using f)
theorem xx(args:List (Bool×cp))(g:args.length<=3):
  aaq (Builtin.«zip.__new__» #[.type "zip"::args.map λp=>.ref p.2,[]]) (λ_ R s=>(∀p∈args,∃xs,SrcSq p.1 s.heap p.2 xs)/\
   ∀h',aar h' (s.heap.objs.size+args.length+2) (s.heap.objs.size+args.length) (s.heap.objs.size+args.length+1) .none->iF h' (s.heap.objs.size+args.length) ((di s.heap.objs.size args).map λt=>.ref t.i)->iF h' (s.heap.objs.size+args.length+1) (args.map λ_=>.none)->
    IA (di s.heap.objs.size args) 0 h'->(∀c o,s.heap.get? c=ap o->h'.get? c=ap o)->R (.ok<|.ret<|.ref (s.heap.objs.size+args.length+2)) { s with heap:=h' }):=
 .of_wp λprog w A R s h=>by
  obtain⟨r,v⟩:=h;have m:=sub_zip;have y:=r;unfold Builtin.«zip.__new__»
  wp_walk using vY r
  intro h' u k f;have len:(di s.heap.objs.size args).length<=3:=by simpa [di] using g
  refine ax (vx ?_<|by rw[Uc];exact Uw len (by decide))
  refine ax (vx ?_<|by rw[Uc,Uc];exact Uw len (by decide))
  unfold Builtin.SmallTypes.newRecord Builtin.SmallTypes.ownedTupleFields
  wp_walk
  refine#[_,rfl,?_];simp only[Vc,f];refine v _ ?_ ?_ ?_ (λt B=>(u t B).keep λo e=>Ub _ (Ub _<|Ub _ e)) λc o e=>Ub _ (Ub _<|Ub _<|k c o e)
  .have q:=Ui ((h'.push { cls:=.type "tuple",data:=.seq ((di s.heap.objs.size args).map λt=>UH t.i).toArray }).push { cls:=.type "tuple",data:=.seq (((di s.heap.objs.size args).map λt=>UH t.i).map λ_=>Vj).toArray }) (o:={ cls:=.type "zip",data:=.fields (Tw [.none,.bool cx,.bool cx,.ref (s.heap.objs.size+args.length),.ref (s.heap.objs.size+args.length+1)]) }) rfl
   simp only[Vc,f]at q;exact q
  .refine Ub _ (Ub _ ?_)
   rw[<- f];exact Ui _ rfl
  refine Ub _ ?_;have q:=Ui (h'.push { cls:=.type "tuple",data:=.seq ((di s.heap.objs.size args).map λt=>UH t.i).toArray }) (o:={ cls:=.type "tuple",data:=.seq (((di s.heap.objs.size args).map λt=>UH t.i).map λ_=>Vj).toArray }) rfl;simp only[Vc,f]at q;rw[show (args.map λ_=>Vj)=(((di s.heap.objs.size args).map λt=>UH t.i).map λ_=>Vj) from ?_]
  .exact q
  .rw[Us,di,Us]
   exact Xb λi=>by simp[Uo,Y4];rfl
theorem pY(hn:args.length=2\/args.length=3)(hl:∀p∈args,∃xs,SrcSq p.1 s.heap p.2 xs)(h:∀h' z TI TO S,S.map (λt=>(t.b,t.l))=args->ZOk z TI TO S->aar h' z TI TO .none->iF h' TI (S.map λt=>.ref t.i)->iF h' TO (S.map λ_=>.none)->IA S 0 h'->(∀b∈pj z TI TO S,s.heap.objs.size<=b)->
   (∀c o,s.heap.get? c=ap o->h'.get? c=ap o)->Q (.ref z) { s with heap:=h' }):
  eg (ez prog w) A (call (.type "zip") (args.map λp=>.ref p.2)) Q E s:=by
 have few:args.length<=3:=by lia
 have checks:ZB "zip" #[args.map λp=>.ref p.2,[]]=pure ()/\U_ "zip.__new__" #[.type "zip"::args.map λp=>.ref p.2,[]]=pure ()/\∀obj,aaA "object.__init__" #[obj::args.map λp=>.ref p.2,[]]:=by
  rcases hn with hn|hn
  .obtain⟨a,b,rfl⟩:=Qp hn
   exact#[F.typeCall_zip_2 _ _,F.newCall_zip_2 _ _,λobj=>F.args_object_init_3 obj _ _]
  .obtain⟨a,b,c,rfl⟩:=len3 hn
   exact#[m_ _ _ _,pE _ _ _,λobj=>iM obj _ _ _]
 refine aaS F.called_zip (by decide) checks.1 checks.2.1 checks.2.2 F.entry_zip_new (xx args few) #[hl,λh' hz hTI hTO st k=>?_]
 have em:(di s.heap.objs.size args).map (λt=>(t.b,t.l))=args:=Xb λi=>by
  rw[Uo,gc];cases args[i]?<;>rfl
 have hlen:(di s.heap.objs.size args).length=args.length:=by rw[<- em,Uc,em]
 have hi:∀t∈di s.heap.objs.size args,s.heap.objs.size<=t.i/\t.i<s.heap.objs.size+args.length:=λt ht=>by
  obtain⟨i,il,rfl⟩:=WM ht;have q:=gc (n:=s.heap.objs.size) (args:=args) (i:=i);rw[hlen]at il;simp[il,hlen]at q;rw[q];exact#[VF _ _,Nat.add_lt_add_left il _]
 have hb:∀b∈pj (s.heap.objs.size+args.length+2) (s.heap.objs.size+args.length) (s.heap.objs.size+args.length+1) (di s.heap.objs.size args),s.heap.objs.size<=b:=λb hb=>by
  simp only[pj,Uk,Ul]at hb;rcases hb with e|e|e|⟨t,ht,e⟩
  .rw[e];exact Uw (VF _ _) (VF _ _)
  .rw[e];exact VF _ _
  .rw[e];exact Uw (VF _ _) (VF _ _)
  .rw[<- e];exact(hi t ht).1
 have D:ZOk (s.heap.objs.size+args.length+2) (s.heap.objs.size+args.length) (s.heap.objs.size+args.length+1) (di s.heap.objs.size args):=by
  refine#[?_,λt ht q=>?_,λe=>?_,by lia]
  .simp only[VC,Uk,Ul,not_or,not_exists,not_and]
   refine#[#[(show (_:Nat)≠(_:Nat) by lia),(show (_:Nat)≠(_:Nat) by lia),λt ht e=>?_],#[(show (_:Nat)≠(_:Nat) by lia),λt ht e=>?_],λt ht e=>?_,?_]
   all_goals try exact absurd (show (t.i:Nat)<s.heap.objs.size+args.length from (hi t ht).2) (by rw[e];first|exact U8 _|exact Xr.2 (VF _ _))
   refine W5.2 λi j il jl ij=>?_;have ei:=gc (n:=s.heap.objs.size) (args:=args) (i:=i);have ej:=gc (n:=s.heap.objs.size) (args:=args) (i:=j);simp only[Uc,hlen]at il jl;simp[il,hlen]at ei;simp[jl,hlen]at ej;rw[XY,XY,ei,ej];exact(show (_:Nat)≠(_:Nat) by simp;lia)
  .have:(t.b,t.l)∈args:=em▸UK (f:=λt:ZS=>(t.b,t.l)) ht
   obtain⟨xs,sq⟩:=hl _ this;obtain⟨b,i,l⟩:=t;have lt:l<s.heap.objs.size:=by
    cases b with
    |true=>obtain⟨o,e,_⟩:=(show s.heap.IsList l xs from sq);exact Ug e
    |false=>obtain⟨o,e,_⟩:=(show s.heap.IsTuple l xs from sq);exact Ug e
   exact absurd lt (Xr.2<|hb _ q)
  .rw[e]at hlen
   simp at hlen;lia
 show _/\_;refine#[#[_,hz,rfl],h h' _ _ _ _ em D hz hTI ?_ st hb k];rw[show ((di s.heap.objs.size args).map λ_=>Vj)=args.map λ_=>Vj by rw[<- em,Us,em];rfl]
 exact hTO
def nV(K:Uh)(b:Bool)(H:Hp)(a:cp)(xs:List V):Prop:=if b=true then SqL K H a xs else kI K H a xs
theorem Inv.src(I:Inv X aa1 Z H s)(h:nV X.K b H a xs):∃aa7:List ay,Vals xs aa7/\SrcSq b s.heap a aa7.toArray/\xs.length<=sizeLine:=by
 cases b with
 |true=>obtain⟨aa7,r,p,z⟩:=I.list h;exact#[_,r,p.isList,z]
 |false=>obtain⟨aa7,r,p,z⟩:=I.tuple h;exact#[_,r,p,z]
theorem Inv.src_inj(I:Inv X aa1 Z H s)(h:nV X.K b H a xs)(h':nV X.K b H a ys):xs=ys:=by
 cases b with
 |true=>exact I.list_inj h h'
 |false=>exact I.tuple_inj h h'
theorem Inv.src_ne(I:Inv X aa1 Z H s)(h:nV X.K b H a xs)(f:jN X aa1 H it):a≠it:=by
 obtain⟨f0,f1,q,p,r,u⟩:=f;intro e;subst e;have c:∀o,X.K.lookup a=ap o->False:=λo g=>by
  have m:=I.ok.mod.kin a o g;rcases p with z|z
  .exact I.ok.noex a o m z
  .exact absurd (Ur (Ug (I.ok.bs a o m).1) z) (U8 _)
 cases b with
 |true=>
  rcases (show SqL X.K H a xs from h) with (z|⟨o,z⟩)|⟨o,_,_,g,_⟩
  .rw[f0]at z;cases z
  .rw[f0]at z;cases z
  .exact c o g
 |false=>
  rcases (show kI X.K H a xs from h) with (z|⟨o,z⟩)|⟨o,_,_,g,_⟩
  .rw[f0]at z;cases z
  .rw[f0]at z;cases z
  .exact c o g
theorem Inv.turned4(I:Inv X aa1 Z H s)(p:∀b∈fp,jN X aa1 H b)(k:∀b o,b∉fp->s.heap.get? b=ap o->h'.get? b=ap o):Inv X aa1 Z H { s with heap:=h',toks:=t' }:=by
 have g:∀b u,H b=ap u->b∉fp:=λb u e z=>by have:=(p b z).1;simp_all
 refine I.step (λb G=>?_) (λb o _ _ f e _=>k b o f e) (λb o _ _ f e _=>#[_,k b o f e]) (λ_ _ _ _ n=>n)
  (λb o f e=>#[o,k b o f e]) (λ_ _ e=>e) (λ_ _ _ e=>e) (λb O e=>#[(Tw []),by rw[e];simp]) (λm B=>?_) (λb u e=>?_) I.bare
 .obtain⟨f0,f1,N,L,R,M⟩:=p b G
  trivial
 .obtain⟨o,y,J,C,r⟩:=B
  exact#[o,y,J,k _ o (λz=>(p _ z).2.1 rfl) C,r]
 refine (I.hok b u e).stay (λc v f q=>k c v ?_ q) (λ_ q=>q) λ_ _ q=>q;rcases f with z|z
 .rw[z];exact g b u e
 exact g c _ z
theorem Inv.turnedNew(I:Inv X aa1 Z H s)(J:∀b∈fp,jN X aa1 H b)(k:∀b o,b∉fp->s.heap.get? b=ap o->h'.get? b=ap o)(hlt:∀b∈fp,∃o,s.heap.get? b=ap o)(hlv:∀b∈fp,∃o,h'.get? b=ap o)(hT:h'.get? s.heap.objs.size=ap y)(G:y.cls=.type "tuple")(L:∃n,y.data=.seq us.toArray n)(r:Vals zs us)(M:y.dict=ca)(hz:zs.length<=sizeLine):Inv X aa1 Z (upd H s.heap.objs.size<|.tup zs) { s with heap:=h',toks:=t' }:=by
 have f:H s.heap.objs.size=none:=I.hok.fresh (Um _);have p:∀b u,H b=ap u->b∉fp:=λb u e z=>by have:=(J b z).1;rw[e]at this;cases this
 refine I.step (g':=s.gens) (d':=s.drawn) (ch:=fp) (λb B=>?_) (λb o _ _ g e _=>k b o g e) (λb o _ _ g e _=>#[o.slots,k b o g e]) (λb o _ e n=>by rw[aw (Uy<|Ug e)];exact n)
  (λb o g e=>#[o,k b o g e]) (λb C e=>by rw[aw (aX e f)];exact e) (λb o u e=>by rw[aw (aX e f)];exact e) (λb ps e=>#[(Tw []),by rw[aw (aX e f),e];simp]) (λm U=>?_) (λb u e=>?_) I.bare
 .obtain⟨f0,f1,f2,N,f4,T⟩:=J b B
  exact#[N,f1,f4,T]
 .obtain⟨o,R,Y,W,r⟩:=U
  exact#[o,R,Y,k _ o (λz=>(J _ z).2.1 rfl) W,r]
 .by_cases B:b=s.heap.objs.size
  .subst B
   rw[upd_same]at e;cases e;obtain⟨n,O⟩:=L;exact#[hz,us,r,#[y,hT,#[G,n,O],M]]
  .rw[aw B]at e
   refine (I.hok b u e).stay (λc v g q=>k c v ?_ q) (λc q=>by rw[aw (aX q f)];exact q) λc C q=>by rw[aw (aX q f)];exact q
   rcases g with z|z
   .rw[z];exact p b u e
   .exact p c _ z
noncomputable def xl(h:g3)(l:cp)(k:Nat):Option Value:=match h.get? l with
 |some o=>match o.data with
  |.seq xs _=>xs[k]?
  |_=>ca
 |_=>ca
theorem iV(q:SrcSq b h l xs)(k:Nat):xs[k]?=xl h l k:=by
 have:∃o n,h.get? l=ap o/\o.data=.seq xs n:=by
  cases b with
  |true=>obtain⟨o,e,c,n,d⟩:=q;exact#[o,n,e,d]
  |false=>obtain⟨o,e,c,n,d⟩:=q;exact#[o,n,e,d]
 obtain⟨o,n,e,d⟩:=this;simp[xl,e,d]
noncomputable def TY(K:Uh)(L:List (Bool×cp)):It:=
 #[λi H=>∀p∈L,∃xs x,nV K p.1 H p.2 xs/\xs[i]?=ap x,
  λi H v H'=>∃T zs,H T=ca/\v=.ref T/\H'=upd H T (.tup zs)/\zs.length=L.length/\∀(j:Nat)(p:Bool×cp),L[j]?=ap p->∀xs,nV K p.1 H p.2 xs->xs[i]?=zs[j]?,
  λi H=>(∀p∈L,∃xs,nV K p.1 H p.2 xs)/\∃p∈L,∃xs,nV K p.1 H p.2 xs/\xs.length<=i]
structure ZTn(z TI TO:cp)(S:List ZS)(i:Nat)(h:g3):Prop where
 hz:aar h z TI TO .none
 hTI:iF h TI (S.map λt=>.ref t.i)
 hTO:∃vs:List ay,vs.length=S.length/\iF h TO vs
 st:IA S i h
theorem ZTn.obj{TI TO:cp}(q:ZTn z TI TO S i h):∀b∈pj z TI TO S,∃o,h.get? b=ap o/\∀v,o.data≠.cell v:=λb c=>by
 obtain⟨f,_,e⟩:=q.hTO;simp at c;rcases c with rfl|rfl|rfl|⟨t,ht,rfl⟩
 .exact#[_,q.hz,λv q=>nomatch q]
 .exact#[_,q.hTI,λv q=>nomatch q]
 .exact#[_,e,λv q=>nomatch q]
 exact(q.st t ht).lt
theorem ZTn.keep{TI TO:cp}(q:ZTn z TI TO S i h)(k:∀b∈pj z TI TO S,∀o,h.get? b=ap o->h'.get? b=ap o):ZTn z TI TO S i h':=by
 obtain⟨f,l,e⟩:=q.hTO;exact#[k z (by simp) _ q.hz,k TI (by simp) _ q.hTI,#[f,l,k TO (by simp) _ e],λt c=>(q.st t c).keep λo e=>k _ (by simp[UK c]) o e]
theorem vK{s:cb}{i:Nat}(I:Inv X aa1 Z H s):∀(S:List ZS)(us:aba),us.map ap=S.map (λt=>xl s.heap t.l i)->(∀t∈S,∃xs x,nV X.K t.b H t.l xs/\xs[i]?=ap x)->
  ∃zs,Vals zs us/\zs.length=S.length/\∀(j:Nat)(p:Bool×cp),(S.map λt=>(t.b,t.l))[j]?=ap p->∀xs,nV X.K p.1 H p.2 xs->xs[i]?=zs[j]?
 |[],[],_,_=>#[[],.nil,rfl,λj p e=>by simp at e]
 |[],_::_,e,_=>by simp at e
 |_::_,[],e,_=>by simp at e
 |t::S,u::us,e,h=>by
  simp at e;obtain⟨zs,r,l,g⟩:=vK I S us e.2 λt' ht=>h t' (.tail _ ht);obtain⟨xs,x,q,hx⟩:=h t (.head _);obtain⟨aa7,rv,sq,z⟩:=I.src q;obtain⟨u',hu,ru⟩:=rv.get hx;have e1:ap u=ap u':=by rw[e.1,<- iV sq i];simp_all
  cases e1;refine#[_,.cons ru r,by simp[l],λj p ej ys hy=>?_]
  cases j with
  |zero=>
   simp at ej;subst ej;rw[I.src_inj hy q];trivial
  |succ j=>exact g j p (by trivial) ys hy
theorem pR{f:α->cp}:∀{L:List α}{us:aba},Vals (L.map λp=>.ref (f p)) us->us=L.map λp=>.ref (f p):=by
 intro L
 induction L with
 |nil=>intro us h;cases h;rfl
 |cons p L ih=>
  intro us h;cases h with
  |cons r t=>cases r;rw[Ue,ih t]
theorem Di{TI TO:cp}(D:ZOk z TI TO S):
  Turn P w K (.Tuple elts x1 tp) (TY K (S.map λt=>(t.b,t.l))) (pj z TI TO S) z (ZTn z TI TO S) where
 mem:=.head _
 obj:=λi h st=>st.obj
 keep:=λi h h' st k=>st.keep k
 item:=by
  intro X hP Y hK U i aa1 s Z H E I O st y;subst hP Y hK
  replace y:∀t∈S,∃M x,nV X.K t.b H t.l M/\M[i]?=ap x:=λt m=>y _ (UK m)
  have fits:∀t∈S,∃g x,SrcSq t.b _ t.l g/\g[i]?=ap x:=λt m=>by
   obtain⟨M,x,q,N⟩:=y t m;obtain⟨g,R,sq,_⟩:=I.src q;obtain⟨u,hu,_⟩:=R.get N;exact#[_,u,sq,by simp_all]
  refine lX (F:=λt=>xl s.heap t.l i) (I.ok.hd U) D st.hz (.inl #[rfl,rfl,st.hTO]) st.hTI st.st (λt m=>?_) (λh' T v W a3 a4 C=>?_) λh' ⟨t,m,eo⟩ _=>?_
  .obtain⟨g,x,sq,_⟩:=fits t m
   exact#[g,sq,iV sq i]
  .obtain⟨_,a1,a2⟩|⟨n,_⟩:=W
   case inr=>trivial
   refine#[_,rfl,wpAny_letOwnedTupleGo_zip a1 λB J c=>?_];obtain⟨zs,rz,lz,gz⟩:=vK I S T v y;have zl:=Ug st.hz;have kk:∀b o,b∉pj z TI TO S->s.heap.get? b=ap o->B.get? b=ap o:=λb o r e=>by
    simp only[Uk,not_or]at r;exact c.extBut b o r.1 (C b o (by simp only[Uk,not_or];exact#[r.1,r.2.2.1,r.2.2.2]) e)
   obtain⟨L,zTO,TITO,ni⟩:=oJ D;have hT:B.get? _=ap _:=c.extBut _ _ (Wc zl) a4;have G:ZTn z TI TO S (i+1) B:=by
    refine#[J,c.extBut _ _ L.symm (C _ _ ?_ st.hTI),#[T,?_,c.extBut _ _ zTO.symm a2],λt m=>(a3 t m).keep λo e=>c.extBut _ o (ni t m).1 e]
    .simp
     exact#[L.symm,TITO,λt m=>(ni t m).2.1]
    have:=congrArg VO v;simpa using this
   refine#[.ref _,_,I.turnedNew O kk (λb r=>let ⟨o,e,_⟩:=st.obj b r;#[o,e]) (λb r=>let ⟨o,e,_⟩:=G.obj b r;#[o,e]) hT rfl #[_,rfl] rz rfl (by rw[lz];exact Uw D.few (by decide)),rfl,#[_,zs,I.hok.fresh (Um _),rfl,rfl,by simp_all,gz],G,λb r=>?_]
   obtain⟨o,e,_⟩:=st.obj b r;rw[aw (Uy<|Ug e)];exact(O b r).1
  obtain⟨g,x,sq,N⟩:=fits t m;rw[iV sq i]at N;rw[N]at eo;cases eo
 done:=by
  intro X hP Y hK U i aa1 s Z H E I O st y;subst hP Y hK;refine lX (F:=λt=>xl s.heap t.l i) (I.ok.hd U) D st.hz (.inl #[rfl,rfl,st.hTO]) st.hTI st.st (λt m=>?_) (λh' T v _ a3 a4 C=>?_) λh' _ C=>#[rfl,I.turned4 O λb o r e=>C b o (λx=>r ?_) e]
  .obtain⟨M,q⟩:=y.1 _ (UK m)
   obtain⟨g,R,sq,_⟩:=I.src q;exact#[_,sq,iV sq i]
  .obtain⟨p,hp,M,q,hle⟩:=y.2
   obtain⟨t,m,rfl⟩:=Ul.1 hp;obtain⟨g,R,sq,_⟩:=I.src q;have hl:=R.length;have:xl s.heap t.l i∈T.map some:=by rw[v];exact UK (f:=λt:ZS=>xl s.heap t.l i) m
   rw[<- (iV sq i),List.getElem?_toArray,Vu (by lia)]at this
   simp at this
  simp only[pj,Uk]at x ⊢;rcases x with x|x|x
  .exact .inl x
  .exact .inr (.inr<|.inl x)
  .exact .inr (.inr<|.inr x)
 self:=λ_ _ _ _ _ st h=>aaj st.hz h
def So(K:Uh)(t:TA):TI:=λZ H R=>t Z H λc H1=>∃L:List (Bool×cp),(L.length=2\/L.length=3)/\c=L.map (λp=>.ref p.2)/\(∀p∈L,∃xs,nV K p.1 H1 p.2 xs)/\R (TY K L) H1
theorem Lx{a:eT}(N:Gl X "zip")(T:X.mg "zip"=ca)(O:PA X (a::as) m)(U:ee (a::as) X.env=(cx,ff a X.env)::ee as X.env:=by rfl)(hs2:(PySem.backTo pos<|starEach as X.env).any (·.1)=false:=by rfl):
  PI X (.Tuple elts x1 tp) (.Call (.Name "zip" p) (a::as) [] pos) (So X.K m):=by
 intro aa1 s Z H R I h;refine Call_ (dk I N T (by rfl)<|UU (bu (O _ _ s Z H _ I h) λus W G=>?_) U hs2)
 obtain⟨Y,H1,I1,u,J⟩:=G;obtain⟨L,r,rfl,o,q⟩:=J;cases pR u;refine pY r (λp C=>?_) λh' z TI TO S B D g f e y hb v=>?_
 .obtain⟨xs,q⟩:=o p C
  obtain⟨M,_,sq,_⟩:=I1.src q;exact#[_,sq]
 refine aaj g ?_;subst B;exact#[z,_,_,_,H1,rfl,I1.kept v,Di D,#[g,f,#[_,by rw[Uc],e],y],λb c=>I1.fpOk (hb b c) (I1.hok.fresh<|hb b c),q]
noncomputable def Ite(K:Uh)(b:Bool)(l:cp):It:=
 #[λi H=>∃xs x,nV K b H l xs/\xs[i]?=ap x,
  λi H v H'=>∃T x,H T=ca/\v=.ref T/\H'=upd H T (.tup [.int i,x])/\(∀xs,nV K b H l xs->xs[i]?=ap x),
  λi H=>∃xs,nV K b H l xs/\xs.length<=i]
theorem Draws.src(y:A.handled=ca)(b:Bool)(it l:cp)(m:l≠it)(items:abh):
  Draws prog w A it [it,l] items.size (λi v=>items[i]?=ap v) (λi h=>SrcTn b it l i h/\SrcSq b h l items) where
 live:=λ_ _ c=>let ⟨o,ho,_⟩:=c.1.lt;#[o,ho]
 frame:=λ_ _ _ c q=>#[c.1.keep λo e=>q it (by simp) o e,c.2.keep λo e=>q l (by simp) o e]
 item:=λi s Q E p c r=>by
  exact fX c.1 c.2 (x:=items[i]) (by simp[p]) λh' g f=>r _ h' _ (by simp[p]) #[g,c.2.keep λo e=>f.extBut _ o m e] f
 done:=λs Q E c u=>dL y c.1 c.2 (by simp) u
theorem wF(b:Bool)(l:cp)(items:abh):
  aaq (Builtin.«enumerate.__new__» #[[.type "enumerate",.ref l],[]]) (λ_ R s=>SrcSq b s.heap l items/\
   R (.ok<|.ret<|.ref (s.heap.push { cls:=.type (iE b),data:=.fields (Tw [.ref l,.int 0 0]) }).objs.size)
    { s with heap:=(s.heap.push { cls:=.type (iE b),data:=.fields (Tw [.ref l,.int 0 0]) }).push { cls:=.type "enumerate",data:=.fields (Tw [.none,.bool cx,.ref s.heap.objs.size,p4 0,.none,.none]) } }):=
 .of_wp λprog w A R s h=>by
  obtain⟨m,g,d,p,o⟩:=s;obtain⟨q,h⟩:=h;have f:=sub_enumerate;have e:SrcSq b (Shared.heap #[m,g,d,p,o]) l items:=q
  wp_walk
  refine wpAny_stack_any λr=>cT ?_
  split
  .rename_i c _ _ _ _ _
   cases (c==WS "enumerate")
   .wp_walk using fT e
    exact#[_,rfl,h]
   .wp_walk using fT e
    exact#[_,rfl,h]
  .wp_walk using fT e
   exact#[_,rfl,h]
theorem CW(f:SrcSq b s.heap l items)(h:∀h',IsEnum h' (s.heap.objs.size+1) s.heap.objs.size 0 .none->SrcTn b s.heap.objs.size l 0 h'->h'.objs.size=s.heap.objs.size+2->
   (∀b o,s.heap.get? b=ap o->h'.get? b=ap o)->Q (.ref (s.heap.objs.size+1)) { s with heap:=h' }):
  eg (ez prog w) A (call (.type "enumerate") [.ref l]) Q E s:=by
 refine aaS F.called_enumerate (by decide) (F.typeCall_enumerate_1 _) (F.newCall_enumerate_1 _) (λobj=>F.args_object_init_2 _ _) F.entry_enumerate_new (wF b l _) #[f,?_]
 have c:(s.heap.push { cls:=.type (iE b),data:=.fields (Tw [.ref l,.int 0 0]) }).objs.size=s.heap.objs.size+1:=Vc ..;rw[c]
 have e:IsEnum ((s.heap.push { cls:=.type (iE b),data:=.fields (Tw [.ref l,.int 0 0]) }).push
   { cls:=.type "enumerate",data:=.fields (Tw [.none,.bool cx,.ref s.heap.objs.size,p4 0,.none,.none]) }) (s.heap.objs.size+1) s.heap.objs.size 0 .none:=by
  have:=Ui (s.heap.push { cls:=.type (iE b),data:=.fields (Tw [.ref l,.int 0 0]) })
   (o:={ cls:=.type "enumerate",data:=.fields (Tw [.none,.bool cx,.ref s.heap.objs.size,p4 0,.none,.none]) }) rfl
  rw[c]at this;exact this
 refine#[#[_,e,rfl],h _ e (AY<|Ub _<|Ui _ rfl) (by rw[Vc,c]) λb o x=>Ub _ (Ub _ x)]
theorem Dv(b:Bool)(l e it:cp)(J:e≠it):
  Turn P w K (.Tuple elts x1 tp) (Ite K b l) [e,it] e (λi h=>(∃old,IsEnum h e it i old)/\SrcTn b it l i h) where
 mem:=by simp
 obj:=λi h y c g=>by
  obtain⟨⟨old,p⟩,C⟩:=y;have f:c=e\/c=it:=by simp_all
  rcases f with q|q<;>subst q
  .simp_all
  exact C.lt
 keep:=λi h h' y k=>by
  obtain⟨⟨old,p⟩,C⟩:=y;exact#[#[old,k e (by simp) _ p],C.keep λo q=>k it (by simp) o q]
 item:=by
  intro X hP Y hK g i aa1 s Z H E I L y hg;subst hP Y hK;obtain⟨xs,x,M,R⟩:=hg;obtain⟨⟨old,p⟩,C⟩:=y;obtain⟨B,r,sq,z1⟩:=I.src M;obtain⟨u,hu,ru⟩:=r.get R;have hle:=I.src_ne M (L e<|by simp)
  have hli:=I.src_ne M (L it<|by simp)
  have hil:i<B.toArray.size:=by
   rw[Uq,<- r.length];exact(UQ.mp R).1
  have D:Draws X.prog X.w X.A.in1 it [it,l] _ _ _:=Draws.src (A:=X.A.in1) (I.ok.hd g) b it l hli B.toArray;refine wpAny_pyNext_enum_itemD D p #[C,sq] hil J (by simp[J,UO hle]) λv h' tk hv ho hs' U hsz hk=>?_
  have ev:v=u:=by
   have W:B.toArray[i]?=ap u:=by simpa using hu
   rw[W]at hv;exact(Vh hv).symm
  subst ev;refine#[_,rfl,wpAny_letOwnedTupleGo_enum ho λG O m=>?_];have hes:=Uy (Ug p);have n1:=hs'.1.keep λo q=>m.extBut _ o J.symm q;have kk:∀c o,c∉[e,it]->s.heap.get? c=ap o->G.get? c=ap o:=λc o g q=>
   m.extBut c o (λz=>g (by simp[z])) (hk c o (λz=>g (by simp[z])) (λz=>g (by simp[z])) q)
  have hT':G.get? _=ap _:=m.extBut _ _ hes.symm U;have lv:∀c∈[e,it],∃o,s.heap.get? c=ap o:=λc g=>by
   have f:c=e\/c=it:=by simp_all
   rcases f with q|q<;>subst q
   .exact#[_,p]
   obtain⟨o,q,_⟩:=C.lt;exact#[o,q]
  have lv':∀c∈[e,it],∃o,G.get? c=ap o:=λc g=>by
   have f:c=e\/c=it:=by simp_all
   rcases f with q|q<;>subst q
   .exact#[_,O]
   obtain⟨o,q,_⟩:=n1.lt;exact#[o,q]
  have hTn:=I.hok.fresh (Um _);refine#[.ref _,_,I.turnedNew (s:=s) (zs:=[.int i,x]) L kk lv lv' hT' rfl #[_,rfl] (.cons #[tk,rfl]<|.cons ru .nil) rfl (by show 2<=sizeLine;decide),rfl,#[_,x,hTn,rfl,rfl,λzs N=>?_],#[#[v,by assumption],n1],λc g=>?_]
  .rw[I.src_inj N M];exact R
  obtain⟨o,q⟩:=lv c g;rw[aw (Uy<|Ug q)];exact(L c g).1
 done:=by
  intro X hP Y hK g i aa1 s Z H E I L y hg;subst hP Y hK;obtain⟨xs,M,R⟩:=hg;obtain⟨⟨old,p⟩,C⟩:=y;obtain⟨B,r,sq,z1⟩:=I.src M;have U:s.TypeIs (.ref e) _:=#[_,p,rfl];have hl:=r.length
  refine ax (pt (wpAny_callSpecial?_slot U Zg
   (kr Zg U F.entry_enumerate_next ?_<|F.args_enumerate_next_1 _)))
  show eg _ _ (field (.ref e) 2 >>= _) _ _ _;refine ax (kl p rfl rfl ?_);refine ax (dL (I.ok.hd g) C sq (by simp;lia) λh' x he' hx'=>?_)
  obtain⟨o,ho,hcl⟩:=hx';exact ax (x9 (T:="StopIteration") (b:=true) #[o,ho,hcl] W1<|wpAny_pure #[rfl,I.turned4 (t':=s.toks) L λc o' f q=>he' c o' (λz=>f (by simp[z])) q])
 self:=λ_ _ _ _ _ y h=>let ⟨⟨_,p⟩,_⟩:=y;wpAny_pyIter_enum p h
theorem uN:bo X (.builtin "isinstance") (λxs H Q=>∃x T t b,xs=[x,.ty T]/\TyOf X.K H x t/\W.kitOne X.K t (.type T)=ap b/\Q (.bl b) H):=by
 rintro aa1 s Z H xs o Q I r ⟨x,T,t,b,rfl,ty,e,q⟩
 obtain⟨u,c,rfl,g,m⟩:=r.two;obtain rfl:c=WS T:=m;exact E5 I g ty e λf=>#[.bl b,H,I.tok f,rfl,q]
theorem Ht(Y:X.calm=true):bo X (.builtin "all") (λxs H Q=>∃(l:cp)(bs:List Bool),xs=[.ref l]/\SqL X.K H l (bs.map V.bl)/\Q (.bl<|bs.all id) H):=by
 rintro aa1 s Z H xs us Q I r ⟨l,bs,rfl,T,q⟩
 obtain⟨u,rfl,O⟩:=r.one;cases O;obtain⟨f,M,p,hz⟩:=I.list T;have hl:=M.length;have C:l<s.heap.objs.size:=by obtain⟨o,e,_⟩:=p.isList;exact Ug e
 have val:∀(i:Nat)(v:ay),f.toArray[i]?=ap v->∃c,bs[i]?=ap c/\v=.bool c:=λi v L=>by
  have m:f[i]?=ap v:=by simp_all
  have g:i<bs.length:=by
   have:=(UQ.mp m).1
   simp_all
  obtain⟨w',G,N⟩:=M.get (by rw[Uo,Ud g];rfl)
  rw[m]at G;cases G;exact#[_,Ud g,N]
 have J:f.toArray.size=bs.length:=by simp_all
 refine call_all_walk (vw p.isList #[_,_,_,_,_,_,λi=>bs.getD i cx,rfl,Walks.list (A:=X.A.in1) (I.ok.hd Y) _ l (Uy C) _,#[#[_,Ui _ rfl,rfl,rfl],p.isList.push _],λi v s' Q' E' L W=>?_,λh' R U=>?_])
 .obtain⟨c,G,rfl⟩:=val i v L
  refine ol ?_
  simp_all
 have e:(Uu f.toArray.size).all (λi=>bs.getD i cx)=bs.all id:=by
  rw[J,X9,List.all_eq_true,List.all_eq_true];constructor
  .intro h b B
   obtain⟨i,g,rfl⟩:=Y3.mp B;have:=h i (UJ.mpr g)
   rwa [VG,Ud g]at this
  .intro h i g
   have y:=UJ.mp g;rw[VG,Ud y];exact h _ (V8 y)
 rw[e];refine#[.bl (bs.all id),H,?_,rfl,q];exact I.kept (t':=R) λb o B=>U b o (by simp;exact Uy (Ug B)) (Ub _ B)
theorem fW:aag table "zip.__getattribute__"=ap Builtin.«object.__getattribute__»:=
 entryFor_alias (id':="object.__getattribute__") (by kernel_rfl) (by decide +kernel) (by decide +kernel) (by kernel_rfl)
theorem jS:yl (.type "zip") "__getattr__"=pure none:=by rfl
theorem vG:yl (.type "zip") "keys"=pure none:=by rfl
theorem eI:aag table "dict.update.loop"=ap Builtin.«dict.update.loop»:=entryFor_of_fast (by kernel_rfl)
theorem cc:plainId "dict.update.loop"=true:=by decide +kernel
theorem nj(a TI TO:cp)(f0:ay)(f1:Bool)(name:Str)(u:Tok)(f:yl (.type "zip") name=pure ca)(c:(["__module__","__name__","__qualname__","__doc__","__annotations__"]:aa').contains name=cx)(hsz:name.length+100<=sizeLine:=by size_fits):
  aaq (Builtin.«object.__getattribute__» #[[.ref a,.str name u],[]]) (λA R s=>ph s.heap a TI TO f0 f1/\raisesAttr (.ref a) name A R s):=
 Meets.of_wp λprog w A R s e=>by
  obtain⟨m,g,d,q,p⟩:=s;obtain⟨o,e⟩:=e;have r:(#[m,g,d,q,p]:cb).TypeIs (.ref a) "zip":=#[_,o,rfl]
  repeat (any_goals (first|assumption|wp_step))
  simp only[c,UW,if_false]
  repeat (any_goals (first|assumption|wp_step))
  exact wpAny_raiseAttrError e.1 e.2 (attrMsg_fits (by decide +kernel) hsz)
theorem pJ{TI TO:cp}(p:ph s.heap a TI TO f0 f1)(y:A.handled=ca)(h:∀h' q,(∀b o,s.heap.get? b=ap o->h'.get? b=ap o)->Q ca { s with heap:=h',toks:=q }):eg (ez prog w) A (aaf (.ref a) "keys") Q E s:=by
 obtain⟨r,g,d,q,u⟩:=s;have m:∀f,(#[r,g,d,f,u]:cb).TypeIs (.ref a) "zip":=λ_=>#[_,p,rfl];have v:=sub_AttributeError;have C:=Xq.lookup;have G:=Xq.bind (.ref a);have I:=jS;unfold aaf getAttrBy? getAttrBy
 repeat (any_goals (first|assumption|exact m _|((with_reducible show eg _ _ (call (Value.builtin "zip.__getattribute__") _ _) _ _ _);refine mo Xq (m _) fW (F.args_zip_getattribute_2 _ _) (nj a TI TO f0 f1 "keys" _ vG (by decide +kernel)<|by decide +kernel) #[p,y,λh' f e c=>?_])|wp_step))
 obtain⟨L,J,B⟩:=c.there;show eg _ _ (J' _ _ _ _ _ _ _) _ _ _;unfold J'
 repeat (any_goals (first|assumption|wp_step))
 exact h _ _ c.keeps
def xb(h:g3)(T:cp)(k v:ay):Prop:=∃o n,h.get? T=ap o/\o.cls=.type "tuple"/\o.data=.seq (Tw [k,v]) n
structure PSrc(prog:eH)(w:fx)(d it:cp)(ps:List (ay×ay))(fp:abb)(St:Nat->g3->Prop):Prop where
 off:d∉fp
 stay:∀i h h',St i h->(∀b o,b≠d->h.get? b=ap o->h'.get? b=ap o)->St i h'
 item:∀(A:fv)(i:Nat)(hi:i<ps.length)(s:cb)(Q:Option ay->cb->Prop)(E:abe),A.handled=ca->d<s.heap.objs.size->St i s.heap->
  (∀h' T,St (i+1) h'->xb h' T ps[i].1 ps[i].2->(∀c o,c∉fp->s.heap.get? c=ap o->h'.get? c=ap o)->Q (ap<|.ref T) { s with heap:=h' })->eg (ez prog w) A (w6<|.ref it) Q E s
 done:∀(A:fv)(s:cb)(Q:Option ay->cb->Prop)(E:abe),A.handled=ca->St ps.length s.heap->(∀h',(∀c o,c∉fp->s.heap.get? c=ap o->h'.get? c=ap o)->Q ca { s with heap:=h' })->eg (ez prog w) A (w6<|.ref it) Q E s
theorem wK{St:Nat->g3->Prop}(W:A.handled=ca)(C:PSrc prog w d it ps fp St)(P:Nat->g3->Prop)(Pd:∀i h,P i h->∃o,h.get? d=ap o)(stay:∀i h h',P i h->(∀b o,b∉fp->h.get? b=ap o->h'.get? b=ap o)->P i h')(step:∀(i:Nat)(U:i<ps.length)(s:cb)(Q:Unit->cb->Prop)(E:abe),P i s.heap->(∀h' r,P (i+1) h'->Vr d s.heap h'->Q () { s with heap:=h',toks:=r })->eg (ez prog w) A.in1 (dictSet d ps[i].1 ps[i].2) Q E s):
  ∀(n i:Nat)(s:cb),n=ps.length-i->i<=ps.length->St i s.heap->P i s.heap->
   (∀g:cb,g.os=s.os->g.gens=s.gens->g.drawn=s.drawn->P ps.length g.heap->(∀c o,c∉fp->c≠d->s.heap.get? c=ap o->g.heap.get? c=ap o)->R (.ok<|.ret .none) g)->
   ∀r:Nat,y2 (ez prog w) A (.builtin "dict.update.loop" #[[.ref d,.ref it,p4 r,.none],[]]) R s:=by
 intro n
 induction n with
 |zero=>
  intro i s hn U p B hR r;have G:i=ps.length:=by lia
  subst G;refine WP eI ?_;rw[Xs cc _];show eg _ A.in1 (w6 (.ref it) >>= _) _ _ s;refine ax (C.done A.in1 s _ _ W p λh' v=>?_);exact ax (m:=Builtin.Dict.addKeywords d []) (cT<|wpAny_pure (hR _ rfl rfl rfl (stay _ _ _ B v) λc o y N e=>v c o y e))
 |succ n ih=>
  intro i s hn U p B hR r;have q:i<ps.length:=by lia
  obtain⟨od,hd⟩:=Pd _ _ B;refine WP eI ?_;rw[Xs cc _];show eg _ A.in1 (w6 (.ref it) >>= _) _ _ s;refine ax (C.item A.in1 i q s _ _ W (Ug hd) p λh' T u ⟨oT,m,O,e2,e3⟩ k1=>?_);have J:({ s with heap:=h' }:cb).TypeIs (.ref T) "tuple":=#[_,O,e2];refine ax (j0<|wpAny_bind<|wpAny_tryCatch ?_);unfold Builtin.Dict.pairItems;refine ax (aae J ?_);rw[if_pos (by decide)]
  refine ax (vr (s:={ s with heap:=h' }) O e3<|wpAny_pure ?_);show eg _ _ (q0 [ps[i].1,ps[i].2]<|dictSet d ps[i].1 ps[i].2) _ _ _;refine j0 (step i q { s with heap:=h' } _ _ (stay i _ _ B k1) λM I L f=>cT #[Y' cc _,?_]);exact ih (i+1) { s with heap:=M,toks:=I } (by lia) q (C.stay _ _ _ u λb o hb e=>f.extBut b o hb e) L (λg q1 Y q3 q4 q5=>hR g q1 Y q3 q4 λc o y N e=>q5 c o y N (f.extBut c o N<|k1 c o y e)) (r+1)
namespace F
theorem uS:mroOf (.type "dict")=pure [.type "dict",.type "object"]:=by rfl
theorem Eb:yl (.type "dict") "__new__"=pure (ap<|.builtin "dict.__new__"):=by rfl
theorem called_dict:TypeCalled "dict" "dict.__new__" "dict.__init__":=
 #[by rfl,by rfl,#[_,_,uS],madeBy_type uS (by trivial) (by decide +kernel),by decide +kernel,by rfl,PySem.F.slot_dict_init]
theorem typeCall_dict_1(a:ay):ZB "dict" #[[a],[]]=pure ():=by kernel_rfl
theorem newCall_dict_1(a:ay):U_ "dict.__new__" #[[.type "dict",a],[]]=pure ():=by kernel_rfl
theorem entry_dict_new:aag table "dict.__new__"=ap Builtin.«dict.__new__»:=entryFor_of_tree (by kernel_rfl)
theorem plain_dict_new:plainId "dict.__new__"=true:=by decide +kernel
theorem sub_dict:isSubtype (.type "dict") (.type "dict")=pure true:=by rfl
end F
theorem pv(a:ay)(h:Q₁ (.ref s.heap.objs.size) { s with heap:=s.heap.push { cls:=.type "dict",data:=.dict (Tw []) } }):
  y2 (ez prog w) A (.call (.builtin "dict.__new__") #[[.type "dict",a],[]]) (wants Q₁ E) s:=by
 refine codeAny_call_builtin F.plain_dict_new F.entry_dict_new (K' (F.newCall_dict_1 a) ?_);have c:=F.sub_dict
 wp_walk
 exact h
theorem xV{fq:abb}(I:A.handled=ca)(P:Nat->g3->Prop)(hT:∃o,s.heap.get? l=ap o/\o.cls=.type T)(ht:(WS T != WS "dict")=true)(keys:∀(A':fv)(f:cb)(Q:Option ay->cb->Prop)(E:abe),A'.handled=ca->(∀b o,s.heap.get? b=ap o->f.heap.get? b=ap o)->(∀h' B,(∀b o,f.heap.get? b=ap o->h'.get? b=ap o)->Q ca { f with heap:=h',toks:=B })->eg (ez prog w) A' (aaf (.ref l) "keys") Q E f)(iter:∀(A':fv)(f:cb)(Q:abe)(E:abe),(∀b o,s.heap.get? b=ap o->f.heap.get? b=ap o)->s.heap.objs.size<f.heap.objs.size->
   (∀h' it fp St,(∀b o,f.heap.get? b=ap o->h'.get? b=ap o)->PSrc prog w s.heap.objs.size it ps fp St->St 0 h'->(∀b∈fp,b∈fq\/s.heap.objs.size<b)->Q (.ref it) { f with heap:=h' })->eg (ez prog w) A' (aad<|.ref l) Q E f)(Pd:∀i h,P i h->∃o,h.get? s.heap.objs.size=ap o)(h0:∀h',(∀b o,s.heap.get? b=ap o->h'.get? b=ap o)->h'.get? s.heap.objs.size=ap { cls:=.type "dict",data:=.dict (Tw []) }->P 0 h')(stay:∀i h h',P i h->(∀b o,b∉fq->b<=s.heap.objs.size->h.get? b=ap o->h'.get? b=ap o)->P i h')(step:∀(i:Nat)(hi:i<ps.length)(f:cb)(Q:Unit->cb->Prop)(E:abe),P i f.heap->(∀h' B,P (i+1) h'->Vr s.heap.objs.size f.heap h'->Q () { f with heap:=h',toks:=B })->eg (ez prog w) A.in1.in1 (dictSet s.heap.objs.size ps[i].1 ps[i].2) Q E f)(h:∀f:cb,f.os=s.os->f.gens=s.gens->f.drawn=s.drawn->P ps.length f.heap->(∀c o,c∉fq->s.heap.get? c=ap o->f.heap.get? c=ap o)->Q (.ref s.heap.objs.size) f):
  eg (ez prog w) A (call (.type "dict") [.ref l]) Q E s:=by
 refine callType_codes (Q₁:=λobj g=>obj=.ref s.heap.objs.size/\g={ s with heap:=s.heap.push { cls:=.type "dict",data:=.dict (Tw []) } }) F.called_dict (F.typeCall_dict_1 _) PySem.F.entry_dict_init (pv _ #[rfl,rfl]) ?_
 rintro obj g ⟨rfl,rfl⟩
 have up:∀c o,s.heap.get? c=ap o->(s.heap.push { cls:=.type "dict",data:=.dict (Tw []) }).get? c=ap o:=λc o e=>Ub _ e;have m:(s.heap.push { cls:=.type "dict",data:=.dict (Tw []) }).get? s.heap.objs.size=ap { cls:=.type "dict",data:=.dict (Tw []) }:=Ui _ rfl;have r:({ s with heap:=s.heap.push { cls:=.type "dict",data:=.dict (Tw []) } }:cb).TypeIs (.ref s.heap.objs.size) "dict":=#[_,m,rfl];refine#[r,PySem.F.args_dict_init_2 _ _,?_];unfold Builtin.«dict.__init__» Builtin.Dict.selfAndRest;refine ax (ax<|wpAny_notOrdered_dict r<|wpAny_pure ?_);show eg _ _ (XU "dict.__init__" s.heap.objs.size (.ref l) [] .none) _ _ _;unfold XU;obtain⟨J,L,N⟩:=hT;refine ax (aae (T:=T) #[J,up _ _ L,N] ?_);rw[if_pos ht];refine ax (keys _ _ _ _ I up λp q hk₁=>?_);rw[if_pos (show (none:Option ay).isNone=true from rfl)];have u:=hk₁ _ _ m;refine ax (F'<|wpAny_bind (iter _ { s with heap:=p,toks:=q } _ _ (λc o e=>hk₁ c o (up c o e)) (Ug u) λv it fp St k₂ C y G=>cT #[Y' cc _,?_]))
 exact wK (A:=A.in1) I C P Pd (λi h h' hP O=>stay i h h' hP λb o n le e=>O b o (λz=>(G b z).elim n λlt=>Xr.2 le lt) e) step ps.length 0 { s with heap:=v,toks:=q } (by simp) (Vg _) y (h0 _ (λb o e=>k₂ b o (hk₁ b o<|up b o e))<|k₂ _ _ u)
  (λf Y U R W M=>#[rfl,h f Y U R W λc o n e=>M c o (λz=>(G c z).elim n λlt=>Nat.lt_asymm lt (Ug e)) (Uy<|Ug e) (k₂ c o<|hk₁ c o<|up c o e)]) 0
structure ZPr(z TI TO d:cp)(S:List ZS)(F:ZS->List ay)(i:Nat)(h:g3):Prop where
 hz:∃f0 f1,ph h z TI TO f0 f1/\(f0=.none/\f1=cx/\(∃vs:List ay,vs.length=S.length/\iF h TO vs)\/∃(T:cp)(oT:Obj),f0=p4 T/\h.get? T=ap oT/\T≠d/\T∉pj z TI TO S)
 hTI:iF h TI (S.map λt=>.ref t.i)
 st:IA S i h
 sq:∀t∈S,SrcSq t.b h t.l (F t).toArray
theorem ID{TI TO:cp}{F:ZS->List ay}(D:ZOk z TI TO S)(U:S.map F=[xs,ys])(hd:d∉pj z TI TO S)(W:∀t∈S,t.l≠d)(len:xs.length=ys.length):
  PSrc prog w d z (xs.zip ys) (pj z TI TO S) (ZPr z TI TO d S F) where
 off:=hd
 stay:=λi h h' p k=>by
  have ne:∀b∈pj z TI TO S,b≠d:=λb B e=>hd (e▸B);obtain⟨⟨f0,f1,q,r⟩,g,p,sq⟩:=p;refine#[#[f0,f1,k _ _ (ne z<|by simp) q,?_],k _ _ (ne TI<|by simp) g,λt f=>(p t f).keep λo e=>k _ o (ne t.i<|by simp[UK f]) e,λt f=>(sq t f).keep λo e=>k _ o (W t f) e]
  rcases r with⟨a,b,Y,l,e⟩|⟨T,y,a,b,c,e⟩
  .exact .inl #[a,b,Y,l,k _ _ (ne TO<|by simp) e]
  .exact .inr #[T,y,a,k _ _ c b,c,e]
 item:=by
  intro A i hi s Q E R dl p I;obtain⟨⟨f0,f1,q,r⟩,g,p,sq⟩:=p;have hx:i<xs.length:=by rw[X7]at hi;lia
  have hy:i<ys.length:=by lia
  obtain⟨O,zTO,TITO,ni⟩:=oJ D;have pr:∀m:List ay,m.map ap=S.map (λt=>(F t)[i]?)->m=[xs[i],ys[i]]:=λm e=>by
   have:S.map (λt=>(F t)[i]?)=(S.map F).map (·[i]?):=by rw[Us];rfl
   rw[this,U]at e;rcases m with _|⟨u,_|⟨v,_|⟨_,_⟩⟩⟩<;>simp[hx,hy]at e ⊢
   exact e
  have no:∀t∈S,(F t)[i]?≠none:=λt f e=>by
   have:F t∈S.map F:=UK f;rw[U]at this;have W:(F t).length<=i:=W6.1 e;simp at this;rcases this with e|e<;>rw[e]at W<;>lia
  have N:∀b∈pj z TI TO S,b<s.heap.objs.size\/b=TO:=λb B=>by
   simp at B;rcases B with rfl|rfl|rfl|⟨t,f,rfl⟩
   .exact .inl (Ug q)
   .exact .inl (Ug g)
   .exact .inr rfl
   .obtain⟨o,e,_⟩:=(p t f).lt
    exact .inl (Ug e)
  have up:∀{c:cp},c∉pj z TI TO S->c∉z::TO::S.map ZS.i:=λn x=>n (by
   simp only[pj,Uk]at x ⊢;exact x.imp id .inr)
  refine lX (F:=λt=>(F t)[i]?) R D q (r.imp id λ⟨T,y,a,b,_⟩=>#[T,y,a,b]) g p (λt f=>#[_,sq t f,by simp]) (λh' m e a L hT C=>?_) (by rintro h' ⟨t,f,eo⟩ _;exact absurd eo (no t f))
  have J:=λc o n=>C c o (up n);refine I h' _ #[?_,C _ _ ?_ g,L,λt f=>(sq t f).keep λo e=>J _ o (D.off t f) e] #[_,0,hT,rfl,by rw[pr m e];simp] J
  .rcases r with⟨rfl,rfl,Y,hv,G⟩|⟨T,y,rfl,hT',nd,nf⟩
   .obtain⟨_,M,_⟩|⟨n,_⟩:=a
    case inr=>exact absurd rfl n
    refine#[_,_,M,.inr #[_,_,rfl,hT,Wc dl,λB=>?_]];rcases N _ B with lt|e
    .exact U8 _ lt
    .exact U8 _ (e▸Ug G)
   .obtain⟨n,_⟩|⟨_,M⟩:=a
    .cases n
    .exact#[_,_,M,.inr #[_,_,rfl,J _ _ nf hT',nd,nf]]
  .simp
   exact#[O.symm,TITO,λt f=>(ni t f).2.1]
 done:=by
  intro A s Q E R p I;obtain⟨⟨f0,f1,q,r⟩,g,p,sq⟩:=p;have no:∀m:List ay,m.map ap≠S.map (λt=>(F t)[(xs.zip ys).length]?):=λm e=>by
   have:S.map (λt=>(F t)[(xs.zip ys).length]?)=(S.map F).map (·[(xs.zip ys).length]?):=by rw[Us];rfl
   rw[this,U]at e;rcases m with _|⟨u,m⟩<;>simp[len]at e
  refine lX R D q (r.imp id λ⟨T,y,a,b,_⟩=>#[T,y,a,b]) g p (λt f=>#[_,sq t f,by simp]) (λh' m e=>absurd e (no m)) λh' _ C=>I h' λc o n=>C c o λx=>n ?_
  simp only[pj,Uk]at x ⊢;exact x.imp id .inr
theorem jZ:fillsNumberSlot (.type "tuple") "mul"=pure false:=
 PySem.fillsNumberSlot_seq Wm.lookup (by decide +kernel) rfl (by decide +kernel)
theorem rV:seqRepeat? (.type "tuple")=pure (ap<|.builtin "tuple.__mul__"):=by
 rfl
theorem oj(a:Int)(t:Tok)(l:cp)(items:abh)(n:Nat)(dd:Option cp)(c:Array (Option ay)):
  aaq (Builtin.«int.__rmul__» #[[.int a t,.ref l],[]]) (λ_ R s=>s.heap.get? l=ap { cls:=.type "tuple",dict:=dd,data:=.seq items n,slots:=c }/\R (.ok<|.ret Value.notImplemented) s):=
 .of_wp λprog w A R s h=>by obtain⟨e,h⟩:=h;wp_walk;simp_all
theorem ow(l:cp)(items:abh)(n:Nat)(dd:Option cp)(C:Array (Option ay))(x:Int)(u:Tok)(U:1<x)(G:x<=1000)(B:items.size<=1000)(q:items.isEmpty=cx):
  aaq (Builtin.«tuple.__mul__» #[[.ref l,.int x u],[]]) (λ_ R s=>s.heap.get? l=ap { cls:=.type "tuple",dict:=dd,data:=.seq items n,slots:=C }/\
   R (.ok<|.ret<|.ref s.heap.objs.size) { s with heap:=s.heap.push { cls:=.type "tuple",data:=.seq ((UI x.toNat items).foldl (·++·) (Tw [])) } }):=
 .of_wp λprog w A R s h=>by
  obtain⟨T,g,d,J,M⟩:=s;obtain⟨m,h⟩:=h;have f1:=AutoSeq1.idx_int;have L:=AutoSeq1.sub_tuple_tuple;have r:(decide (x < -(2 ^ 63))||decide (x>=2 ^ 63))=false:=by simp;lia
  have y:(items.isEmpty||x==1)=false:=by rw[q];simp;lia
  have v:(decide (x<=0)||items.isEmpty)=false:=by rw[q];simp;lia
  have O:(items.size:Int)*x<=1000000:=by
   have N:(items.size:Int)*x<=1000*x:=Int.mul_le_mul_of_nonneg_right (by lia) (by lia)
   lia
  have p:¬((items.size:Int)*x>(2 ^ 63-1) / 8):=by lia
  have o:XA ((items.size:Int)*x)=false:=by
   unfold XA;have:(1000000:Int)<=(sizeLine:Int):=by decide
   exact decide_eq_false (by lia)
  wp_walk using eX m
  try simp only[r,UW,if_false]
  wp_walk using eX m
  try simp only[y,UW,if_false]
  wp_walk using eX m
  try simp only[v,UW,if_false]
  wp_walk using eX m
  rw[if_neg p];simp only[o,UW,if_false];unfold Builtin.Tuple.tupleExact;have f:((UI x.toNat items).foldl (·++·) (Tw [])).toList.length<=sizeLine:=by
   have e:∀(k:Nat)(c:abh),((UI k items).foldl (·++·) c).size=c.size+k*items.size:=by
    intro k
    induction k with
    |zero=>intro c;simp
    |succ k ih=>intro c;rw[VR,VD,ih,Array.size_append,Nat.succ_mul];lia
   rw[Vp,e];have:x.toNat*items.size<=1000*1000:=Nat.mul_le_mul (by lia) B
   have I:(1000*1000:Nat)<=sizeLine:=by decide
   simp only[Uq,WK]at *;lia
  refine ax (vx (cT #[_,rfl,?_]) f);simpa using h
theorem pf(l:cp)(items:abh)(n:Nat)(dd:Option cp)(e:Array (Option ay))(u:Tok):
  aaq (Builtin.«tuple.__mul__» #[[.ref l,.int 1 u],[]]) (λ_ R s=>s.heap.get? l=ap { cls:=.type "tuple",dict:=dd,data:=.seq items n,slots:=e }/\R (.ok<|.ret<|.ref l) s):=
 .of_wp λprog w A R s h=>by
  obtain⟨c,h⟩:=h
  wp_walk using eX c
  simp_all
theorem mI(l:cp)(items:abh)(n:Nat)(dd:Option cp)(f:Array (Option ay))(x:Int)(u:Tok)(p:x<=0)(m:-1000<=x)(g:items.isEmpty=cx):
  aaq (Builtin.«tuple.__mul__» #[[.ref l,.int x u],[]]) (λ_ R s=>s.heap.get? l=ap { cls:=.type "tuple",dict:=dd,data:=.seq items n,slots:=f }/\
   R (.ok<|.ret<|.ref s.heap.objs.size) { s with heap:=s.heap.push { cls:=.type "tuple",data:=.seq (Tw []) } }):=
 .of_wp λprog w A R s h=>by
  obtain⟨c,h⟩:=h;have o:(decide (x < -(2 ^ 63))||decide (x>=2 ^ 63))=false:=by simp;lia
  have e:(items.isEmpty||x==1)=false:=by rw[g];simp;lia
  wp_walk using eX c
  try simp_all
  wp_walk using eX c
  try simp only[e,if_false]
  wp_walk using eX c
  simp_all
theorem DU(M:s.heap.IsTuple l aa7.toArray)(U:aa7≠[])(I:0<=k)(N:k<=1000)(T:aa7.length<=1000)(L:k=1->Q (.ref l) s)(J:k≠1->Q (.ref s.heap.objs.size) { s with heap:=s.heap.push { cls:=.type "tuple",data:=.seq (UI k.toNat aa7).flatten.toArray } }):
  eg (ez prog w) A (g4 .Mult (.ref l)<|.int k u) Q E s:=by
 obtain⟨⟨cls,g,data,o⟩,e,r,n,v⟩:=M;subst r v;have q:aa7.toArray.isEmpty=false:=by simp_all
 refine wpAny_binaryOp_repeat_ref (by decide) #[_,e,rfl] (λy=>typeIs_int y k u) jZ PySem.F.fills_int_mul YB rV rfl
  (mo YB rfl PySem.F.entry_int_rmul (PySem.F.args_int_rmul_2 _ _) (oj k u l _ n g o) #[e,rfl,#[_,e,rfl],?_])
 by_cases f:k=1
 .subst f
  exact mo Wm #[_,e,rfl] W8 (W2 _ _) (pf l _ n g o u) #[e,L rfl]
 .have B:=J f
  by_cases p:k<=0
  .refine mo Wm #[_,e,rfl] W8 (W2 _ _) (mI l _ n g o k u p (by lia) q) #[e,?_]
   have O:k.toNat=0:=by lia
   simp_all
  .refine mo Wm #[_,e,rfl] W8 (W2 _ _) (ow l _ n g o k u (by lia) N (by assumption) q) #[e,?_]
   have R:∀(m:Nat)(c:List _),List.foldl (λx1 C=>x1++C) c.toArray (UI m aa7.toArray)=(c++(UI m aa7).flatten).toArray:=by
    intro m
    induction m with
    |zero=>simp
    |succ m ih=>
     intro c;have G:c.toArray++aa7.toArray=(c++aa7).toArray:=by simp
     rw[VR,VD,G,ih,VR,List.flatten_cons,List.append_assoc]
   simp_all
theorem FN:cQ X (g4 .Add) (λx y H Q=>∃a b ys,x=.ref a/\y=.ref b/\kI X.K H a []/\kI X.K H b ys/\Q (.ref b) H):=by
 intro aa1 s Z H x y v u Q I U ry h;obtain⟨a,b,ys,rfl,rfl,N,hb,q⟩:=h;cases U;cases ry;obtain⟨r,T,p1,_⟩:=I.tuple N;obtain⟨g,r2,Y,_⟩:=I.tuple hb;obtain rfl:r=[]:=T.zero;obtain⟨⟨O,M,J,W⟩,L,B,n,G⟩:=id p1;obtain⟨⟨C,m,o,p⟩,c,e,R,f⟩:=id Y;simp only at B G e f;subst B G e f
 exact aaR #[_,L,rfl] #[_,c,rfl] aam aaF Xf W9 (W3 _ _)
  (tuple_addW0 a b (Tw []) g.toArray n R M m W p rfl) #[L,c,#[.ref b,H,I,rfl,q]]
theorem Io(e:n.log2<2000)(f:0<n):cQ X (g4 .FloorDiv) (rI (λ_ j=>j=(n:Int)) λi j=>.int (i / j)):=Rb λi j _ _ _ _ _ c q=>by
 subst c;refine floordiv_int (by lia) ?_ (.inl<|PyProof.noPylong_of_log2<|by simpa using YV e (by decide))
 rw[Int.fdiv_eq_ediv_of_nonneg _ (by lia)]
 exact q
def HJ(K:Uh)(b1 b2:Bool)(t:TA):TE:=λZ H Q=>t Z H λc H1=>∃(l1 l2:cp)(ks:List aC)(ys:List V),c=[.ref l1,.ref l2]/\nV K b1 H1 l1 (ks.map kV)/\nV K b2 H1 l2 ys/\ks.length=ys.length/\0<ks.length/\ks.length<=1000/\
 ∀d,H1 d=ca->Q (.ref d) (upd H1 d<|.dK<|(ks.zip ys).foldl (λa p=>fE a p.1 p.2) [])
theorem xY{k:aC}:(aac xs k u).length<=xs.length+1:=by
 unfold aac
 split
 .rw[Uc];lia
 simp
theorem jM:∀(rs xs:List (aC×ay)),(rs.foldl (λa r=>aac a r.1 r.2) xs).length<=xs.length+rs.length
 |[],xs=>by simp
 |r::rs,xs=>by
  have:=jM rs (aac xs r.1 r.2);have:=xY (xs:=xs) (k:=r.1) (u:=r.2);rw[VD,UB];lia
theorem CC:∀{aa3:List (aC×V)}{rs:List (aC×ay)},KV aa3 rs->∀{a:List (aC×V)}{xs:List (aC×ay)},KV a xs->KV (aa3.foldl (λa p=>fE a p.1 p.2) a) (rs.foldl (λa r=>aac a r.1 r.2) xs)
 |_,_,.nil,a,xs,h=>h
 |_,_,.cons h t,a,xs,h0=>by
  rw[VD,VD];refine CC t ?_;rw[<- h.1];exact h0.put _ h.2
theorem oY{rs:List (aC×ay×ay)}{fq:abb}(hc:X.calm=true)(I:Inv X aa1 Z H g)(o1:s.os=g.os)(o2:s.gens=g.gens)(o3:s.drawn=g.drawn)(k0:∀c o,g.heap.get? c=ap o->s.heap.get? c=ap o)(sz:g.heap.objs.size<=s.heap.objs.size)(B:∀b∈fq,g.heap.objs.size<=b/\b<s.heap.objs.size)(kv:KV aa3 (rs.map λr=>(r.1,r.2.2)))(u:∀r∈rs,(aT X.prog X.w).is r.1 r.2.1=true)(hz:rs.length<=1000000)(hT:∃o,s.heap.get? l=ap o/\o.cls=.type T)(ht:(WS T != WS "dict")=true)(keys:∀(A':fv)(f:cb)(Q:Option ay->cb->Prop)(E:abe),A'.handled=ca->(∀b o,s.heap.get? b=ap o->f.heap.get? b=ap o)->(∀h' tk,(∀b o,f.heap.get? b=ap o->h'.get? b=ap o)->Q ca { f with heap:=h',toks:=tk })->eg (ez X.prog X.w) A' (aaf (.ref l) "keys") Q E f)(iter:∀(A':fv)(f:cb)(Q:abe)(E:abe),(∀b o,s.heap.get? b=ap o->f.heap.get? b=ap o)->s.heap.objs.size<f.heap.objs.size->
   (∀h' it fp St,(∀b o,f.heap.get? b=ap o->h'.get? b=ap o)->PSrc X.prog X.w s.heap.objs.size it (rs.map λr=>(r.2.1,r.2.2)) fp St->St 0 h'->(∀b∈fp,b∈fq\/s.heap.objs.size<b)->Q (.ref it) { f with heap:=h' })->eg (ez X.prog X.w) A' (aad<|.ref l) Q E f)(q:∀p,H p=ca->Q (.ref p) (upd H p<|.dK<|aa3.foldl (λa p=>fE a p.1 p.2) [])):
  eg (ez X.prog X.w) X.A (call (.type "dict") [.ref l]) (EP X aa1 Z Q) X.xe s:=by
 refine xV (I.ok.hd hc) (λi h=>h.DictOf (aT X.prog X.w) _ (((rs.take i).map λr=>(r.1,r.2.2)).foldl (λa r=>aac a r.1 r.2) [])) hT ht keys iter (by rintro i h ⟨o,G,J,e,_⟩;exact#[o,e]) ?_ ?_ ?_ ?_
 .intro h' R hd
  obtain⟨o,G,J,C,r⟩:=Heap.DictOf.new (knd:=aT X.prog X.w) s.heap;rw[Ui _ rfl]at C;cases C;exact#[_,G,J,hd,r]
 .rintro i h h' ⟨o,G,J,C,r⟩ M
  exact#[o,G,J,M _ o (λz=>U8 _ (B _ z).2) (Um _) C,r]
 .rintro i Y f Q' E' hd W
  have v:i<rs.length:=by simpa using Y
  simp;have m:(((rs.take i).map λr=>(r.1,r.2.2)).foldl (λa r=>aac a r.1 r.2) []).length<=sizeLine:=by
   have:=jM ((rs.take i).map λr=>(r.1,r.2.2)) [];have h2:(1000000:Nat)<=sizeLine:=by decide
   simp only[WK,Uc,Xj]at this;lia
  refine wpAny_dictSet_pairs (u rs[i] (V8 v)) hd (λh' N sb=>W h' _ ?_ sb) m;rw[List.take_succ_eq_append_getElem v,VW,List.foldl_append];exact N
 .rintro f p1 p2 p3 hd R
  simp at hd;have O:=I.big;have U:=I.hok.fresh sz;obtain⟨hh',g',d',t',L⟩:=f;obtain rfl:L=g.os:=p1.trans o1;obtain rfl:g'=g.gens:=p2.trans o2;obtain rfl:d'=g.drawn:=p3.trans o3;refine#[.ref _,_,I.laid (t':=t') (λc o e=>R c o (λz=>Xr.2 (B c z).1 (Ug e)) (k0 c o e)) sz ?_,rfl,q _ U];have y:=CC kv (a:=[]) (xs:=[]) .nil;refine sE ?_ (by lia) y hd
  rw[VM y];have:=jM (rs.map λr=>(r.1,r.2.2)) [];have h2:(1000000:Nat)<=sizeLine:=by decide
  simp at this;lia
theorem Fa:∀{ks:List aC}{aa7:aba}{ys:List V}{us:aba},Vals (ks.map kV) aa7->Vals ys us->ks.length=ys.length->
  KV (ks.zip ys) ((ks.zip<|aa7.zip us).map λr=>(r.1,r.2.2))/\(∀r∈ks.zip (aa7.zip us),(aT P w).is r.1 r.2.1=true)/\(ks.zip<|aa7.zip us).map (λr=>(r.2.1,r.2.2))=aa7.zip us
 |[],_,_,_,.nil,.nil,_=>#[.nil,by simp_all,rfl]
 |[],_,_::_,_,_,_,h=>by simp at h
 |_::_,_,[],_,_,_,h=>by simp at h
 |k::ks,_,y::ys,_,.cons r t,.cons r' t',h=>by
  obtain⟨a,b,c⟩:=Fa t t' (by simpa using h)
  exact#[.cons #[rfl,r'] a,λq f=>(Uk.1 f).elim (λe=>by subst e;exact jE r) (b q),by simpa using c]
theorem wT{a b:eT}(b1 b2:Bool)(hc:X.calm=true)(hg:Gl X "zip")(hm:X.mg "zip"=ca)(hg2:Gl X "dict")(hm2:X.mg "dict"=ca)(ha:PA X [a,b] ta)(hs:ee [a,b] X.env=[(cx,ff a X.env),(cx,ff b X.env)]:=by rfl)(hs2:ee [b] X.env=[(cx,ff b X.env)]:=by rfl)(hs3:ee [YK (.Name "zip" p2) [a,b] [] c] X.env=[(cx,ff (.Call (.Name "zip" p2) [a,b] [] c) X.env)]:=by rfl):
  PE X (.Call (.Name "dict" p) [.Call (.Name "zip" p2) [a,b] [] c] [] pos) (HJ X.K b1 b2 ta):=by
 intro aa1 s Z H Q I h;refine Call_ (dk I hg2 hm2 (by decide +kernel:eS "dict"=ap (.type "dict"))<|UU ?_ hs3 rfl)
 rw[hs3];show eg _ _ (spliced ((cx,_)::f' pos [])) _ _ s;refine VS ?_;refine Call_ (dk I hg hm (by decide +kernel:eS "zip"=ap (.type "zip"))<|UU (bu (ha c aa1 s Z H _ I h) λus L zz=>?_) (by rw[hs,hs2])<|by rw[hs2];rfl)
 obtain⟨vs,H1,I1,r1,q1⟩:=zz;obtain⟨l1,l2,ks,ys,e,q1,q2,hl,h0,hz,q⟩:=q1;subst e;obtain⟨u1,u2,rfl,ru1,ru2⟩:=r1.two;cases ru1;cases ru2;obtain⟨r,W,C,z1⟩:=I1.src q1;obtain⟨y,N,J,z2⟩:=I1.src q2;refine pY (args:=[(b1,l1),(b2,l2)]) (.inl rfl) (λp hp=>?_) λh' z TI TO S Y D g U O st hb R=>?_
 .simp only[Uk,V6,or_false]at hp
  rcases hp with rfl|rfl
  .exact#[_,C]
  .exact#[_,J]
 refine Wo ?_;have e1:=W.length;have e2:=N.length;rw[Uc]at e1;obtain⟨kv,B,eps⟩:=Fa (P:=X.prog) (w:=X.w) W N hl;have zt:ZTn z TI TO S 0 h':=#[g,U,#[_,by rw[Uc],O],st]
 have G:∀b∈pj z TI TO S,b<h'.objs.size:=λb hb=>let ⟨o,e,_⟩:=zt.obj b hb;Ug e;have ll:∀t∈S,∃u,SrcSq t.b L.heap t.l u/\t.l<h'.objs.size:=λt ht=>by
  have:(t.b,t.l)∈[(b1,l1),(b2,l2)]:=Y▸UK (f:=λt:ZS=>(t.b,t.l)) ht;have h:∃u,SrcSq t.b L.heap t.l u:=by
   simp only[Uk,V6,or_false,Prod.mk.injEq]at this;rcases this with⟨e,e'⟩|⟨e,e'⟩<;>rw[e,e']
   .exact#[_,C]
   .exact#[_,J]
  obtain⟨u,q⟩:=h;refine#[u,q,?_];obtain⟨b,i,l⟩:=t;cases b with
  |true=>obtain⟨o,e,_⟩:=(show L.heap.IsList l u from q);exact Ug (R _ _ e)
  |false=>obtain⟨o,e,_⟩:=(show L.heap.IsTuple l u from q);exact Ug (R _ _ e)
 refine oY (s:={ L with heap:=h' }) (T:="zip") (rs:=ks.zip (r.zip y)) (aa3:=ks.zip ys) (fq:=pj z TI TO S) hc I1 rfl rfl rfl R ?_ (λb h=>#[hb b h,G b h]) kv B (by simp only[X7];lia) #[_,g,rfl] (by decide) (λA' s' Q' E' hh m k=>pJ (m _ _ g) hh k) (λA' s' Q' E' m lt k=>aaj (m _ _ g) ?_) q
 .rcases VV h'.objs.size L.heap.objs.size with lt|ge
  .have:=hb z (by simp);exact absurd (G z<|by simp) (Xr.2<|Uw (Wd lt) this)
  .exact ge
 .obtain⟨t,u,rfl⟩:=Qp (by have:=congrArg VO Y;simpa using this)
  simp only[Ue,UX,Vi,Prod.mk.injEq,and_true]at Y;obtain⟨⟨eb,el⟩,eb',el'⟩:=Y;have ne:u.i≠t.i:=Ak D (i:=1) (j:=0) rfl rfl (by decide)
  rw[eps]at k;refine k s'.heap z _ (ZPr z TI TO h'.objs.size [t,u] λv=>if v.i=t.i then r else y) (λ_ _ e=>e) (ID D (by simp[ne]) (λh=>U8 _ (G _ h)) (λv M=>let ⟨_,_,h⟩:=ll v M;Uy h)<|by lia) ?_ λb h=>.inl h
  refine#[#[_,_,m _ _ g,.inl #[rfl,rfl,_,by rw[Uc],m _ _ O]],m _ _ U,λv M=>(st v M).keep λo e=>m _ o e,λv M=>?_]
  simp only[Uk,V6,or_false]at M;rcases M with rfl|rfl
  .rw[if_pos rfl,eb,el]
   exact C.keep λo e=>m _ o (R _ o e)
  .rw[if_neg ne,eb',el']
   exact J.keep λo e=>m _ o (R _ o e)
end _2
namespace _2
open PySem PySem.Spec PyProof.Rows
variable{h:g3}{s:cb}{w:fx}
theorem nK(f:Nat->a->Sem (ForInStep a))(I:Nat->a->cb->Prop)(Q:a->cb->Prop)(g:∀i b s,i<n->I i b s->eg M A (f i b) (λr s'=>match r with|.yield b'=>I (i+1) b' s'|.done b'=>Q b' s') E s)(fin:∀b s,I n b s->Q b s)(b:a)(h:I 0 b s):eg M A (forIn [0:n] b f) Q E s:=by
 rw[Std.Legacy.Range.forIn_eq_forIn_range'];have o:[0:n].size=n:=by simp
 rw[o];refine wpAny_forIn_list f (λl c s=>∃i,i<=n/\l=Wn i (n-i) 1/\I i c s) Q ?_ ?_ _ b #[0,by lia,rfl,h]
 .rintro x p c s ⟨i,v,m,q⟩
  have j:i<n:=by
   rcases VV i n with h'|h'
   .exact h'
   simp_all
  obtain⟨k,u⟩:∃k,n-i=k+1:=#[n-i-1,by lia]
  rw[u]at m;obtain⟨rfl,rfl⟩:=List.cons.inj m;refine hW (g x c s j q) (λr s' h'=>?_) λ_ _ e=>e;cases r with
  |done c'=>exact h'
  |yield c'=>exact#[_,by lia,by congr 1;lia,h']
 rintro c s ⟨i,v,m,q⟩
 have:i=n:=by
  rcases VV i n with h'|h'
  .obtain⟨k,u⟩:∃k,n-i=k+1:=#[n-i-1,by lia]
   simp_all
  lia
 simp_all
theorem kN(l:cp)(a:abh)(n:Nat)(dd:Option cp)(I:Array (Option ay))(x:ay)(e:ay->Bool)(G:∀y,y∈a->MeetsSeq.EqGives y x (e y))(j:Nat)(M:j<a.size)(u:e a[j]=true)(r:∀m (hm:m<a.size),m<j->e a[m]=cx):
  aaq (Builtin.«tuple.index» #[[.ref l,x],[]]) (λ_ R s=>s.heap.get? l=ap { cls:=.type "tuple",dict:=dd,data:=.seq a n,slots:=I }/\R (.ok<|.ret<|.int j s.toks) { s with toks:=s.toks+1 }):=
 .of_wp λf w A R s h=>by
  obtain⟨C,g,d,v,F⟩:=s;obtain⟨z,h⟩:=h
  wp_walk using AutoSeq1.wpAny_loadPart' z
  refine nK (n:=min a.size a.size) _ (λi (b:Option _×_) q=>b.1=ca/\i<=j/\q=#[C,g,d,v,F]) _ ?turn ?fin _ ?strt
  case turn=>
   rintro i b q J ⟨B,p,rfl⟩
   have c:i<a.size:=by lia
   have o:a[i]?=ap a[i]:=by simp[c]
   simp only[o];refine ax (G _ (Array.getElem_mem c) f w _ _ _ _ ?_)
   by_cases E:i=j
   .subst E
    rw[u]
    wp_walk
    exact#[_,rfl,h]
   .rw[r i c (by lia)]
    wp_walk
    exact#[rfl,by lia,rfl]
  case fin=>
   rintro⟨L,K⟩ q ⟨B,p,rfl⟩
   lia
  case strt=>
   exact#[rfl,Vg _,rfl]
theorem Inv.tupD(I:Inv X b Z H s)(h:H a=ap (.tup xs)):
  ∃(aa7:aba)(n:Nat)(sl:Array (Option ay)),Vals xs aa7/\s.heap.get? a=ap { cls:=.type "tuple",dict:=ca,data:=.seq aa7.toArray n,slots:=sl }:=by
 obtain⟨z,aa7,r,⟨cls,g,data,slots⟩,e,⟨c,n,d⟩,f⟩:=I.hok a _ h;simp only at c d f;subst c d f;exact#[aa7,n,slots,r,e]
theorem gS:∀{names:aa'}{us:aba},Vals (names.map V.str) us->∀(j:Nat)(h:j<us.length),∃(y:Str)(t:Tok),names[j]?=ap y/\us[j]=.str y t
 |[],us,r,j,h=>by cases r;trivial
 |x::names,us,r,j,h=>by
  cases r with
  |cons r1 r2=>
   cases j with
   |zero=>obtain⟨t,rfl⟩:=r1;simp_all
   |succ j=>obtain⟨y,t,b,a⟩:=gS r2 j (by simpa using h);simp_all
def Rs:V->List V->Hp->VK->Prop:=λx b H Q=>∃(a:cp)(names:aa')(z:Str)(j:Nat),x=.ref a/\b=[.str z]/\H a=ap (.tup<|names.map V.str)/\names.length<=1000/\names[j]?=ap z/\(∀m,m<j->names[m]?≠ap z)/\Q (.int (j:Int)) H
theorem CI:vo X "tuple.index" Rs:=by
 intro E s Z H x T v U Q I L R h;obtain⟨a,b,z,j,rfl,rfl,K,S,A,p,q⟩:=h;cases L;obtain⟨u,rfl,G⟩:=R.one;obtain⟨t,rfl⟩:=G;obtain⟨c,n,M,r,e⟩:=I.tupD K;have O:=r.length;rw[Uc]at O;have J:j<b.length:=by
  rcases VV j b.length with z'|z'
  .exact z'
  .rw[Vu z']at A;cases A
 have o:j<c.toArray.size:=by rw[Uq];lia
 refine mo Wb #[_,e,rfl] X5 (X3 _ _)
  (kN a c.toArray n ca M (.str z t) (λv=>match v with|.str y _=>y==z|_=>cx) (λy N=>?_) j o ?_ λm i B=>?_) #[e,?_]
 .obtain⟨m,i,rfl⟩:=WM (by simpa using N:y∈c)
  obtain⟨l,C,g,f⟩:=gS r m i;rw[f];exact eqGives_str l z C t
 .obtain⟨l,C,g,f⟩:=gS r j (by lia)
  rw[A]at g;cases g;simp[f]
 .obtain⟨l,C,g,f⟩:=gS r m (by rw[Uq]at i;exact i)
  have F:=p m B;rw[g]at F;have ne:¬l=z:=λe=>F (by rw[e])
  simp[f,ne]
 .exact#[.int (j:Int),H,I.tok _,#[_,rfl],q]
def tTM(r:V->List V->Hp->VK->Prop)(to:TE)(t:TA):TE:=λZ H Q=>to Z H λx H1=>(∃a b,x=.ref a/\H1 a=ap (.tup b))/\t Z H1 λb H2=>r x b H2 Q
theorem RK{id:String}(c:Slot "tuple" name id)(f:Z' (.builtin id)=pure (.type "method_descriptor"))(G:vo X id r)(K:PE X o to)(J:PA X (e::es) t)(b:kc o name X.env (ff o X.env)=ff o X.env:=by rfl)(hfew:((f' aa5<|starEach (e::es) X.env).all (λx=>!x.1)&&(pb aa5<|keywordEach [] X.env).all (λx=>x.1.isSome)
   && decide ((e::es).length+([]:List o4).length+(if ([]:List o4).isEmpty then 0 else 1)<30))=true:=by rfl)(hline:(aa6.endLine==aa5.line)=true:=by rfl)(hs:ee (e::es) X.env=(cx,ff e X.env)::ee es X.env:=by rfl)(hplain:(f' aa5<|starEach es X.env).any (·.1)=false:=by rfl):
  PE X (.Call (.Attribute o name aa6) (e::es) [] aa5) (tTM r to t):=by
 intro i s Z H Q I h;refine aaL b hfew hline rfl (bu (K _ s Z H _ I h) λv l A=>?_);obtain⟨x,H1,I1,y,⟨a,N,p,u⟩,B⟩:=A;subst p;cases y;obtain⟨E,n,L,M,z⟩:=I1.tupD u;refine#[_,id,PySem.F.plainAttrs_tuple,c,f,#[_,z,rfl],by simp_all,?_]
 have g:=J aa5 _ l Z H1 _ I1 B;rw[hs]at g ⊢;exact VT (by assumption) (V2<|bu g<|by rintro C s2 ⟨q,H2,I2,m,j⟩;exact G _ s2 Z H2 (.ref a) q _ C Q I2 rfl m j)
theorem gn{h:g3}:∀{l:List Env},h.FunFrames a l->(∀b∈iB l,b∈S)->h.FunFrames (Ya h S) l
 |[],_,_=>trivial
 |env::r,hl,hs=>by
  obtain⟨i,⟨L,o,c,n,m,g⟩,j⟩:=hl;have e:L∈S:=hs L (by unfold iB;rw[Wg,c];exact Ux)
  exact#[i,#[L,o,c,W.hideAll_none S e,m,g],gn j λb f=>hs b (by unfold iB;rw[Wg,c];exact Uj _ f)]
def Ea(P:eH)(w:fx)(C:cp):pi:=λa H s E e c=>∃(ea:cp)(H':Hp)(B:g3)(a0:ay),e=.ref ea/\c.os=s.os/\UF c.gens/\Un (iB a) [] H H' s.heap c.heap/\HOk P w H' c.heap/\
 Heap.FlyingW B a ea (.ref C) a0 c.heap/\(∀b u,H' b=ap u->∃o,B.get? b=ap o)/\(∀b o,s.heap.get? b=ap o->b∉iB a->∃o',B.get? b=ap o')/\E (.ref C) ca H'
theorem qV{B:g3}(c:HOk P w H h)(k:B.StaysIn h)(j:B.StaysIn h')(g:∀b u,H b=ap u->∃o,B.get? b=ap o):HOk P w H h':=λa o e=>
 (c a o e).stay (λb u i q=>by
  obtain⟨v,f⟩:∃v,B.get? b=ap v:=by
   rcases i with rfl|z
   .exact g _ _ e
   .exact g _ _ z
  have:=k b v f;rw[q]at this;cases this;exact j b _ f) (λ_ q=>q) λ_ _ q=>q
theorem xn{B:g3}(un:Un fs [] H H' h m)(k1:B.StaysIn m)(k2:B.StaysIn l)(p:m.UpToSlots l)(r:∀b o,h.get? b=ap o->b∉fs->∃e,B.get? b=ap e)(u:∀b∈fs,∀o,h.get? b=ap o->∀vs,o.data≠.fields vs)(x:∀b∈fs,H b=ca):Un fs [] H H' h l where
 keep:=λb o q n a f=>by
  have g:=un.keep b o q n a f;obtain⟨e,c⟩:=r b o q a;have:=k1 b e c;rw[g]at this;cases this;exact k2 b _ c
 slot:=λb o q n a f=>by
  obtain⟨v,g⟩:=un.slot b o q n a f;obtain⟨j,i⟩:=p b _ g (u b a o q);exact#[_,i]
 free:=un.free
 there:=λb o q f=>by
  by_cases a:b∈fs
  .obtain⟨v,g⟩:=un.slot b o q (x b a) a f
   obtain⟨j,i⟩:=p b _ g (u b a o q);exact#[_,i]
  obtain⟨e,c⟩:=r b o q a;exact#[e,k2 b e c]
 tups:=un.tups
 frzs:=un.frzs
 tbls:=un.tbls
section
variable{K:Uh}
theorem wk(h:env.frame=ap L):iB (env::l)=L::iB l:=by unfold iB;simp_all
theorem Tj:bR (Ea P w C) (eY (Ea P w C) P w K mg base N aa2 scope f cd A outer s0 H0 E) E:=by
 intro S Z H s e s' I a;obtain⟨G,H',B,a0,rfl,M,c,un,F,l,R,O,hE⟩:=a;have Q:(eY (Ea P w C) P w K mg base N aa2 scope f cd A outer s0 H0 E).stack=envOfC aa2 scope s0.heap.objs.size f cd::outer:=rfl;have y:(envOfC aa2 scope s0.heap.objs.size f cd).frame=ap s0.heap.objs.size:=rfl;have x:iB (envOfC aa2 scope s0.heap.objs.size f cd::outer)=s0.heap.objs.size::iB outer:=wk y;rw[Q]at un l O;show eg (ez P w) (A.deeper<|envOfC aa2 scope s0.heap.objs.size f cd) (leaving (envOfC aa2 scope s0.heap.objs.size f cd)<|.ref G) (λ_ m=>Ea P w C outer H0 s0 E (.ref G) m) (λY m=>Ea P w C outer H0 s0 E Y m) s';refine wpAny_leaves_onW I.ok.frames y l λh' j J=>?_;have i:Un (iB outer) [] H0 H s0.heap s.heap:=I.base;have nofr:∀{b:cp}{o:Obj},s0.heap.get? b=ap o->b∉iB outer->b∉iB (envOfC aa2 scope s0.heap.objs.size f cd::outer):=λ{b o} q c z=>by
  rw[x]at z;rcases Uk.mp z with e|z
  .exact U8 _ (e▸Ug q)
  .exact c z
 have g:Un (iB (envOfC aa2 scope s0.heap.objs.size f cd::outer)) [] H H' s.heap h':=by
  refine xn un l.1 j.1 J O (λb c o q vs=>?_) λb c=>?_
  .obtain⟨_,o',r,W⟩:=I.stack.mem (show b∈_ from c)
   rw[q]at r;cases r;exact W vs
  .exact I.stkFree b c
 refine#[G,H',B,a0,rfl,M.trans I.os,c,?_,qV F l.1 j.1 R,j,R,λb o q c=>?_,hE]
 .refine#[λb o q n c a=>?_,λb o q n c a=>?_,λb o q n a=>?_,λb o q a=>?_,λb T q=>g.tups b T (i.tups b T q),λb o u q=>g.frzs b o u (i.frzs b o u q),λb X q=>?_]
  .exact g.keep b o (i.keep b o q n c a) (i.free b o q n a) (nofr q c) a
  .obtain⟨sl,p⟩:=i.slot b o q n c a
   obtain⟨L,U⟩:=g.slot b _ p (i.free b o q n a) (by rw[x];exact Uj _ c) a
   exact#[L,U]
  .obtain⟨v,p⟩:=i.there b o q a
   exact g.free b v p (i.free b o q n a) a
  .obtain⟨v,p⟩:=i.there b o q a
   exact g.there b v p a
  .obtain⟨m1,e1⟩:=i.tbls b X q
   obtain⟨m2,e2⟩:=g.tbls b _ e1;exact#[m1++m2,by rw[e2,Ze]]
 .obtain⟨v,p⟩:=i.there b o q (by simp)
  exact O b v p (nofr q c)
structure ExcAt(K:Uh)(C:cp):Prop where
 at_:∃(nm q:Str)(Nn:cp)(bs bm bmB:aba)(hdct:Bool)(sn:aa')(sub:aba)(ab:Bool)(col:Option Bool)(dd:Option cp)(k0 k1 k2 k3 k5:Option ay)(newId initId Bs:String)(mN:abg),
  (∀h:g3,K.In h->h.get? C=ap (excClassObj nm q C Nn bs bm hdct sn sub ab col dd k0 k1 k2 k3 k5 newId)/\h.Ns Nn mN/\OwnTail h bmB bm)/\mN "__init__"=ca/\ExcBaseFacts Bs newId initId bmB/\bmB.contains (.type Bs)=true/\bm.contains (.type "BaseException")=true
theorem ObjOk.obj(x:ObjOk P w H h a o):∃v,h.get? a=ap v:=by
 cases o with
 |lst xs=>obtain⟨_,_,_,_,e⟩:=x;exact#[_,e]
 |tup xs=>obtain⟨_,_,_,_,e,_⟩:=x;exact#[_,e]
 |set S n=>obtain⟨o,_,_,_,e,_⟩:=x;exact#[_,e]
 |ins C dx fs=>obtain⟨_,_,_,e,_⟩:=x;exact#[_,e]
 |own y=>assumption
 |xd fs=>obtain⟨_,⟨_,_,_,e,_⟩,_⟩:=x;exact#[_,e]
 |rng lo hi=>obtain⟨_,_,_,e⟩:=x;exact#[_,e]
 |frz ob u=>obtain⟨e,_⟩:=x;exact#[_,e]
 |tbl ps=>exact#[_,x]
 |met f y=>exact#[_,x]
 |ext φ=>obtain⟨_,⟨_,e⟩,_⟩:=x;exact#[_,e]
 |_=>obtain⟨_,_,_,_,o,_,_,e,_⟩:=x;exact#[_,e]
theorem Kz(g:Un fs [] H0 H l h)(a:Un (L::fs) [] H H' h h')(G:l.objs.size<=L):Un fs [] H0 H' l h':=by
 have nofr:∀{b:cp}{o:Obj},l.get? b=ap o->b∉fs->b∉L::fs:=λ{b o} q i z=>by
  rcases Uk.mp z with e|z
  .exact U8 _ (Ur (e▸Ug q) G)
  exact i z
 refine#[λb o q n i c=>a.keep b o (g.keep b o q n i c) (g.free b o q n c) (nofr q i) c,λb o q n i c=>?_,λb o q n c=>?_,λb o q c=>?_,λb p q=>a.tups b p (g.tups b p q),λb o u q=>a.frzs b o u (g.frzs b o u q),λb B q=>?_]
 .obtain⟨I,j⟩:=g.slot b o q n i c
  obtain⟨x,r⟩:=a.slot b _ j (g.free b o q n c) (Uj _ i) c;exact#[_,r]
 .obtain⟨m,j⟩:=g.there b o q c
  exact a.free b m j (g.free b o q n c) c
 .obtain⟨m,j⟩:=g.there b o q c
  exact a.there b m j c
 obtain⟨y,v⟩:=g.tbls b B q;obtain⟨F,J⟩:=a.tbls b _ v;exact#[y++F,by simp_all]
def PY(E:XK)(C:cp):TS:=λ_ _ H=>E (.ref C) ca H
theorem F2{jj}(X:ExcAt K C)(hm:mg x=ap (.ref C))(hg:Gl (eY (Ea P w C) P w K mg base N aa2 scope f cd A outer s0 H0 E) x)(hd:(x==("__debug__":Str))=false:=by decide)(hs:ee [.Constant (.str l) jj aa6] (eY (Ea P w C) P w K mg base N aa2 scope f cd A outer s0 H0 E).env=[(cx,ff (.Constant (.str l) jj aa6) (eY (Ea P w C) P w K mg base N aa2 scope f cd A outer s0 H0 E).env)]:=by rfl):
  PS (eY (Ea P w C) P w K mg base N aa2 scope f cd A outer s0 H0 E) (.Raise (ap<|.Call (.Name x np) [.Constant (.str l) jj aa6] [] aa5) ca pos) (PY E C):=by
 intro m s Z H D I h;obtain⟨nm,q,Nn,bs,bm,bmB,hdct,sn,sub,ab,col,dd,k0,k1,k2,k3,k5,R,L,Bs,mN,hX,M,FB,Y,i⟩:=X.at_
 refine wpAny_Raise_call_subU (C:=C) (nm:=nm) (q:=q) (N:=Nn) (bs:=bs) (bm:=bm) (hdct:=hdct) (sn:=sn) (sub:=sub) (ab:=ab) (col:=col) (dd:=dd) (k0:=k0) (k1:=k1) (k2:=k2) (k3:=k3) (k5:=k5) FB Y FB (mN:=mN) i (I.ok.hd rfl) (by rw[hs];rfl) M
  (ic I hg hm #[rfl,?_] hd)
 have hA:=(BM I0 Fy hs) aa5 m s Z H (λxs H1=>xs.length=1/\E (.ref C) ca H1) I #[rfl,h];rw[hs]at hA ⊢;refine V2 (hW hA (λvs a p=>?_) λ_ _ y=>y);obtain⟨vv,H1,I1,r,F,hE⟩:=p;obtain⟨hC,hN,T⟩:=hX a.heap I1.kIn;refine#[rfl,?_,hC,hN,T,λh' e hx=>?_]
 .rw[<- r.length,F]
  decide
 have G:(envOfC aa2 scope s0.heap.objs.size f cd).frame=ap s0.heap.objs.size:=rfl;have B:iB _=s0.heap.objs.size::iB outer:=wk G;have U:(Ya a.heap<|iB (envOfC aa2 scope s0.heap.objs.size f cd::outer)).StaysIn a.heap:=λb o e=>W.of_hideAll _ e;refine wpAny_leaves_madeW I1.ok.frames G U (gn I1.stack λb c=>c) hx λS t g _ _ O=>?_;have Q:=(Heap.UpToSlots.of_keeps hx.keeps).trans O;have j:∀{b:cp}{o:Obj},a.heap.get? b=ap o->b∉iB (envOfC aa2 scope s0.heap.objs.size f cd::outer)->(Ya a.heap _).get? b=ap o:=λe n=>W.hideAll_get _ e n;have sT:∀b u,H1 b=ap u->∃o,(Ya a.heap _).get? b=ap o:=λb u e=>by
  obtain⟨v,hv⟩:=ObjOk.obj (I1.hok b u e);exact#[v,j hv λz=>by rw[I1.stkFree b z]at e;cases e]
 have J:Un (iB (envOfC aa2 scope s0.heap.objs.size f cd::outer)) [] H1 H1 a.heap S:=by
  refine xn Un.refl U g.1 Q (λb o q c=>#[o,j q c]) (λb c o q vs=>?_) λb c=>I1.stkFree b c;obtain⟨_,o',ho',hd'⟩:=I1.stack.mem (show b∈_ from c)
  simp_all
 rw[B]at J;refine#[e,H1,_,.ref t,rfl,I1.os,I1.bare,Kz I1.base J (Um _),qV I1.hok U g.1 sT,g,sT,λb o q c=>?_,hE];obtain⟨o1,q1⟩:=I1.base.there b o q (λz=>absurd (show b∈([]:abb) from z) (by simp))
 refine#[o1,j q1 λz=>?_];rw[B]at z;rcases Uk.mp z with e'|z
 .exact U8 _ (e'▸Ug q)
 .exact c z
end
noncomputable abbrev Cx.marked(X:Cx)(e:ay):Cx:={ X with A:=X.A.mark (ap e),calm:=cx,xe:=λ_ _=>False }
section
variable{X:Cx}
theorem Cx.Ok.mark(ok:X.Ok)(e:ay):(X.marked e).Ok:=
 #[ok.mod,ok.kind,ok.glob,ok.blt,ok.above,ok.inj,ok.has,ok.cab,by lia,ok.frames,ok.stk,ok.exf,ok.bs,ok.bsz,ok.noex,ok.exfs,ok.funs,ok.frf]
theorem Inv.mark(I:Inv X aa1 Z H s)(e:ay):Inv (X.marked e) aa1 Z H s:=#[I.ok.mark e,I.os,I.bare,I.base,I.loc,I.cell,I.free,I.freeC,I.pin,I.hok,I.len]
theorem Inv.unmark(ok:X.Ok)(I:Inv (X.marked e) aa1 Z H s):Inv X aa1 Z H s:=#[ok,I.os,I.bare,I.base,I.loc,I.cell,I.free,I.freeC,I.pin,I.hok,I.len]
theorem SP.unmark(ok:X.Ok)(h:SP (X.marked e) aa1 D f b):SP X aa1 D f b:=by
 cases f with
 |ret u=>obtain⟨v,a,H',I,r,q⟩:=h;exact#[v,_,H',I.unmark ok,r,q]
 |_=>obtain⟨a,H',I,q⟩:=h;exact#[_,H',I.unmark ok,q]
def Fv(C:cp)(sp:Sp)(dvs:List V)(ta:TA)(ts:TS):TS:=λD Z H=>ta Z H λa H1=>sp (a++dvs) H1 (λ_ H2=>D.nx Z H2) (λ_ _ H2=>ts D Z H2)
theorem xk(L:X.stack=X.env::X.outer)(hfL:X.env.frame=ap X.env.locals)(F:FnOk X.prog X.w X.K X.mg X.base (Ea X.prog X.w C) k f fd ps sp)(hr:Room k X.A)(hg:Gl X x)(hm:X.mg x=ap (.ref f))(hk:VB X.K (.ref f)=true)(hb:Binds X.K fd ps ds)(hd:Vals dvs ds)(ha:PA X.nox (e::es) ta)(EX:ExcAt X.K C)(hgC:Gl X T)(hmC:X.mg T=ap (.ref C))(hsu:∀J:cp,AM (X.marked<|.ref J) (j::g) ts)(hdb:(x==("__debug__":Str))=false:=by decide)(hdC:(T==("__debug__":Str))=false:=by decide)(he:ee (e::es) X.env=(cx,ff e X.env)::ee es X.env:=by rfl)(hpl:(f' S<|starEach es X.env).any (·.1)=false:=by rfl)(hsw:py (.Call (.Name x p) (e::es) [] S) ca ep.line X.env=pure false:=by rfl):
  PS X (.Try [.Expr (.Call (.Name x p) (e::es) [] S) ep] [.ExceptHandler (ap<|.Name T np) ca (j::g) M] [] [] pos) (Fv C sp dvs ta ts):=by
 intro aa1 s Z H D I h;refine wpAny_Try_except (aak<|wpAny_Expr_any ?_ I.quiet hsw);refine k' (ic I hg hm ?_ hdb);refine X0 (h₀:=X.base) I.ok.mod.kin hk (hW (ha S aa1 s Z H _ (I.wish _) h) (λR Y zz=>?_) λ_ _ z=>Vv z) he hpl;obtain⟨N,H1,I1',r,q⟩:=zz;have I1:=I1'.unwish;refine#[I1.kIn,?_];have r2:=r.append hd;have hl:(R++ds).length=ps.length:=by rw[<- r2.length];exact F.len _ _ _ _ q
 refine aau (rc (F.run X.A X.stack Y H1 #[R,[]] (R++ds) (N++dvs) _ _ hr I1.env0 (hb Y R I1.kIn hl) r2 q) λrr s' U=>?_);cases rr with
 |ok fl=>
  cases fl with
  |ret u=>
   obtain⟨x',H2,I2,_,q2⟩:=I1.after U;exact re (re #[Z,H2,I2,q2])
  |_=>exact Vv U
 |error er=>
  obtain⟨J,H',B,a0,rfl,hos,m,un,hok,i,sT,sA,hE⟩:=U;obtain⟨nm,qn,Nn,bs,bm,bmB,hdct,sn,sub,ab,col,dd,k0,k1,k2,k3,k5,newId,Q,Bs,mN,hX,hni,FB,hBs,n⟩:=EX.at_;have nf:∀b∈iB X.stack,∀o,Y.heap.get? b=ap o->∀N,o.data≠.fields N:=λb v o q' N=>by
   obtain⟨_,o',ho',hd'⟩:=I1.stack.mem (show b∈_ from v)
   simp_all
  have c:∀O:g3,B.StaysIn O->s'.heap.UpToSlots O->Inv X aa1 Z H' { s' with heap:=O }:=λO k up=>
   I1.call' hos (xn un i.1 k up sA nf λb v=>I1.stkFree b v) (qV hok i.1 k sT) m λb z=>absurd (z) (by simp)
  rw[L]at i;refine wpAny_looks_onW (by rw[<- L];exact I1.ok.frames) hfL i λh4 l up4=>?_
  refine wpAny_landsW l λh5 a E=>?_;have I5:=(c h5 a.1<|up4.trans E).mark (.ref J);obtain⟨hC,_,_⟩:=hX h5 I5.kIn;obtain⟨ob,W,G⟩:=a.there;refine wpAny_handleBy_cons (codeAny_handlers_test<|ic I5 hgC hmC ?_ hdC) (by intro q';cases q')
  refine wpAny_excMatches_sub_self hC W G n (codeAny_handlers_suite ?_);refine lands_againW a λh6 y up6=>?_;have I6:=(c h6 y.1<|(up4.trans E).trans up6).mark (.ref J);exact hW (hsu J aa1 _ Z H' D I6 hE) (λfl s7 q7=>q7.unmark I.ok) λ_ _ z=>Vv z
end
end _2
namespace _3
open PySem _2
variable{a p:cp}{e:eT}{H H':Hp}{M:Mem}{K:Uh}{r:g7}
inductive D where
 |non|bl (b:Bool)|int (i:Int)|str (x:Str)|ty (n:String)|ref (a:cp)|tup (xs:List D)|lst (xs:List D)|mt (xs:List D)|ml (xs:List D)|fd (ks:List (List aC)) (xs:List D)
def TpD(_:Uh)(H:Hp)(p:cp)(vs:List V):Prop:=H p=ap (.tup vs)
def TpM(K:Uh)(p:cp)(vs:List V):Prop:=∃(o:Obj)(aa7:abh)(n:Nat),K.lookup p=ap o/\o.cls=.type "tuple"/\o.data=.seq aa7 n/\aa7.size<=sizeLine/\Vals vs aa7.toList
def FzD(K:Uh)(H:Hp)(p:cp)(vs:List V):Prop:=
 ∃o,H p=ap (.frz o<|.lst vs)
def FzK(K:Uh)(H:Hp)(p:cp)(vs:List V):Prop:=(∃o,H p=ap (.frz o<|.lst vs))\/∃(o:Obj)(aa7:abh)(n:Nat),K.lookup p=ap o/\o.cls=.type "list"/\o.dict=ca/\o.data=.seq aa7 n/\aa7.size<=sizeLine/\Vals vs aa7.toList
theorem FzK.sq(h:FzK K H p vs):SqL K H p vs:=h.imp (by rintro⟨o,e⟩;exact .inr #[o,e]) λx=>x
theorem TpD.sq(h:TpD K H p vs):kI K H p vs:=.inl (.inl h)
theorem TpM.sq(h:TpM K p vs):kI K H p vs:=.inr h
theorem FzD.sq(h:FzD K H p vs):SqL K H p vs:=by
 obtain⟨o,h⟩:=h;exact .inl (.inr #[o,h])
def FdD(H:Hp)(p:cp)(ks:List (List aC))(vs:List V):Prop:=ks.length=vs.length/\∃o,H p=ap (.frz o<|.dT<|ks.zip vs)
mutual
def Rp(K:Uh)(H:Hp):D->V->Prop
 |.non,v=>v=.non
 |.bl b,v=>v=.bl b
 |.int i,v=>v=.int i
 |.str x,v=>v=.str x
 |.ty n,v=>v=.ty n
 |.ref a,v=>v=.ref a
 |.tup xs,v=>∃p vs,v=.ref p/\TpD K H p vs/\Rps K H xs vs
 |.lst xs,v=>∃p vs,v=.ref p/\FzD K H p vs/\Rps K H xs vs
 |.mt xs,v=>∃p vs,v=.ref p/\TpM K p vs/\Rps K H xs vs
 |.ml xs,v=>∃p vs,v=.ref p/\FzK K H p vs/\Rps K H xs vs
 |.fd ks xs,v=>∃p vs,v=.ref p/\FdD H p ks vs/\Rps K H xs vs
def Rps(K:Uh)(H:Hp):List D->List V->Prop
 |[],vs=>vs=[]
 |x::xs,vs=>∃v r,vs=v::r/\Rp K H x v/\Rps K H xs r
end
structure Imm(H H':Hp):Prop where
 tup:∀p vs,H p=ap (.tup vs)->H' p=ap (.tup vs)
 frz:∀p o u,H p=ap (.frz o u)->H' p=ap (.frz o u)
theorem Imm.refl:Imm H H:=#[by lia,by lia]
theorem Imm.trans(a:Imm H H1)(b:Imm H1 H2):Imm H H2:=#[λp f e=>b.tup _ _ (a.tup _ _ e),λp o u e=>b.frz _ _ _ (a.frz _ _ _ e)]
theorem TpD.mono(i:Imm H H')(h:TpD K H p vs):TpD K H' p vs:=i.tup _ _ h
theorem FzK.mono(i:Imm H H')(h:FzK K H p vs):FzK K H' p vs:=h.imp (λ⟨o,e⟩=>#[o,i.frz _ _ _ e]) λx=>x
theorem FzD.mono(i:Imm H H')(h:FzD K H p vs):FzD K H' p vs:=let ⟨o,e⟩:=h;#[o,i.frz _ _ _ e]
mutual
theorem Rp.mono{K:Uh}{H H':Hp}(i:Imm H H'):∀{d:D}{v:V},Rp K H d v->Rp K H' d v
 |.non,_,h=>h
 |.bl _,_,h=>h
 |.int _,_,h=>h
 |.str _,_,h=>h
 |.ty _,_,h=>h
 |.ref _,_,h=>h
 |.tup _,_,h=>by
  obtain⟨p,b,e,t,r⟩:=h;exact#[p,b,e,t.mono i,Rps.mono i r]
 |.lst _,_,h=>by
  obtain⟨p,b,e,t,r⟩:=h;exact#[p,b,e,t.mono i,Rps.mono i r]
 |.mt _,_,h=>by
  obtain⟨p,b,e,t,r⟩:=h;exact#[p,b,e,t,Rps.mono i r]
 |.ml _,_,h=>by
  obtain⟨p,b,e,t,r⟩:=h;exact#[p,b,e,t.mono i,Rps.mono i r]
 |.fd _ _,_,h=>by
  obtain⟨p,b,e,⟨t,o,f⟩,r⟩:=h;exact#[p,b,e,#[t,o,i.frz _ _ _ f],Rps.mono i r]
theorem Rps.mono{K:Uh}{H H':Hp}(i:Imm H H'):∀{ds:List D}{vs:List V},Rps K H ds vs->Rps K H' ds vs
 |[],_,h=>h
 |_::_,_,h=>by
  obtain⟨v,r,e,a,b⟩:=h;exact#[v,r,e,Rp.mono i a,Rps.mono i b]
end
theorem Rps.nil:Rps K H [] []:=rfl
theorem Rps.cons(a:Rp K H d v)(b:Rps K H ds vs):Rps K H (d::ds) (v::vs):=#[v,vs,rfl,a,b]
theorem Rps.length:∀{ds:List D}{vs:List V},Rps K H ds vs->ds.length=vs.length
 |[],_,h=>by cases h;rfl
 |_::_,_,h=>by obtain⟨v,r,rfl,_,b⟩:=h;simp[b.length]
theorem Rps.get:∀{ds:List D}{vs:List V},Rps K H ds vs->∀{i:Nat}{d:D},ds[i]?=ap d->∃v,vs[i]?=ap v/\Rp K H d v
 |[],_,_,i,d,e=>by simp at e
 |x::xs,_,h,i,d,e=>by
  obtain⟨v,r,rfl,a,b⟩:=h;cases i with
  |zero=>simp_all
  |succ i=>simpa using b.get (by simpa using e)
theorem Rps.append:∀{ds es:List D}{vs f:List V},Rps K H ds vs->Rps K H es f->Rps K H (ds++es) (vs++f)
 |[],_,_,_,h,g=>by cases h;exact g
 |_::_,_,_,_,h,g=>by
  obtain⟨v,r,rfl,a,b⟩:=h;exact#[v,_,rfl,a,b.append g]
theorem Rps.take:∀{ds:List D}{vs:List V}(n:Nat),Rps K H ds vs->Rps K H (ds.take n) (vs.take n)
 |[],_,n,h=>by cases h;simp[Rps]
 |_::_,_,0,h=>rfl
 |_::_,_,n+1,h=>by
  obtain⟨v,r,rfl,a,b⟩:=h;exact#[v,_,rfl,a,b.take n]
theorem Rps.drop:∀{ds:List D}{vs:List V}(n:Nat),Rps K H ds vs->Rps K H (ds.drop n) (vs.drop n)
 |[],_,n,h=>by cases h;simp[Rps]
 |_::_,_,0,h=>h
 |_::_,_,n+1,h=>by
  obtain⟨v,r,rfl,a,b⟩:=h;exact b.drop n
theorem Rps.set(a:Rp K H d v):∀{ds:List D}{vs:List V}(i:Nat),Rps K H ds vs->Rps K H (ds.set i d) (vs.set i v)
 |[],_,_,h=>by cases h;rfl
 |_::_,_,0,h=>by obtain⟨w,r,rfl,_,b⟩:=h;exact#[v,r,rfl,a,b]
 |_::_,_,i+1,h=>by obtain⟨w,r,rfl,c,b⟩:=h;exact#[w,_,rfl,c,b.set a i]
theorem Rps.reverse:∀{ds:List D}{vs:List V},Rps K H ds vs->Rps K H ds.reverse vs.reverse
 |[],_,h=>by cases h;rfl
 |_::_,_,h=>by
  obtain⟨v,r,rfl,a,b⟩:=h;simp;exact b.reverse.append (.cons a .nil)
theorem Rps.dropLast(h:Rps K H ds vs):Rps K H ds.dropLast vs.dropLast:=by
 rw[YX,YX,h.length];exact h.take _
theorem Rps.eraseIdx:∀{ds:List D}{vs:List V}(i:Nat),Rps K H ds vs->Rps K H (ds.eraseIdx i) (vs.eraseIdx i)
 |[],_,_,h=>by cases h;rfl
 |_::_,_,0,h=>by obtain⟨w,r,rfl,_,b⟩:=h;exact b
 |_::_,_,i+1,h=>by obtain⟨w,r,rfl,c,b⟩:=h;exact#[w,_,rfl,c,b.eraseIdx i]
theorem wy:∀{b:aa_}{vs:List V},vs=b.map V.int->Rps K H (b.map D.int) vs
 |[],_,e=>e
 |i::b,_,e=>by subst e;exact#[_,_,rfl,rfl,wy rfl]
inductive MO where
 |lst (xs:List D)
 |dK (aa3:List (aC×D))
 |dT (aa3:List (List aC×D))
 |ins (C:cp) (fs:List (Str×D))
abbrev Mem:=cp->Option MO
noncomputable def Mem.upd(M:Mem)(a:cp)(o:MO):Mem:=λb=>if b=a then ap o else M b
noncomputable def Mem.del(M:Mem)(a:cp):Mem:=λb=>if b=a then ca else M b
abbrev Bx.{u}{α:Sort u}(_:α):Type:=Unit
structure Wr.{u}(α:Sort u) where
 v:α
section
variable{α:Type}
noncomputable def so_:Wr (∀{α:Type},(Option α)->(α->Prop)->Prop):=#[λo f=>match o with
 |some a=>f a
 |none=>False]
abbrev so{α:Type}(o:Option α)(f:α->Prop)(_:Bx f:=()):Prop:=so_.v o f
noncomputable def s2_:Wr (∀{α:Type},(Option<|Option α)->(α->Prop)->Prop):=#[λo f=>match o with
 |some (ap a)=>f a
 |_=>False]
abbrev s2{α:Type}(o:Option (Option α))(f:α->Prop)(_:Bx f:=()):Prop:=s2_.v o f
noncomputable def s2e_:Wr (∀{α:Type},(Option<|Option α)->(α->Prop)->(Prop)->Prop):=#[λo f p=>match o with
 |some (ap a)=>f a
 |_=>p]
abbrev s2e{α:Type}(o:Option (Option α))(f:α->Prop)(p:Prop)(_:Bx f:=())(_:Bx p:=()):Prop:=s2e_.v o f p
noncomputable def oe_:Wr (∀{α:Type},(Option α)->(α->Prop)->(Prop)->Prop):=#[λo f p=>match o with
 |some a=>f a
 |none=>p]
abbrev oe{α:Type}(o:Option α)(f:α->Prop)(p:Prop)(_:Bx f:=())(_:Bx p:=()):Prop:=oe_.v o f p
noncomputable def one_:Wr (∀{α:Type},(List α)->(α->Prop)->Prop):=#[λds f=>match ds with
 |[d]=>f d
 |_=>False]
abbrev one{α:Type}(ds:List α)(f:α->Prop)(_:Bx f:=()):Prop:=one_.v ds f
noncomputable def two_:Wr (∀{α:Type},(List α)->(α->α->Prop)->Prop):=#[λds f=>match ds with
 |[d,e]=>f d e
 |_=>False]
abbrev two{α:Type}(ds:List α)(f:α->α->Prop)(_:Bx f:=()):Prop:=two_.v ds f
noncomputable def nil0_:Wr (∀{α:Type},(List α)->(Prop)->Prop):=#[λds p=>match ds with
 |[]=>p
 |_=>False]
abbrev nil0{α:Type}(ds:List α)(p:Prop)(_:Bx p:=()):Prop:=nil0_.v ds p
noncomputable def cns_:Wr (∀{α:Type},(List α)->(α->List α->Prop)->Prop):=#[λds f=>match ds with
 |d::r=>f d r
 |_=>False]
abbrev cns{α:Type}(ds:List α)(f:α->List α->Prop)(_:Bx f:=()):Prop:=cns_.v ds f
noncomputable def nilOr_:Wr (∀{α:Type},(List α)->(Prop)->(α->Prop)->Prop):=#[λds p f=>match ds with
 |[]=>p
 |[d]=>f d
 |_=>False]
abbrev nilOr{α:Type}(ds:List α)(p:Prop)(f:α->Prop)(_:Bx p:=())(_:Bx f:=()):Prop:=nilOr_.v ds p f
noncomputable def onR_:Wr ((D)->(cp->Prop)->Prop):=#[λd f=>match d with
 |.ref a=>f a
 |_=>False]
abbrev onR(d:D)(f:cp->Prop)(_:Bx f:=()):Prop:=onR_.v d f
noncomputable def onI_:Wr ((D)->(Int->Prop)->Prop):=#[λd f=>match d with
 |.int a=>f a
 |_=>False]
abbrev onI(d:D)(f:Int->Prop)(_:Bx f:=()):Prop:=onI_.v d f
noncomputable def onB_:Wr ((D)->(Bool->Prop)->Prop):=#[λd f=>match d with
 |.bl a=>f a
 |_=>False]
abbrev onB(d:D)(f:Bool->Prop)(_:Bx f:=()):Prop:=onB_.v d f
noncomputable def onS_:Wr ((D)->(Str->Prop)->Prop):=#[λd f=>match d with
 |.str a=>f a
 |_=>False]
abbrev onS(d:D)(f:Str->Prop)(_:Bx f:=()):Prop:=onS_.v d f
noncomputable def onTy_:Wr ((D)->(String->Prop)->Prop):=#[λd f=>match d with
 |.ty a=>f a
 |_=>False]
abbrev onTy(d:D)(f:String->Prop)(_:Bx f:=()):Prop:=onTy_.v d f
noncomputable def onT_:Wr ((D)->(List D->Prop)->Prop):=#[λd f=>match d with
 |.tup a=>f a
 |_=>False]
abbrev onT(d:D)(f:List D->Prop)(_:Bx f:=()):Prop:=onT_.v d f
noncomputable def onF_:Wr ((D)->(List (List aC)->List D->Prop)->Prop):=#[λd f=>match d with
 |.fd a b=>f a b
 |_=>False]
abbrev onF(d:D)(f:List (List aC)->List D->Prop)(_:Bx f:=()):Prop:=onF_.v d f
noncomputable def onN_:Wr ((D)->(Prop)->Prop):=#[λd p=>match d with
 |.non=>p
 |_=>False]
abbrev onN(d:D)(p:Prop)(_:Bx p:=()):Prop:=onN_.v d p
noncomputable def onBB_:Wr ((D)->(Prop)->(Prop)->Prop):=#[λd p q=>match d with
 |.bl true=>p
 |.bl cx=>q
 |_=>False]
abbrev Q_(d:D)(p q:Prop)(_:Bx p:=())(_:Bx q:=()):Prop:=onBB_.v d p q
noncomputable def onIST_:Wr ((D)->(Int->Prop)->(Str->Prop)->(List D->Prop)->(Prop)->Prop):=#[λd f g h p=>match d with
 |.int a=>f a
 |.str a=>g a
 |.tup a=>h a
 |_=>p]
abbrev onIST(d:D)(f:Int->Prop)(g:Str->Prop)(h:List D->Prop)(p:Prop)(_:Bx f:=())(_:Bx g:=())(_:Bx h:=())(_:Bx p:=()):Prop:=onIST_.v d f g h p
noncomputable def onSR_:Wr ((D)->(Str->Prop)->(cp->Prop)->Prop):=#[λd g f=>match d with
 |.str a=>g a
 |.ref a=>f a
 |_=>False]
abbrev onSR(d:D)(g:Str->Prop)(f:cp->Prop)(_:Bx g:=())(_:Bx f:=()):Prop:=onSR_.v d g f
noncomputable def onLR_:Wr ((D)->(List D->Prop)->(cp->Prop)->Prop):=#[λd g f=>match d with
 |.lst a=>g a
 |.ref a=>f a
 |_=>False]
abbrev Qo(d:D)(g:List D->Prop)(f:cp->Prop)(_:Bx g:=())(_:Bx f:=()):Prop:=onLR_.v d g f
noncomputable def onTM_:Wr ((D)->(List D->Prop)->(List D->Prop)->(Prop)->Prop):=#[λd f g p=>match d with
 |.tup a=>f a
 |.ml a=>g a
 |_=>p]
abbrev onTM(d:D)(f g:List D->Prop)(p:Prop)(_:Bx f:=())(_:Bx g:=())(_:Bx p:=()):Prop:=onTM_.v d f g p
noncomputable def onTe_:Wr ((D)->(List D->Prop)->(Prop)->Prop):=#[λd f p=>match d with
 |.tup a=>f a
 |_=>p]
abbrev onTe(d:D)(f:List D->Prop)(p:Prop)(_:Bx f:=())(_:Bx p:=()):Prop:=onTe_.v d f p
noncomputable def onRe_:Wr ((D)->(cp->Prop)->(Prop)->Prop):=#[λd f p=>match d with
 |.ref a=>f a
 |_=>p]
abbrev onRe(d:D)(f:cp->Prop)(p:Prop)(_:Bx f:=())(_:Bx p:=()):Prop:=onRe_.v d f p
noncomputable def mL_:Wr ((Option MO)->(List D->Prop)->Prop):=#[λm f=>match m with
 |some (.lst a)=>f a
 |_=>False]
abbrev mL(m:Option MO)(f:List D->Prop)(_:Bx f:=()):Prop:=mL_.v m f
noncomputable def mK_:Wr ((Option MO)->(List (aC×D)->Prop)->Prop):=#[λm f=>match m with
 |some (.dK a)=>f a
 |_=>False]
abbrev mK(m:Option MO)(f:List (aC×D)->Prop)(_:Bx f:=()):Prop:=mK_.v m f
noncomputable def mT_:Wr ((Option MO)->(List (List aC×D)->Prop)->Prop):=#[λm f=>match m with
 |some (.dT a)=>f a
 |_=>False]
abbrev mT(m:Option MO)(f:List (List aC×D)->Prop)(_:Bx f:=()):Prop:=mT_.v m f
noncomputable def mN_:Wr ((Option MO)->(cp->List (Str×D)->Prop)->Prop):=#[λm f=>match m with
 |some (.ins a b)=>f a b
 |_=>False]
abbrev mN(m:Option MO)(f:cp->List (Str×D)->Prop)(_:Bx f:=()):Prop:=mN_.v m f
noncomputable def mLe_:Wr ((Option MO)->(List D->Prop)->(Prop)->Prop):=#[λm f p=>match m with
 |some (.lst a)=>f a
 |_=>p]
abbrev mLe(m:Option MO)(f:List D->Prop)(p:Prop)(_:Bx f:=())(_:Bx p:=()):Prop:=mLe_.v m f p
noncomputable def mSet_:Wr ((Option MO)->(List D->Prop)->(List (aC×D)->Prop)->(List (List aC×D)->Prop)->Prop):=#[λm f g h=>match m with
 |some (.lst a)=>f a
 |some (.dK a)=>g a
 |some (.dT a)=>h a
 |_=>False]
abbrev mSet(m:Option MO)(f:List D->Prop)(g:List (aC×D)->Prop)(h:List (List aC×D)->Prop)(_:Bx f:=())(_:Bx g:=())(_:Bx h:=()):Prop:=mSet_.v m f g h
section
variable{p:Prop}
theorem vd:so (ap x) f b=f x:=rfl
theorem L4:s2 (ap<|some x) f b=f x:=rfl
theorem s2e_s:s2e (ap<|some x) f p b bp=f x:=rfl
theorem LA:oe (ap x) f p b bp=f x:=rfl
theorem QP:oe ca f p b bp=p:=rfl
theorem mz:one [x] f b=f x:=rfl
theorem two_2:two [y,z] f2 b2=f2 y z:=rfl
theorem nil_0:nil0 (α:=α) [] p bp=p:=rfl
theorem cns_c:cns (x::xs) fl bl=fl x xs:=rfl
theorem no_0:nilOr [] p f bp b=p:=rfl
theorem no_1:nilOr [x] p f bp b=f x:=rfl
theorem s2e.inv(h:s2e u f p b bp):(∃a,u=ap (ap a)/\f a)\/p:=by rcases u with _|_|a;exact .inr h;exact .inr h;exact .inl #[a,rfl,h]
theorem so.inv(h:so o f b):∃a,o=ap a/\f a:=by cases o with|none=>exact h.elim|some a=>exact#[a,rfl,h]
theorem s2.inv(h:s2 u f b):∃a,u=ap (ap a)/\f a:=by rcases u with _|_|a;exact h.elim;exact h.elim;exact#[a,rfl,h]
theorem oe.inv(h:oe o f p b bp):(∃a,o=ap a/\f a)\/o=ca/\p:=by cases o with|none=>exact .inr #[rfl,h]|some a=>exact .inl #[a,rfl,h]
theorem one.inv(h:one ds f b):∃a,ds=[a]/\f a:=by rcases ds with _|⟨a,_|_⟩;exact h.elim;exact#[a,rfl,h];trivial
theorem two.inv(h:two ds f2 b2):∃a c,ds=[a,c]/\f2 a c:=by rcases ds with _|⟨a,_|⟨c,_|_⟩⟩;exact h.elim;exact h.elim;exact#[a,c,rfl,h];trivial
theorem nil0.inv(h:nil0 ds p bp):ds=[]/\p:=by cases ds with|nil=>exact#[rfl,h]|cons=>trivial
theorem cns.inv(h:cns ds fl bl):∃a r,ds=a::r/\fl a r:=by cases ds with|nil=>exact h.elim|cons a r=>exact#[a,r,rfl,h]
theorem nilOr.inv(h:nilOr ds p f bp b):ds=[]/\p\/∃a,ds=[a]/\f a:=by rcases ds with _|⟨a,_|_⟩;exact .inl #[rfl,h];exact .inr #[a,rfl,h];trivial
end
section
variable{p:Prop}
theorem zy:onR (.ref a) fA bA=fA a:=rfl
theorem z9:onI (.int i) fI bI=fI i:=rfl
theorem uF:onB (.bl k) fB bB=fB k:=rfl
theorem onS_s:onS (.str s) fS bS=fS s:=rfl
theorem onTy_t:onTy (.ty t) fY bY=fY t:=rfl
theorem onT_t:onT (.tup l) fL bL=fL l:=rfl
theorem onF_f:onF (.fd ks l) fF bF=fF ks l:=rfl
theorem U4:onN .non p bp=p:=rfl
theorem onBB_t:Q_ (.bl true) p q bp bq=p:=rfl
theorem onBB_f:Q_ (.bl cx) p q bp bq=q:=rfl
theorem onIST_i:onIST (.int i) fI fS fL p bI bS bL bp=fI i:=rfl
theorem onIST_s:onIST (.str s) fI fS fL p bI bS bL bp=fS s:=rfl
theorem onIST_t:onIST (.tup l) fI fS fL p bI bS bL bp=fL l:=rfl
theorem onIST_r:onIST (.ref a) fI fS fL p bI bS bL bp=p:=rfl
theorem onIST_l:onIST (.lst l) fI fS fL p bI bS bL bp=p:=rfl
theorem onSR_s:onSR (.str s) fS fA bS bA=fS s:=rfl
theorem onSR_r:onSR (.ref a) fS fA bS bA=fA a:=rfl
theorem onLR_l:Qo (.lst l) fL fA bL bA=fL l:=rfl
theorem onLR_r:Qo (.ref a) fL fA bL bA=fA a:=rfl
theorem onTM_t:onTM (.tup l) fL gL p bL cL bp=fL l:=rfl
theorem onTM_m:onTM (.ml l) fL gL p bL cL bp=gL l:=rfl
theorem onTM_r:onTM (.ref a) fL gL p bL cL bp=p:=rfl
theorem onTM_l:onTM (.lst l) fL gL p bL cL bp=p:=rfl
theorem onTe_t:onTe (.tup l) fL p bL bp=fL l:=rfl
theorem onTe_r:onTe (.ref a) fL p bL bp=p:=rfl
theorem onTe_l:onTe (.lst l) fL p bL bp=p:=rfl
theorem onRe_r:onRe (.ref a) fA p bA bp=fA a:=rfl
theorem onRe_n:onRe .non fA p bA bp=p:=rfl
theorem onRe_b:onRe (.bl k) fA p bA bp=p:=rfl
theorem onRe_i:onRe (.int i) fA p bA bp=p:=rfl
theorem onRe_s:onRe (.str s) fA p bA bp=p:=rfl
theorem onRe_t:onRe (.tup l) fA p bA bp=p:=rfl
theorem onRe_l:onRe (.lst l) fA p bA bp=p:=rfl
theorem onRe_f:onRe (.fd ks l) fA p bA bp=p:=rfl
theorem onRe_m:onRe (.mt l) fA p bA bp=p:=rfl
theorem onRe_ml:onRe (.ml l) fA p bA bp=p:=rfl
theorem onR.inv(h:onR d fA bA):∃a,d=.ref a/\fA a:=by cases d<;>first|exact#[_,rfl,h]|exact h.elim
theorem onI.inv(h:onI d fI bI):∃a,d=.int a/\fI a:=by cases d<;>first|exact#[_,rfl,h]|exact h.elim
theorem onS.inv(h:onS d fS bS):∃a,d=.str a/\fS a:=by cases d<;>first|exact#[_,rfl,h]|exact h.elim
theorem onTy.inv(h:onTy d fY bY):∃a,d=.ty a/\fY a:=by cases d<;>first|exact#[_,rfl,h]|exact h.elim
theorem onT.inv(h:onT d fL bL):∃a,d=.tup a/\fL a:=by cases d<;>first|exact#[_,rfl,h]|exact h.elim
theorem onF.inv(h:onF d fF bF):∃a b,d=.fd a b/\fF a b:=by cases d<;>first|exact#[_,_,rfl,h]|exact h.elim
theorem onRe.inv(h:onRe d fA p bA bp):(∃a,d=.ref a/\fA a)\/p:=by cases d<;>first|exact .inl #[_,rfl,h]|exact .inr h
theorem onTe.inv(h:onTe d fL p bL bp):(∃a,d=.tup a/\fL a)\/p:=by cases d<;>first|exact .inl #[_,rfl,h]|exact .inr h
theorem onTM.inv(h:onTM d fL gL p bL cL bp):(∃a,d=.tup a/\fL a)\/(∃a,d=.ml a/\gL a)\/p:=by cases d<;>first|exact .inl #[_,rfl,h]|exact .inr (.inl #[_,rfl,h])|exact .inr (.inr h)
theorem onIST.inv(h:onIST d fI fS fL p bI bS bL bp):(∃a,d=.int a/\fI a)\/(∃a,d=.str a/\fS a)\/(∃a,d=.tup a/\fL a)\/p:=by cases d<;>first|exact .inl #[_,rfl,h]|exact .inr (.inl #[_,rfl,h])|exact .inr (.inr<|.inl #[_,rfl,h])|exact .inr (.inr<|.inr h)
theorem onSR.inv(h:onSR d fS fA bS bA):(∃a,d=.str a/\fS a)\/∃a,d=.ref a/\fA a:=by cases d<;>first|exact .inl #[_,rfl,h]|exact .inr #[_,rfl,h]|exact h.elim
theorem onN.inv(h:onN d p bp):d=.non/\p:=by cases d<;>first|exact#[rfl,h]|exact h.elim
end
section
variable{p:Prop}
theorem mL_l:mL (ap<|.lst l) fL bL=fL l:=rfl
theorem mK_k:mK (ap<|.dK aa3) gK bK=gK aa3:=rfl
theorem mT_t:mT (ap<|.dT tvs) hT bT=hT tvs:=rfl
theorem mN_n:mN (ap<|.ins a fs) fN bN=fN a fs:=rfl
theorem mLe_l:mLe (ap<|.lst l) fL p bL bp=fL l:=rfl
theorem mLe_k:mLe (ap<|.dK aa3) fL p bL bp=p:=rfl
theorem mLe_t:mLe (ap<|.dT tvs) fL p bL bp=p:=rfl
theorem mLe_n:mLe (ap<|.ins a fs) fL p bL bp=p:=rfl
theorem mLe_0:mLe ca fL p bL bp=p:=rfl
theorem mSet_l:mSet (ap<|.lst l) fL gK hT bL bK bT=fL l:=rfl
theorem mSet_k:mSet (ap<|.dK aa3) fL gK hT bL bK bT=gK aa3:=rfl
theorem mSet_t:mSet (ap<|.dT tvs) fL gK hT bL bK bT=hT tvs:=rfl
theorem mL.inv(h:mL m fL bL):∃a,m=ap (.lst a)/\fL a:=by rcases m with _|⟨_⟩|_|_|_<;>first|exact#[_,rfl,h]|trivial
theorem mK.inv(h:mK m gK bK):∃a,m=ap (.dK a)/\gK a:=by rcases m with _|⟨_⟩|_|_|_<;>first|exact#[_,rfl,h]|trivial
theorem mT.inv(h:mT m hT bT):∃a,m=ap (.dT a)/\hT a:=by rcases m with _|⟨_⟩|_|_|_<;>first|exact#[_,rfl,h]|trivial
theorem mLe.inv(h:mLe m fL p bL bp):(∃a,m=ap (.lst a)/\fL a)\/p:=by rcases m with _|⟨_⟩|_|_|_<;>first|exact .inl #[_,rfl,h]|exact .inr h
theorem mSet.inv(h:mSet m fL gK hT bL bK bT):(∃a,m=ap (.lst a)/\fL a)\/(∃a,m=ap (.dK a)/\gK a)\/∃a,m=ap (.dT a)/\hT a:=by rcases m with _|⟨_⟩|_|_|_<;>first|exact .inl #[_,rfl,h]|exact .inr (.inl #[_,rfl,h])|exact .inr (.inr #[_,rfl,h])|trivial
theorem mN.inv(h:mN m fN bN):∃a b,m=ap (.ins a b)/\fN a b:=by rcases m with _|⟨_⟩|_|_|_<;>first|exact#[_,_,rfl,h]|trivial
end
end
def Rkv{κ:Type}(K:Uh)(H:Hp):List (κ×D)->List (κ×V)->Prop:=V' λp q=>p.1=q.1/\Rp K H p.2 q.2
def RepO(K:Uh)(H:Hp)(a:cp):MO->Prop
 |.lst xs=>∃vs,H a=ap (.lst vs)/\Rps K H xs vs
 |.dK aa3=>∃ws,H a=ap (.dK ws)/\Rkv K H aa3 ws
 |.dT aa3=>∃ws,H a=ap (.dT ws)/\Rkv K H aa3 ws
 |.ins C fs=>∃dx ws,H a=ap (.ins C dx ws)/\Rkv K H fs ws
def RepH(K:Uh)(H:Hp)(M:Mem):Prop:=∀a o,M a=ap o->RepO K H a o
section
variable{u:HO}
@[simp] theorem Mem.upd_same:(M.upd a o) a=ap o:=by simp[Mem.upd]
theorem ae(h:b≠a):(M.upd a o) b=M b:=by simp[Mem.upd,h]
@[simp] theorem Mem.upd_upd:(M.upd a o).upd a o'=M.upd a o':=by funext c;simp[Mem.upd];split<;>rfl
@[simp] theorem Mem.upd_del:(M.upd a o).del a=M.del a:=by funext c;simp[Mem.upd,Mem.del];split<;>rfl
theorem au(h:M a=ca):M.del a=M:=by
 funext c;simp[Mem.del];simp_all
theorem aA(h:a≠b):(M.upd a o).upd b f=(M.upd b f).upd a o:=by
 funext c;simp[Mem.upd];split
 .rename_i e;rw[e,if_neg (UO h)]
 rfl
theorem Mem.ne(h:M a=ap o)(h':M b=ca):a≠b:=by intro e;simp_all
theorem Rkv.mono(i:Imm H H')(h:Rkv K H aa3 f):Rkv K H' aa3 f:=gR h λ_ _ z=>#[z.1,z.2.mono i]
theorem RepO.obj(r:RepO K H a o):∃u,H a=ap u:=by
 cases o with
 |ins C fs=>obtain⟨g,f,e,_⟩:=r;exact#[_,e]
 |_=>obtain⟨f,e,_⟩:=r;exact#[_,e]
theorem RepO.keep(r:RepO K H a o)(i:Imm H H')(e:H' a=H a):RepO K H' a o:=by
 cases o with
 |ins C fs=>obtain⟨g,f,q,z⟩:=r;exact#[g,f,e.trans q,z.mono i]
 |_=>obtain⟨f,q,z⟩:=r;exact#[f,e.trans q,z.mono i]
theorem RepH.fresh(r:RepH K H M)(h:H a=ca):M a=none:=by
 cases e:M a with
 |none=>rfl
 |some o=>obtain⟨u,q⟩:=(r a o e).obj;simp_all
def um:Option HO->Prop
 |some (.tup _)=>False
 |some (.frz _ _)=>False
 |_=>True
theorem Imm.upd(h:um (H a)):Imm H (upd H a u):=by
 refine#[λp f e=>?_,λp o v e=>?_]
 .rw[aw];exact e
  rintro rfl;rw[e]at h;exact h
 rw[aw];exact e
 rintro rfl;rw[e]at h;exact h
theorem Imm.new(h:H a=ca):Imm H (_2.upd H a u):=Imm.upd (by rw[h];trivial)
theorem RepO.loose(r:RepO K H a o):um (H a):=by
 cases o with
 |ins C fs=>obtain⟨g,f,e,_⟩:=r;rw[e];trivial
 |_=>obtain⟨f,e,_⟩:=r;rw[e];trivial
theorem RepH.new(r:RepH K H M)(h:H a=ca):RepH K (_2.upd H a u) M:=λb o e=>by
 obtain⟨v,q⟩:=(r b o e).obj;exact(r b o e).keep (Imm.new h) (aw<|aX q h)
theorem RepH.put(r:RepH K H M)(h:um (H a))(n:RepO K (_2.upd H a u) a o):RepH K (_2.upd H a u) (M.upd a o):=λb p e=>by
 by_cases f:b=a
 .subst f;rw[Mem.upd_same]at e;cases e;exact n
 .rw[ae f]at e
  exact(r b p e).keep (Imm.upd h) (aw f)
theorem RepH.keep(r:RepH K H M)(i:Imm H H')(e:∀b o,M b=ap o->H' b=H b):RepH K H' M:=λb o q=>(r b o q).keep i (e b o q)
structure Frm(M:Mem)(H:Hp)(M':Mem)(H':Hp):Prop where
 keep:∀b u,H b=ap u->M b=ca->H' b=ap u/\M' b=ca
theorem Frm.refl:Frm M H M H:=#[by lia]
theorem Frm.trans{M1 M2:Mem}(x:Frm M H M1 H1)(y:Frm M1 H1 M2 H2):Frm M H M2 H2:=#[λb u e n=>let ⟨e1,n1⟩:=x.keep b u e n;y.keep b u e1 n1]
theorem Frm.imm(f:Frm M H M' H')(r:RepH K H M):Imm H H':=by
 have g:∀b u,H b=ap u->¬um (ap u)->H' b=ap u:=λb u e n=>(f.keep b u e (by
  cases q:M b with
  |none=>rfl
  |some o=>exact absurd (by rw[<- e];exact(r b o q).loose) n)).1
 exact#[λp h e=>g p _ e (λz=>z),λp o u e=>g p _ e (λz=>z)]
theorem Frm.new(h:H a=ca):Frm M H M (_2.upd H a u):=#[λb v e n=>#[by rw[aw (by lia)];exact e,n]]
theorem Frm.put(h:H a=ca\/∃o,M a=ap o):Frm M H (M.upd a o) (_2.upd H a u):=#[λb v e n=>by
 have f:b≠a:=by
  rintro rfl
  simp_all
 exact#[by rw[_2.aw f];exact e,by rw[ae f];exact n]]
theorem Frm.del(h:∃o,M a=ap o):Frm M H (M.del a) (_2.upd H a u):=#[λb v e n=>by
 have f:b≠a:=by
  rintro rfl
  simp_all
 refine#[by rw[_2.aw f];exact e,?_]
 unfold Mem.del
 simp_all]
theorem Rp.mf(x:Rp K H d v)(r:RepH K H M)(f:Frm M H M' H'):Rp K H' d v:=x.mono (f.imm r)
theorem Rps.mf(x:Rps K H d v)(r:RepH K H M)(f:Frm M H M' H'):Rps K H' d v:=x.mono (f.imm r)
end
abbrev Dl:=List (Option D)
abbrev DK:=D->Mem->Prop
abbrev b6:=Dl->Mem->DK->Prop
abbrev fb:=Dl->Mem->(Bool->Mem->Prop)->Prop
abbrev eE:=Dl->Mem->(List D->Mem->Prop)->Prop
structure RepS(K:Uh)(H:Hp)(U:Dl)(Z:St):Prop where
 len:U.length=Z.length
 get:∀(i:Nat)(d:D),U[i]?=ap (ap d)->∃v,Z[i]?=ap (ap v)/\Rp K H d v
theorem RepS.mono(r:RepS K H U Z)(i:Imm H H'):RepS K H' U Z:=
 #[r.len,λj d e=>by obtain⟨v,b,f⟩:=r.get j d e;exact#[v,b,f.mono i]]
theorem RepS.set(r:RepS K H U Z)(h:Rp K H d v):RepS K H (U.set i<|some d) (Z.set i<|some v):=by
 refine#[by simp[r.len],λj e q=>?_]
 rw[XN]at q ⊢
 by_cases b:i=j
 .rw[if_pos b]at q ⊢
  by_cases f:i<U.length
  .rw[if_pos (by rw[<- r.len];assumption)]
   simp_all
  simp_all
 rw[if_neg b]at q ⊢;exact r.get j e q
structure Bd where
 p:Mem->Hp->Prop
 go:∀{M M':Mem}{H H':Hp},p M H->Frm M H M' H'->p M' H'
noncomputable def Bd.of(M:Mem)(H:Hp):Bd:=#[λM' H'=>Frm M H M' H',λa b=>a.trans b]
structure SR(X:Cx)(B:Bd)(U:Dl)(M:Mem)(Z:St)(H:Hp):Prop where
 i0:B.p M H
 rh:RepH X.K H M
 rs:RepS X.K H U Z
theorem SR.go(s:SR X B U M Z H)(rh:RepH X.K H' M')(i:Frm M H M' H'):SR X B U M' Z H':=#[B.go s.i0 i,rh,s.rs.mono<|i.imm s.rh]
def Up(K:Uh)(M:Mem)(H:Hp)(QQ:DK)(Q:VK):Prop:=∀d M',QQ d M'->∀v H',RepH K H' M'->Frm M H M' H'->Rp K H' d v->Q v H'
def UpT(K:Uh)(M:Mem)(H:Hp)(QQ:Bool->Mem->Prop)(Q:Bool->Hp->Prop):Prop:=∀b M',QQ b M'->∀H',RepH K H' M'->Frm M H M' H'->Q b H'
def UpA(K:Uh)(M:Mem)(H:Hp)(QQ:List D->Mem->Prop)(Q:List V->Hp->Prop):Prop:=∀ds M',QQ ds M'->∀vs H',RepH K H' M'->Frm M H M' H'->Rps K H' ds vs->Q vs H'
theorem Up.go{M1:Mem}(u:Up K M H QQ Q)(i:Frm M H M1 H1):Up K M1 H1 QQ Q:=λd M' q v H' a b=>u d M' q v H' a (i.trans b)
theorem UpT.go{M1:Mem}(u:UpT K M H QQ Q)(i:Frm M H M1 H1):UpT K M1 H1 QQ Q:=λd M' q H' a b=>u d M' q H' a (i.trans b)
inductive liftE(X:Cx)(B:Bd)(T:b6)(Z:St)(H:Hp)(Q:VK):Prop
 |mk (U:Dl) (M:Mem) (QQ:DK) (s:SR X B U M Z H) (h:T U M QQ) (u:Up X.K M H QQ Q):liftE X B T Z H Q
inductive liftT(X:Cx)(B:Bd)(T:fb)(Z:St)(H:Hp)(Q:Bool->Hp->Prop):Prop
 |mk (U:Dl) (M:Mem) (QQ:Bool->Mem->Prop) (s:SR X B U M Z H) (h:T U M QQ) (u:UpT X.K M H QQ Q):liftT X B T Z H Q
inductive liftA(X:Cx)(B:Bd)(T:eE)(Z:St)(H:Hp)(Q:List V->Hp->Prop):Prop
 |mk (U:Dl) (M:Mem) (QQ:List D->Mem->Prop) (s:SR X B U M Z H) (h:T U M QQ) (u:UpA X.K M H QQ Q):liftA X B T Z H Q
def DE(X:Cx)(B:Bd)(e:eT)(T:b6):Prop:=PE X e (liftE X B T)
def DT(X:Cx)(B:Bd)(e:eT)(T:fb):Prop:=PT X e (liftT X B T)
def DA(X:Cx)(B:Bd)(es:abc)(T:eE):Prop:=PA X es (liftA X B T)
theorem aS(h:PE X e t)(w:∀Z H Q,t' Z H Q->t Z H Q):PE X e t':=λb s Z H Q I q=>h _ s Z H Q I (w Z H Q q)
theorem tB(h:PT X e t)(w:∀Z H Q,t' Z H Q->t Z H Q):PT X e t':=λb s Z H Q I q=>h _ s Z H Q I (w Z H Q q)
theorem yj{e:abc}(h:PA X e t)(w:∀Z H Q,t' Z H Q->t Z H Q):PA X e t':=λpos b s Z H Q I q=>h _ _ s Z H Q I (w Z H Q q)
theorem ce{e:mu}(h:PS X e t)(w:∀D Z H,t' D Z H->t D Z H):PS X e t':=λb s Z H D I q=>h _ s Z H D I (w D Z H q)
theorem mD{e:abd}(h:AM X e t)(w:∀D Z H,t' D Z H->t D Z H):AM X e t':=λb s Z H D I q=>h _ s Z H D I (w D Z H q)
def ac(i:Nat):b6:=λU M Q=>s2 (U[i]?) λd=>Q d M
def dC(d:D):b6:=λ_ M Q=>Q d M
section
variable{a:eT}
theorem QM(j:X.N[i]?=ap x)(l:R7 X.env.scope x)(m:(x==("__debug__":Str))=false:=by decide)(hcd:(x==("__classdict__":Str))=false:=by decide):DE X B (.Name x pos) (ac i):=by
 refine aS (Qx j l m hcd) ?_
 rintro Z H Q ⟨U,M,QQ,s,h,u⟩
 unfold ac at h;obtain⟨d,e,h⟩:=h.inv;obtain⟨v,g,f⟩:=s.rs.get i d e;exact#[v,g,u d M h v H s.rh Frm.refl f]
theorem Gj(h:PE X e (tC v))(r:∀H,Rp X.K H d v):DE X B e (dC d):=by
 refine aS h ?_
 rintro Z H Q ⟨U,M,QQ,s,h,u⟩
 exact u d M h v H s.rh Frm.refl (r H)
theorem NX{i j pos}:DE X B (.Constant (.int i) j pos) (dC<|.int i):=Gj PD λ_=>rfl
theorem RE{i j pos}:DE X B (.Constant (.bool i) j pos) (dC<|.bl i):=Gj Sz λ_=>rfl
theorem Qi{j pos}:DE X B (.Constant .none j pos) (dC .non):=Gj PB λ_=>rfl
theorem Qs{i j pos}:DE X B (.Constant (.str i) j pos) (dC<|.str i):=Gj I0 λ_=>rfl
abbrev g7:=D->D->Mem->DK->Prop
inductive liftR2(X:Cx)(r:g7)(x y:V)(H:Hp)(Q:VK):Prop
 |mk (d1 d2:D) (M:Mem) (QQ:DK) (rh:RepH X.K H M) (r1:Rp X.K H d1 x) (r2:Rp X.K H d2 y) (h:r d1 d2 M QQ) (u:Up X.K M H QQ Q):liftR2 X r x y H Q
def ah(r:g7)(ta tb:b6):b6:=λU M Q=>ta U M λx M1=>tb U M1 λy M2=>r x y M2 Q
theorem m3(h:liftE X B (ah r ta tb) Z H Q):RM (liftR2 X r) (liftE X B ta) (liftE X B tb) Z H Q:=by
 obtain⟨U,M,QQ,s,h,u⟩:=h;exact#[U,M,_,s,h,λx M1 l v1 H1 f i1 m=>#[U,M1,_,s.go f i1,l,λy M2 i v2 H2 g i2 j=>#[x,y,M2,QQ,g,m.mf f i2,j,i,u.go<|i1.trans i2]]]
theorem gq(g:cQ X (g4 f) (liftR2 X r))(j:DE X B a ta)(i:DE X B b tb):DE X B (.BinOp a f b pos) (ah r ta tb):=aS (TN g j i) λ_ _ _ h=>m3 h
theorem Gc(i:cQ X (hG f) (liftR2 X r))(j:DE X B a ta)(g:DE X B b tb)(l:Z_ f b=cx):DE X B (.Compare a [f] [b] pos) (ah r ta tb):=aS (Jx i j g l) λ_ _ _ h=>m3 h
theorem MI(j:IxR X (liftR2 X r))(i:DE X B a ta)(f:DE X B b tb)(g:BH b):DE X B (.Subscript a b pos) (ah r ta tb):=aS (SZ j i f g) λ_ _ _ h=>m3 h
def al(t:b6):fb:=λU M Q=>t U M λd M'=>onB d λk=>Q k M'
theorem eh(n:cQ X (hG f) (liftR2 X r))(o:DE X B a ta)(m:DE X B b tb)(w:Z_ f b=cx):DT X B (.Compare a [f] [b] pos) (al<|ah r ta tb):=by
 refine tB (Jt n o m w) ?_
 rintro Z H Q ⟨U,M,QQ,s,h,u⟩
 have l:liftE X B (ah r ta tb) Z H (λx H'=>∃k,x=.bl k/\Q k H'):=by
  refine#[U,M,_,s,h,λd M' q v H' j i g=>?_];cases d with
  |bl k=>exact#[k,g,u k M' q H' j i]
  |_=>exact q.elim
 exact m3 l
def E7(M:Mem):D->Option Bool
 |.non=>ap cx
 |.bl b=>ap b
 |.int i=>ap (i != 0)
 |.str y=>if y.length<=sizeLine then ap ((y.length:Int) != 0) else ca
 |.tup xs=>ap (!xs.isEmpty)
 |.lst xs=>ap (!xs.isEmpty)
 |.ref a=>match M a with
  |some (.lst xs)=>ap (!xs.isEmpty)
  |some (.dK xs)=>ap (!xs.isEmpty)
  |_=>ca
 |_=>ca
def cm(t:b6):fb:=λU M Q=>t U M λd M'=>so (E7 M' d) λk=>Q k M'
theorem gD(r:Rps K H ds vs):vs.isEmpty=ds.isEmpty:=by
 have:=r.length;cases ds<;>cases vs<;>simp_all
theorem OQ(l:RepH K H M)(r:Rp K H d v)(e:E7 M d=ap k):O0 K v H k:=by
 cases d with
 |non=>cases r;cases e;rfl
 |bl b=>cases r;cases e;rfl
 |int i=>cases r;cases e;rfl
 |str y=>
  cases r;simp only[E7]at e
  split at e
  .cases e;trivial
  cases e
 |tup g=>
  obtain⟨p,f,rfl,t,r⟩:=r;cases e;exact .inr (.inl #[f,t.sq,by rw[gD r]])
 |lst g=>
  obtain⟨p,f,rfl,t,r⟩:=r;cases e;exact .inl #[f,t.sq,by rw[gD r]]
 |ref a=>
  cases r;simp[E7]at e
  split at e
  .rename_i g q
   obtain⟨f,j,h⟩:=l _ _ q;cases e;exact .inl #[f,SqL.of j,by rw[gD h]]
  .rename_i g q
   obtain⟨f,j,h⟩:=l _ _ q;cases e;refine .inr (.inr #[f,j,?_]);cases h<;>rfl
  cases e
 |_=>cases e
theorem Qj(h:DE X B e ta)(l:∀f,isTrue e X.env f=(do let v <- f;L' e.pos;q0 [v] (truthy v)):=by intro _;rfl):DT X B e (cm ta):=by
 refine tB (Ih h l) ?_
 rintro Z H Q ⟨U,M,QQ,s,h,u⟩
 refine#[U,M,_,s,h,λd M' q v H' g i j=>?_];obtain⟨k,e,q⟩:=q.inv;exact#[k,OQ g j e,u k M' q H' g i]
def fU(t:fb):fb:=λU M Q=>t U M λc M1=>Q (!c) M1
theorem P3(g:DT X B a f):DT X B (.UnaryOp .Not a pos) (fU f):=by
 refine tB (P0 g) ?_
 rintro Z H Q ⟨U,M,QQ,s,h,u⟩
 exact#[U,M,_,s,h,λc=>u _]
end
section
variable{a:eT}
def DW(X:Cx)(B:Bd)(e:eT)(T:fb):Prop:=PW X e (liftT X B T)
theorem U6(h:DW X B e T):DT X B e T:=U5 h
theorem Cy(h:PW X e t)(w:∀Z H Q,t' Z H Q->t Z H Q):PW X e t':=λg f s Z H Q I q=>h g _ s Z H Q I (w Z H Q q)
def kZ(t u:fb):fb:=λU M Q=>t U M λc M1=>if c=true then u U M1 Q else Q cx M1
def P9(t u:fb):fb:=λU M Q=>t U M λc M1=>if c=true then Q true M1 else u U M1 Q
theorem KG(f:DT X B a tA):DW X B (.BoolOp .And [a] pos) tA:=Lg f
theorem QJ(f:DT X B a tA):DW X B (.BoolOp .Or [a] pos) tA:=P1 f
theorem Pq(j:DT X B a tA)(g:DW X B (.BoolOp .And (b::rest) pos) tB'):DW X B (.BoolOp .And (a::b::rest) pos) (kZ tA tB'):=by
 refine Cy (Pn j g) ?_
 rintro Z H Q ⟨U,M,QQ,s,h,u⟩
 refine#[U,M,_,s,h,λc M' q H' f i=>?_];cases c with
 |true=>exact#[U,M',QQ,s.go f i,q,u.go i]
 |false=>exact u _ M' q H' f i
theorem TV(j:DT X B a tA)(g:DW X B (.BoolOp .Or (b::rest) pos) tB'):DW X B (.BoolOp .Or (a::b::rest) pos) (P9 tA tB'):=by
 refine Cy (Ss j g) ?_
 rintro Z H Q ⟨U,M,QQ,s,h,u⟩
 refine#[U,M,_,s,h,λc M' q H' f i=>?_];cases c with
 |false=>exact#[U,M',QQ,s.go f i,q,u.go i]
 |true=>exact u _ M' q H' f i
def ww(ta tb:b6):b6:=λU M Q=>ta U M λx M1=>Q_ x (tb U M1 Q) (Q (.bl cx) M1)
def LF(ta:b6):b6:=λU M Q=>ta U M λx M1=>onB x λc=>Q (.bl<|!c) M1
theorem PH{op}(h:DE X B a t):DE X B (.BoolOp op [a] pos) t:=NN h
theorem NP(j:DE X B a ta)(g:DE X B (.BoolOp .And (b::rest) pos) tb):DE X B (.BoolOp .And (a::b::rest) pos) (ww ta tb):=by
 refine aS (OH j g) ?_
 rintro Z H Q ⟨U,M,QQ,s,h,u⟩
 refine#[U,M,_,s,h,λd M' q v H' f i r=>?_];cases d with
 |bl c=>
  cases c with
  |true=>exact#[_,r,by exact#[U,M',QQ,s.go f i,q,u.go i]]
  |false=>exact#[_,r,by exact u _ M' q _ H' f i rfl]
 |_=>exact q.elim
theorem O_(g:DE X B a ta):DE X B (.UnaryOp .Not a pos) (LF ta):=by
 refine aS (Qr g) ?_
 rintro Z H Q ⟨U,M,QQ,s,h,u⟩
 refine#[U,M,_,s,h,λd M' q v H' f i r=>?_];cases d with
 |bl c=>exact#[c,r,u _ M' q _ H' f i rfl]
 |_=>exact q.elim
def oH(t:fb)(ta tb:b6):b6:=λU M Q=>t U M λc M1=>if c=true then ta U M1 Q else tb U M1 Q
theorem Ej(g:DT X B c tA)(l:DE X B a ta)(j:DE X B b tb):DE X B (.IfExp c a b pos) (oH tA ta tb):=by
 refine aS (G7 g l j) ?_
 rintro Z H Q ⟨U,M,QQ,s,h,u⟩
 refine#[U,M,_,s,h,λc M' q H' f i=>?_];cases c with
 |_=>exact#[U,M',QQ,s.go f i,q,u.go i]
def ag:eE:=λ_ M Q=>Q [] M
def aa(ta:b6)(tr:eE):eE:=λU M Q=>ta U M λx M1=>tr U M1 λf M2=>Q (x::f) M2
theorem OU:DA X B [] ag:=by
 refine yj Fy ?_
 rintro Z H Q ⟨U,M,QQ,s,h,u⟩
 exact u [] M h [] H s.rh Frm.refl .nil
theorem IZ(o:DE X B e te)(q:DA X B es t)(n:ee (e::es) X.env=(cx,ff e X.env)::ee es X.env:=by rfl):DA X B (e::es) (aa te t):=by
 refine yj (BM o q n) ?_
 rintro Z H Q ⟨U,M,QQ,s,h,u⟩
 exact#[U,M,_,s,h,λx M1 l v1 H1 f i1 m=>#[U,M1,_,s.go f i1,l,λv M2 i v2 H2 g i2 j=>u _ M2 i _ H2 g (i1.trans i2) (.cons (m.mf f i2) j)]]
def aU(t:eE):b6:=λU M Q=>t U M λf M1=>f.length<=sizeLine/\Q (.tup f) M1
def bv(t:eE):b6:=λU M Q=>t U M λf M1=>f.length<=sizeLine/\∀p,M1 p=ca->Q (.ref p) (M1.upd p<|.lst f)
theorem N_{x1}(h:DA X B es t):DE X B (.Tuple es x1 pos) (aU t):=by
 refine aS (Ny h) ?_
 rintro Z H Q ⟨U,M,QQ,s,h,u⟩
 exact#[U,M,_,s,h,λl M1 i v1 H1 f i1 j=>#[by rw[<- j.length];exact i.1,λp g=>u _ M1 i.2 _ _ (f.new g) (i1.trans<|Frm.new g) #[p,v1,rfl,upd_same,j.mono<|Imm.new g]]]
theorem OR(h:DA X B es t):DE X B (.List es pos) (bv t):=by
 refine aS (QF h) ?_
 rintro Z H Q ⟨U,M,QQ,s,h,u⟩
 exact#[U,M,_,s,h,λxs M1 h1 v1 H1 rh1 i1 r1=>#[by rw[<- r1.length];exact h1.1,λp hp=>u _ _ (h1.2 p<|rh1.fresh hp) _ _ (rh1.put (by rw[hp];trivial) #[v1,upd_same,r1.mono<|Imm.new hp]) (i1.trans<|Frm.put<|.inl hp) rfl]]
theorem Inv.freeze(I:Inv X g Z H s)(h:H p=ap (.lst vs)):∃o,Inv X g Z (upd H p<|.frz o<|.lst vs) s:=by
 obtain⟨i,n,r,e,z⟩:=I.lst h;have ne:∀{b:cp}{u:Option HO},H b=u->u≠ap (.lst vs)->b≠p:=λ{b u} q A z=>by subst z;rw[h]at q;exact A q.symm
 refine#[{ cls:=.type "list",data:=.seq i.toArray n },I.ok,I.os,I.bare,#[I.base.keep,I.base.slot,λb o q C E=>?_,I.base.there,λb m q=>?_,λb o u q=>?_,λb G q=>?_],I.loc,I.cell,?_,λx c q=>?_,λJ F=>?_,λb o q=>?_,I.len]
 .have f:=I.base.free b o q C E
  rw[aw (ne f<|by simp)];exact f
 .have f:=I.base.tups b m q
  rw[aw (ne f<|by simp)];exact f
 .have f:=I.base.frzs b o u q
  rw[aw (ne f<|by simp)];exact f
 .obtain⟨more,f⟩:=I.base.tbls b G q
  exact#[more,by rw[aw (ne f<|by simp)];exact f]
 .rw[aw (ne I.free<|by simp)];exact I.free
 .have f:=I.freeC x c q
  rw[aw (ne f<|by simp)];exact f
 .obtain⟨v,j,w⟩:=I.pin J F
  exact#[v,by rw[aw (ne j<|by simp)];exact j,w]
 .by_cases l:b=p
  .subst l
   rw[upd_same]at q;cases q;refine#[e,?_];exact#[z,i,n,r,e]
  .rw[aw l]at q
   refine (I.hok b o q).stay (λ_ _ _ y=>y) (λc y=>?_) λc m y=>?_
   .rw[aw (ne y<|by simp)];exact y
   .rw[aw (ne y<|by simp)];exact y
def frz(d:D)(M:Mem)(Q:DK):Prop:=onRe d (λa=>mLe (M a) (λf=>Q (.lst f) (M.del a)) (Q d M)) (Q d M)
def ao(t:b6):b6:=λU M Q=>t U M λd M'=>frz d M' Q
theorem RepH.freeze{vs:List V}{o:Obj}(r:RepH K H M)(h:H p=ap (.lst vs)):RepH K (upd H p<|.frz o<|.lst vs) (M.del p):=λb u e=>by
 unfold Mem.del at e
 split at e
 .cases e
 rename_i hb
 exact(r b u e).keep (Imm.upd<|by rw[h];trivial) (aw hb)
theorem QX(h:DE X B e te):DE X B e (ao te):=by
 rintro l s Z H Q I ⟨U,M,QQ,x,y,u⟩
 refine bu (h _ s Z H (λv H'=>∃d M',RepH _ H' M'/\Frm M H M' H'/\Rp _ H' d v/\frz d M' QQ) I #[U,M,_,x,y,λd M' q v H' f i r=>#[d,M',f,i,r,q]]) ?_
 rintro w A ⟨v,H',I',j,d,M',f,i,r,q⟩
 unfold frz at q;rcases q.inv with⟨a,rfl,q⟩|q
 .rcases q.inv with⟨z,e,q⟩|q
  .obtain⟨n,g,m⟩:=f _ _ e
   obtain⟨o,I2⟩:=Inv.freeze I' g;exact#[v,_,I2,j,u _ _ q v _ (f.freeze g) (i.trans<|Frm.del #[_,e]) #[a,n,r,#[o,upd_same],m.mono<|Imm.upd<|by rw[g];trivial]]
  exact#[v,H',I',j,u _ _ q v H' f i r]
 exact#[v,H',I',j,u _ _ q v H' f i r]
end
def cC(M:Mem):D->Option (List D)
 |.lst xs=>ap xs
 |.ref a=>match M a with
  |some (.lst xs)=>ap xs
  |_=>ca
 |_=>ca
def aQ(M:Mem):D->Option (List D)
 |.tup xs=>ap xs
 |.lst xs=>ap xs
 |.mt xs=>ap xs
 |.ml xs=>ap xs
 |.ref a=>match M a with
  |some (.lst xs)=>ap xs
  |_=>ca
 |_=>ca
theorem da(i:RepH K H M)(r:Rp K H d v)(e:cC M d=ap xs):∃p vs,v=.ref p/\Rd H p (.lst vs)/\Rps K H xs vs:=by
 cases d with
 |lst b=>
  cases e;obtain⟨p,vs,rfl,⟨o,h⟩,r⟩:=r;exact#[p,vs,rfl,.inr #[o,h],r]
 |ref a=>
  simp[cC]at e
  split at e
  .rename_i b q
   cases e;obtain⟨vs,g,f⟩:=i _ _ q;exact#[a,vs,r,.inl g,f]
  cases e
 |_=>cases e
theorem jk(i:RepH K H M)(r:Rp K H d v)(e:aQ M d=ap xs):∃p vs,v=.ref p/\(SqL K H p vs\/kI K H p vs)/\Rps K H xs vs:=by
 cases d with
 |tup b=>
  cases e;obtain⟨p,vs,rfl,h,r⟩:=r;exact#[p,vs,rfl,.inr h.sq,r]
 |lst b=>
  cases e;obtain⟨p,vs,rfl,h,r⟩:=r;exact#[p,vs,rfl,.inl h.sq,r]
 |mt b=>
  cases e;obtain⟨p,vs,rfl,h,r⟩:=r;exact#[p,vs,rfl,.inr h.sq,r]
 |ml b=>
  cases e;obtain⟨p,vs,rfl,h,r⟩:=r;exact#[p,vs,rfl,.inl h.sq,r]
 |ref a=>
  simp[aQ]at e
  split at e
  .rename_i b q
   cases e;obtain⟨vs,g,f⟩:=i _ _ q;exact#[a,vs,r,.inl (SqL.of g),f]
  cases e
 |_=>cases e
theorem IS:cQ X (g4 .Add) (λx y H Q=>∃l b xs zs,x=.ref l/\y=.ref b/\Rd H l (.lst xs)/\Rd H b (.lst zs)/\xs.length+zs.length<=sizeLine/\∀p,H p=ca->Q (.ref p) (upd H p<|.lst (xs++zs))):=by
 rintro i s Z H x y v u Q I A w ⟨l,b,xs,zs,rfl,rfl,o,E,F,q⟩
 cases A;cases w;obtain⟨z,g,n,r,e⟩:=o.ok I.hok;obtain⟨L,f,J,h,j⟩:=E.ok I.hok;have G:=r.length;have C:=h.length;refine PySem.P.add_list e j ?_ (by simp_all)
 have m:g.toArray++f.toArray=(g++f).toArray:=by simp
 rw[m];exact#[.ref _,_,I.lnew (r.append h) (by rw[UG];lia),rfl,q _ I.fresh]
def ba:g7:=λx y M Q=>onIST x (λi=>onI y λj=>Q (.int (i+j)) M) (λa=>onS y λb=>a.length+b.length<=sizeLine/\Q (.str (a++b)) M) (λxs=>onT y λf=>xs.length+f.length<=sizeLine/\Q (.tup (xs++f)) M) (so (cC M x) λxs=>so (cC M y) λf=>xs.length+f.length<=sizeLine/\∀p,M p=ca->Q (.ref p) (M.upd p<|.lst (xs++f)))
theorem Jb:cQ X (g4 .Add) (liftR2 X ba):=by
 rintro aa1 s Z H x y v u Q I rx ry ⟨d1,d2,M,QQ,rh,r1,r2,h,up⟩
 unfold ba at h
 replace h:=h.inv
 rcases h with⟨i,rfl,h⟩|⟨a,rfl,h⟩|⟨xs,rfl,h⟩|h
 .obtain⟨_,rfl,h⟩:=h.inv
  cases r1;cases r2;exact NE _ s Z H _ _ v u Q I rx ry #[_,_,rfl,rfl,up _ M h _ H rh Frm.refl rfl]
 .obtain⟨_,rfl,h⟩:=h.inv
  cases r1;cases r2;exact xF _ s Z H _ _ v u Q I rx ry #[_,_,rfl,rfl,h.1,up _ M h.2 _ H rh Frm.refl rfl]
 .obtain⟨_,rfl,h⟩:=h.inv
  obtain⟨p,vs,rfl,t1,r1⟩:=r1;obtain⟨p',vs',rfl,t2,r2⟩:=r2;have l1:=r1.length;have l2:=r2.length;have r12:=r1.append r2
  by_cases hx:vs=[]
  .subst hx
   exact FN _ s Z H _ _ v u Q I rx ry #[p,p',_,rfl,rfl,t1.sq,t2.sq,(up _ M h.2 _ H rh Frm.refl #[p',_,rfl,t2,r12])]
  refine Lv _ s Z H _ _ v u Q I rx ry #[p,p',vs,_,rfl,rfl,t1.sq,t2.sq,hx,by lia,λe=>?_,λ_ q hq=>?_]
  .subst e
   rw[U9]at r12;exact up _ M h.2 _ H rh Frm.refl #[p,vs,rfl,t1,r12]
  exact up _ M h.2 _ _ (rh.new hq) (Frm.new hq) #[q,_,rfl,upd_same,r12.mono<|Imm.new hq]
 obtain⟨xs,e1,h⟩:=h.inv;obtain⟨ys,e2,h⟩:=h.inv;obtain⟨p,vs,rfl,t1,r1⟩:=da rh r1 e1;obtain⟨p',vs',rfl,t2,r2⟩:=da rh r2 e2;have l1:=r1.length;have l2:=r2.length;exact IS _ s Z H _ _ v u Q I rx ry #[p,p',vs,_,rfl,rfl,t1,t2,by lia,λq hq=>up _ _ (h.2 q<|rh.fresh hq) _ _ (rh.put (by rw[hq];trivial) #[_,upd_same,(r1.append r2).mono<|Imm.new hq]) (Frm.put<|.inl hq) rfl]
def oI(C:Int->Int->Prop)(g:Int->Int->D):g7:=λx y M Q=>onI x λi=>onI y λj=>C i j/\Q (g i j) M
theorem Go(h:cQ X f (rI C g))(e:∀i j K H,Rp K H (g' i j) (g i j)):cQ X f (liftR2 X<|oI C g'):=by
 rintro l s Z H x y v u Q I w o ⟨E,A,M,QQ,z,q,m,b,n⟩
 unfold oI at b
 replace b:=b.inv;obtain⟨_,rfl,b⟩:=b
 replace b:=b.inv;obtain⟨_,rfl,b⟩:=b
 cases q;cases m;exact h _ s Z H _ _ v u Q I w o #[_,_,rfl,rfl,b.1,n _ M b.2 _ H z Frm.refl<|e _ _ _ _]
def lE(g:Int->Int->D):g7:=λx y M Q=>onI x λi=>onI y λj=>Q (g i j) M
theorem kE(h:cQ X f (Ec g))(e:∀i j K H,Rp K H (g' i j) (g i j)):cQ X f (liftR2 X<|lE g'):=by
 rintro l s Z H x y v u Q I w o ⟨C,A,M,QQ,z,q,m,b,n⟩
 unfold lE at b
 replace b:=b.inv;obtain⟨_,rfl,b⟩:=b
 replace b:=b.inv;obtain⟨_,rfl,b⟩:=b
 cases q;cases m;exact h _ s Z H _ _ v u Q I w o #[_,_,rfl,rfl,n _ M b _ H z Frm.refl<|e _ _ _ _]
abbrev pA:g7:=lE λi j=>.int (i-j)
theorem IK:cQ X (g4 .Sub) (liftR2 X pA):=kE Oa λ_ _ _ _=>rfl
abbrev gb:g7:=oI (λ_ j=>0<j) λi j=>.int (i % j)
theorem J9:cQ X (g4 .Mod) (liftR2 X gb):=Go QB λ_ _ _ _=>rfl
def MB(_ j:Int):Prop:=0<j/\j<2 ^ 200
theorem Iq:cQ X (g4 .FloorDiv) (rI MB λi j=>.int (i / j)):=by
 rintro f s Z H x y v u Q I m l ⟨i,j,rfl,rfl,g,q⟩
 obtain⟨o,n⟩:=g;have h:j.toNat=j:=by lia
 refine Io ?_ (by lia) _ s Z H _ _ v u Q I m l #[i,j,rfl,rfl,h.symm,q]
 have b:j.toNat<2 ^ 200:=by
  simp_all
 have:=(Nat.log2_lt<|by lia).mpr b
 lia
abbrev wg:g7:=oI MB λi j=>.int (i / j)
theorem FT:cQ X (g4 .FloorDiv) (liftR2 X wg):=Go Iq λ_ _ _ _=>rfl
abbrev OV:g7:=oI IU λi j=>.int (i ^ j.toNat)
theorem KC:cQ X (g4 .Pow) (liftR2 X OV):=Go PU λ_ _ _ _=>rfl
abbrev Tn:g7:=lE λi j=>.int (Builtin.bitXor i j)
theorem Je:cQ X (g4 .BitXor) (liftR2 X Tn):=kE Qv λ_ _ _ _=>rfl
abbrev Ig:g7:=lE λi j=>.int (V0 i j)
theorem Kl:cQ X (g4 .BitAnd) (liftR2 X Ig):=kE Ql λ_ _ _ _=>rfl
abbrev oOr:g7:=lE λi j=>.int (Xu i j)
theorem QG:cQ X (g4 .BitOr) (liftR2 X oOr):=kE U1 λ_ _ _ _=>rfl
abbrev Ru:g7:=oI IU λi j=>.int (i*2 ^ j.toNat)
theorem J_:cQ X (g4 .LShift) (liftR2 X Ru):=Go NF λ_ _ _ _=>rfl
abbrev S6:g7:=oI (λ_ j=>0<=j) λi j=>.int (i / 2 ^ j.toNat)
theorem JX:cQ X (g4 .RShift) (liftR2 X S6):=Go Qa λ_ _ _ _=>rfl
abbrev E6:g7:=lE λi j=>.bl (decide (i<j))
theorem OT:cQ X (hG .Lt) (liftR2 X E6):=kE RY λ_ _ _ _=>rfl
abbrev oLe:g7:=lE λi j=>.bl (decide (i<=j))
theorem Og:cQ X (hG .LtE) (liftR2 X oLe):=kE Te λ_ _ _ _=>rfl
abbrev K_:g7:=lE λi j=>.bl (decide (j<i))
theorem Py:cQ X (hG .Gt) (liftR2 X K_):=kE T0 λ_ _ _ _=>rfl
abbrev oGe:g7:=lE λi j=>.bl (decide (j<=i))
theorem NI:cQ X (hG .GtE) (liftR2 X oGe):=kE SA λ_ _ _ _=>rfl
theorem G_:∀(k:Nat)(aa4:Array Nat),(UI k (Tw [c])).foldl (·++·) aa4=aa4++Wi k c
 |0,aa4=>by simp
 |k+1,aa4=>by
  rw[VR,VD,G_ k _];apply Array.ext';simp[VR]
theorem G1:cQ X (g4 .Mult) (λx y H Q=>∃c k,x=.str #[(Tw [c])]/\y=.int k/\1<=k/\k<=1000/\Q (.str #[Wi k.toNat c]) H):=by
 intro i s Z H x y v u Q I m l h;obtain⟨c,k,rfl,rfl,w,o,q⟩:=h;obtain⟨t,rfl⟩:=m;obtain⟨z,rfl⟩:=l;have b:(#[(Tw [c])]:Str).length=1:=rfl;have n:sizeLine=16777216:=rfl;refine PySem.P.mul_str ?_ ?_ ?_ ?_
 .rw[decide_eq_false (by lia),decide_eq_false (by lia)];rfl
 .intro _ _ j
  rw[b]at j;have:(1:Int)<=(2 ^ 63-1) / k:=Int.le_ediv_of_mul_le (by lia) (by lia)
  lia
 .intro _ _
  rw[b];exact decide_eq_false (by lia)
 .rw[if_neg (by lia)]
  by_cases g:k=1
  .subst g
   exact#[.str #[(Tw [c])],H,I,#[_,rfl],q]
  .rw[if_neg (by simp[b,g])]
   have f:(UI k.toNat (Tw [c])).foldl (·++·) (Tw [])=Wi k.toNat c:=by rw[G_];simp
   refine#[?_,.str _,H,I.tok _,#[_,rfl],by rw[f];exact q]
   show ((UI k.toNat (Tw [c])).foldl (·++·) (Tw [])).size<=sizeLine;rw[f];simp;lia
def jg:g7:=λx y M Q=>onI y λk=>onIST x (λi=>CMul i k/\Q (.int (i*k)) M) (λz=>one z.cps.toList λc=>1<=k/\k<=1000/\Q (.str #[Wi k.toNat c]) M) (λxs=>xs≠[]/\0<=k/\k<=1000/\xs.length<=1000/\Q (.tup (UI k.toNat xs).flatten) M) False
theorem Rps.rep(h:Rps K H ds vs):∀k:Nat,Rps K H (UI k ds).flatten (UI k vs).flatten
 |0=>rfl
 |k+1=>by
  exact h.append (Rps.rep h k)
theorem J3:cQ X (g4 .Mult) (liftR2 X jg):=by
 rintro E s Z H x y v u Q I n A ⟨P,Y,M,QQ,j,f,m,h,g⟩
 unfold jg at h;obtain⟨k,rfl,h⟩:=h.inv;cases P with
 |int i=>
  cases f;cases m;exact Nz _ s Z H _ _ v u Q I n A #[_,_,rfl,rfl,h.1,g _ M h.2 _ H j Frm.refl rfl]
 |str z=>
   cases f;cases m
   replace h:one _ _:=h
   obtain⟨c,e,h⟩:=h.inv;have O:z=#[(Tw [c])]:=by
    obtain⟨⟨l⟩⟩:=z
    simp_all
   subst O;exact G1 _ s Z H _ _ v u Q I n A #[_,_,rfl,rfl,h.1,h.2.1,g _ M h.2.2 _ H j Frm.refl rfl]
 |tup xs=>
   obtain⟨p,w,rfl,t1,f⟩:=f;cases m;obtain⟨q,G,N,T,F⟩:=h;have S:=f.length;obtain⟨t,rfl⟩:=A;cases n;obtain⟨R,r,J,_⟩:=I.tuple t1.sq;have W:=r.length;refine DU J (λz=>q ?_) G N (by lia) (λe=>?_) λe=>?_
   .simp_all
   .refine#[.ref p,H,I,rfl,g _ M F _ H j Frm.refl #[p,w,rfl,t1,?_]]
    simp_all
   have C:=I.hok.fresh (Um _);have L:(UI k.toNat w).flatten.length<=sizeLine:=by
    rw[KL];have q:k.toNat*w.length<=1000*1000:=Nat.mul_le_mul (by lia) (by lia)
    exact Uw q (by decide)
   exact#[.ref _,_,I.laid (o:=.tup _) (λb ob=>Ub _) (by lia) #[L,_,r.rep _,#[_,Ui _ rfl,by lia,rfl]],rfl,
    g _ M F _ _ (j.new C) (Frm.new C) #[_,_,rfl,upd_same,(f.rep _).mono<|Imm.new C]]
 |_=>exact h.elim
def kF:D->Bool
 |.non=>true
 |_=>cx
def kU:g7:=λx y M Q=>onN y (Q (.bl<|kF x) M)
def fc:g7:=λx y M Q=>onN y (Q (.bl<|!kF x) M)
theorem Et(r:Rp K H d v):decide (v=V.non)=kF d:=by
 cases d with
 |non=>cases r;rfl
 |tup xs=>obtain⟨p,b,rfl,_⟩:=r;rfl
 |lst xs=>obtain⟨p,b,rfl,_⟩:=r;rfl
 |mt xs=>obtain⟨p,b,rfl,_⟩:=r;rfl
 |ml xs=>obtain⟨p,b,rfl,_⟩:=r;rfl
 |fd ks xs=>obtain⟨p,b,rfl,_⟩:=r;rfl
 |_=>cases r;rfl
theorem AG:cQ X (hG .Is) (liftR2 X kU):=by
 rintro b s Z H x y v u Q I l i ⟨o,n,M,QQ,m,j,f,h,g⟩
 unfold kU at h;obtain⟨rfl,h⟩:=h.inv;cases f;exact QS _ s Z H _ _ v u Q I l i #[rfl,by rw[Et j];exact g _ M h _ H m Frm.refl rfl]
theorem F4:cQ X (hG .IsNot) (liftR2 X fc):=by
 rintro b s Z H x y v u Q I l i ⟨o,n,M,QQ,m,j,f,h,g⟩
 unfold fc at h;obtain⟨rfl,h⟩:=h.inv;cases f;refine Jc _ s Z H _ _ v u Q I l i #[rfl,g _ M h _ H m Frm.refl ?_];show _=V.bl _;rw[Et j]
section
variable{κ:Type}[DecidableEq κ]
noncomputable def cM(aa3:List (κ×D))(k:κ):Option D:=(aa3.find? λb=>decide (b.1=k)).map (·.2)
noncomputable def eD(aa3:List (κ×D))(k:κ)(v:D):List (κ×D):=
 if (aa3.any λb=>decide (b.1=k))=true then aa3.map (λb=>if b.1=k then (b.1,v) else b) else aa3++[(k,v)]
noncomputable def pS(aa3:List (κ×D))(k:κ):List (κ×D):=aa3.filter λb=>decide (b.1≠k)
theorem Rkv.val{aa3:List (κ×D)}{f:List (κ×V)}(h:Rkv K H aa3 f)(k:κ):(cM aa3 k=ca/\eB f k=ca)\/∃d v,cM aa3 k=ap d/\eB f k=ap v/\Rp K H d v:=by
 induction h with
 |nil=>exact .inl #[rfl,rfl]
 |@cons p q ps qs r t ih=>
  obtain⟨g,d⟩:=p;obtain⟨i,v⟩:=q;obtain⟨e,r⟩:=r;dsimp only at e r;subst e
  by_cases b:g=k
  .exact .inr #[d,v,by simp[cM,b],by simp[eB,b],r]
  simpa [cM,eB,b] using ih
theorem Rkv.any{aa3:List (κ×D)}{b:List (κ×V)}(h:Rkv K H aa3 b)(k:κ):(aa3.any λkv=>decide (kv.1=k))=(b.any λkv=>decide (kv.1=k)):=by
 induction h<;>simp_all
theorem Rkv.put{aa3:List (κ×D)}{f:List (κ×V)}(h:Rkv K H aa3 f)(k:κ){d:D}{v:V}(r:Rp K H d v):Rkv K H (eD aa3 k d) (fE f k v):=by
 unfold eD fE;rw[h.any k]
 split
 .rename_i q;clear q
  induction h with
  |nil=>exact .nil
  |@cons p q ps qs rr t ih=>
   obtain⟨i,m⟩:=p;obtain⟨l,j⟩:=q;obtain⟨e,g⟩:=rr;dsimp only at e g;subst e;rw[Ue,Ue];refine .cons ?_ ih
   by_cases b:i=k
   .rw[if_pos b,if_pos b];trivial
   rw[if_neg b,if_neg b];trivial
 rename_i q;clear q
 induction h with
 |nil=>exact .cons #[rfl,r] .nil
 |cons rr t ih=>exact .cons rr ih
theorem Rkv.drop{aa3:List (κ×D)}{b:List (κ×V)}(h:Rkv K H aa3 b)(k:κ):Rkv K H (pS aa3 k) (iq b k):=by
 unfold pS iq
 induction h with
 |nil=>exact .nil
 |@cons p q ps qs rr t ih=>
  obtain⟨i,m⟩:=p;obtain⟨l,j⟩:=q;obtain⟨e,g⟩:=rr;subst e
  by_cases f:i=k
  .simp_all
  simp only[UC,ne_eq,f];exact .cons #[rfl,g] ih
theorem Rkv.length{aa3:List (κ×D)}{b:List (κ×V)}(h:Rkv K H aa3 b):aa3.length=b.length:=VM h
end
def cN:D->Option aC
 |.int i=>ap (.inl i)
 |.str x=>ap (.inr x)
 |_=>ca
def eR:List D->Option (List aC)
 |[]=>ap []
 |d::ds=>match cN d,eR ds with
  |some k,ap ks=>ap (k::ks)
  |_,_=>ca
def Da:D->Option (List aC)
 |.tup xs=>eR xs
 |_=>ca
theorem ia(r:Rp K H d v)(e:cN d=ap k):v=kV k:=by
 cases d with
 |int i=>cases e;exact r
 |str x=>cases e;exact r
 |_=>cases e
theorem oF:∀{ds:List D}{vs:List V}{ks:List aC},Rps K H ds vs->eR ds=ap ks->vs=ks.map kV
 |[],vs,ks,r,e=>by cases e;exact r
 |d::ds,vs,ks,r,e=>by
  obtain⟨v,i,rfl,a,b⟩:=r;simp[eR]at e
  split at e
  .rename_i k g f h
   cases e;rw[ia a f,oF b h];rfl
  cases e
def uM(M:Mem)(a:cp)(y:D):Option (Option D):=match M a with
 |some (.dK aa3)=>match cN y with
  |some k=>ap (cM aa3 k)
  |none=>ca
 |some (.dT aa3)=>match Da y with
  |some k=>ap (cM aa3 k)
  |none=>ca
 |_=>ca
theorem n8(r:Rp K H d v)(e:Da d=ap ks):∃b,v=.ref b/\H b=ap (.tup<|ks.map kV):=by
 cases d with
 |tup xs=>
  obtain⟨p,f,rfl,t,r⟩:=r;exact#[p,rfl,by rw[<- oF r e];exact t]
 |_=>cases e
theorem rD(q:RepH K H M)(r:Rp K H y v)(e:uM M a y=ap o):
  (o=ca/\DGet H a v ca)\/∃d w,o=ap d/\DGet H a v (ap w)/\Rp K H d w:=by
 unfold uM at e
 split at e
 .rename_i m l
  obtain⟨s,h,i⟩:=q _ _ l
  split at e
  .rename_i k j
   cases e;have u:=ia r j;subst u;rcases i.val k with⟨f,g⟩|⟨d,w,f,g,r'⟩
   .exact .inl #[f,by rw[<- g];exact DGet.k h]
   exact .inr #[d,w,f,by rw[<- g];exact DGet.k h,r']
  cases e
 .rename_i m l
  obtain⟨s,h,i⟩:=q _ _ l
  split at e
  .rename_i k j
   cases e;obtain⟨b,rfl,n⟩:=n8 r j;rcases i.val k with⟨f,g⟩|⟨d,w,f,g,r'⟩
   .exact .inl #[f,by rw[<- g];exact DGet.t h n]
   exact .inr #[d,w,f,by rw[<- g];exact DGet.t h n,r']
  cases e
 cases e
end _3
namespace HT
open PySem PyProof.Rows
theorem ig(e:IsTup s.heap t a)(m:s.heap.IsSliceOf j n l .none)(pl:XV n b)(q:XV l f)
  (r:sIx a.size 0 b=0/\sIx a.size a.size f=a.size) (h:Q (.ref t) s):eg (ez prog w) A (X_ (.ref t)<|.ref j) Q E s:=by
 obtain⟨o,g,i,p⟩:=id m;unfold X_
 try with_reducible refine j0 ?_
 refine ax (wpAny_sequenceKey e.typeIs (by decide) ?_)
 refine ax (wpAny_callSpecial?_slot e.typeIs Ve
  (kr Ve e.typeIs entry_tuple_getitem ?_<|args_tuple_getitem _ _))
 show eg _ _ (XB _ >>= _) _ _ s;refine ax (tupleItemsOf_ e ?_);refine ax (aae #[o,g,i] ?_);refine ax (fj m pl q ?_);have c:((((sIx a.size 0 b):Int)==0&&(1:Int)==1&&(sIx a.size a.size f-sIx a.size 0 b)==a.size)=true):=by
  simp_all
 show eg _ _ (if (((sIx _ 0 b:Nat):Int)==0&&1==1&&(sIx _ _ f-sIx _ 0 b)==a.size)=true then _ else _) _ _ s
 rw[if_pos c];refine ax (ax<|wpAny_typeOf e.typeIs<|wpAny_pure ?_)
 first
  |exact ax _
  |exact ax (F'<|wpAny_pure #[_,rfl,cT h])
  |rfl
  |trace_state
end HT
namespace _3
open PySem _2
variable{p p':cp}{a b:abh}{X:Cx}{c e:eT}{H:Hp}{Z:_2.St}{es:abc}{aa7 its':aba}{i n:Nat}{s:cb}{x:Str}{K:Uh}{u:ay}{g:k4}{r:oZ}
def fJ{α:Type}(xs:List α):Int->Option α
 |.ofNat k=>xs[k]?
 |.negSucc k=>_2.atI xs (.negSucc k)
theorem HQ:∀{i:Int},fJ xs i=_2.atI xs i
 |.negSucc _=>rfl
 |.ofNat k=>by
  unfold _2.atI xP;rw[if_pos (by lia)]
  by_cases f:k<xs.length
  .rw[if_pos (by simp_all)];rfl
  rw[if_neg (by simp_all)];exact Vu (by lia)
def av:g7:=λx y M Q=>oe (aQ M x) (λf=>onI y λi=>so (fJ f i) λd=>Q d M) (onSR x (λz=>onI y λi=>z.length<=sizeLine/\so (fJ z.cps.toList i) λc=>Q (.str #[(Tw [c])]) M) λa=>s2 (uM M a y) λd=>Q d M)
theorem Rps.atI{i:Int}(r:Rps K H ds vs)(e:fJ ds i=ap d):∃v,_2.atI vs i=ap v/\Rp K H d v:=by
 rw[HQ]at e;unfold _2.atI at e ⊢;rw[<- r.length];cases q:xP _ i with
 |none=>simp_all
 |some j=>
  rw[q]at e;exact r.get e
theorem z8(E:X.A.units+1<kB):IxR X (λx y H Q=>∃a v,x=.ref a/\DGet H a y (ap v)/\Q v H):=by
 intro f j m s Z H x y v u Q I C z h o;obtain⟨a,w,rfl,g,q⟩:=h;cases C;exact PyProof.Rows.tail_any (uh I g) rfl (DH E I g z λG F I3 l=>#[w,H,I3,l,q]) o
theorem OE(U:X.A.units+1<kB):IxR X (liftR2 X av):=by
 intro f l o s Z H x y v u Q I G N h J;obtain⟨Y,W,M,QQ,q,F,C,h,L⟩:=h;unfold av at h
 replace h:=h.inv;rcases h with⟨xs,e,h⟩|⟨_,h⟩
 .replace h:=h.inv;obtain⟨i,rfl,h⟩:=h
  obtain⟨d,E,h⟩:=h.inv;cases C;obtain⟨p,R,rfl,hq,r⟩:=jk q F e;obtain⟨w,O,j⟩:=r.atI E;refine On _ _ _ s Z H _ _ v u Q I G N ?_ J;have m:=L _ M h _ H q Frm.refl j;rcases hq with hq|hq
  .exact .inl #[p,R,i,w,rfl,rfl,hq,O,m]
  exact .inr (.inl #[p,R,i,w,rfl,rfl,hq,O,m])
 replace h:=h.inv;rcases h with⟨z,rfl,h⟩|⟨a,rfl,h⟩
 .replace h:=h.inv;obtain⟨i,rfl,S,h⟩:=h
  obtain⟨T,P,h⟩:=h.inv;rw[HQ]at P;cases F;cases C;exact Ew _ _ _ s Z H _ _ v u Q I G N #[_,_,T,rfl,rfl,S,P,L _ M h _ H q Frm.refl rfl] J
 obtain⟨d,E,h⟩:=h.inv;cases F;rcases rD q C E with⟨z,_⟩|⟨d',w,z,g,j⟩
 .cases z
 cases z;exact z8 U f l o s Z H _ _ v u Q I G N #[_,w,rfl,g,L _ M h _ H q Frm.refl j] J
abbrev ML:=Dl->Mem->(Option Int->Mem->Prop)->Prop
inductive liftO(X:Cx)(B:Bd)(T:ML)(Z:St)(H:Hp)(Q:Option Int->Hp->Prop):Prop
 |mk (U:Dl) (M:Mem) (QQ:Option Int->Mem->Prop) (s:SR X B U M Z H) (h:T U M QQ) (u:∀o M',QQ o M'->∀H',RepH X.K H' M'->Frm M H M' H'->Q o H'):liftO X B T Z H Q
def DO(X:Cx)(B:Bd)(e:Option eT)(T:ML):Prop:=PO X e (liftO X B T)
theorem yC{e:Option eT}(h:PO X e t)(w:∀Z H Q,t' Z H Q->t Z H Q):PO X e t':=λf s Z H Q I q=>h _ s Z H Q I (w Z H Q q)
def cI:ML:=λ_ M Q=>Q ca M
def fk(t:b6):ML:=λU M Q=>t U M λx M1=>onI x λi=>Q (ap i) M1
theorem Lc:DO X B ca cI:=yC KZ (by rintro Z H Q ⟨U,M,QQ,s,h,u⟩;exact u _ M h H s.rh Frm.refl)
theorem Ls(h:DE X B e te):DO X B (ap e) (fk te):=by
 refine yC (Kn h) ?_
 rintro Z H Q ⟨U,M,QQ,s,h,u⟩
 refine#[U,M,_,s,h,λd M' q v H' f i r=>?_];cases d with
 |int j=>exact#[j,r,u _ M' q H' f i]
 |_=>exact q.elim
def oU(xs:List D)(lo hi:Option Int):List D:=(xs.drop<|HT.sIx xs.length 0 lo).take (HT.sIx xs.length xs.length hi-HT.sIx xs.length 0 lo)
theorem Rps.cut(r:Rps K H ds vs)(h f:Option Int):Rps K H (oU ds h f) (pc vs h f):=by
 unfold oU pc;rw[<- r.length];exact(r.drop _).take _
def oSl(x:D)(lo hi:Option Int)(M:Mem)(Q:DK):Prop:=onTM x (λf=>Q (.tup<|oU f lo hi) M) (λf=>∀p,M p=ca->Q (.ref p) (M.upd p<|.lst<|oU f lo hi)) (so (cC M x) λf=>∀p,M p=ca->Q (.ref p) (M.upd p<|.lst<|oU f lo hi))
inductive liftSl(X:Cx)(x:V)(lo hi:Option Int)(H:Hp)(Q:VK):Prop
 |mk (d:D) (M:Mem) (QQ:DK) (rh:RepH X.K H M) (r:Rp X.K H d x) (h:oSl d lo hi M QQ) (u:Up X.K M H QQ Q):liftSl X x lo hi H Q
theorem y4(h:HT.sIx vs.length 0 j=0/\HT.sIx vs.length vs.length f=vs.length):pc vs j f=vs:=by
 unfold pc
 simp_all
theorem JT:Tq X (λx lo hi H Q=>∃a xs,x=.ref a/\kI X.K H a xs/\(pc xs lo hi=xs->Q (.ref a) H)/\∀p,H p=ca->Q (.ref p) (upd H p<|.tup<|pc xs lo hi)):=by
 intro j s Z H x v G F lo hi E Q I y o pl m h;obtain⟨a,xs,rfl,w,C,q⟩:=h
 by_cases l:HT.sIx xs.length 0 lo=0/\HT.sIx xs.length xs.length hi=xs.length
 .cases y
  obtain⟨aa7,r,z,J⟩:=I.tuple w;have f:aa7.toArray.size=xs.length:=by rw[Uq];exact r.length.symm
  refine#["tuple",_,Ve.lookup,z.typeIs,?_];exact HT.ig z o pl m (by rw[f];exact l) #[.ref a,H,I,rfl,C<|y4 l]
 .exact PJ j s Z H _ v G F lo hi E Q I y o pl m #[a,xs,rfl,w,l,q]
section
variable{p:Pos}{t:eE}
theorem Pi:Tq X (liftSl X):=by
 rintro aa1 s Z H x v vl vu lo hi sl Q I rx hs pl pu ⟨d,M,QQ,rh,r,h,up⟩
 unfold oSl at h
 replace h:=h.inv;rcases h with⟨xs,rfl,h⟩|⟨xs,rfl,h⟩|h
 .obtain⟨a,vs,rfl,ht,r⟩:=r
  exact JT _ s Z H _ v vl vu lo hi sl Q I rx hs pl pu #[a,vs,rfl,ht.sq,λe=>up _ M h _ H rh Frm.refl #[a,vs,rfl,ht,by rw[<- e];exact r.cut lo hi],λp hp=>up _ M h _ _ (rh.new hp) (Frm.new hp) #[p,_,rfl,upd_same,(r.cut lo hi).mono<|Imm.new hp]]
 .obtain⟨a,vs,rfl,hq,r⟩:=r
  exact BI _ s Z H _ v vl vu lo hi sl Q I rx hs pl pu #[a,vs,rfl,hq.sq,λp hp=>up _ _ (h p<|rh.fresh hp) _ _ (rh.put (by rw[hp];trivial) #[_,upd_same,(r.cut lo hi).mono<|Imm.new hp]) (Frm.put<|.inl hp) rfl]
 obtain⟨xs,e,h⟩:=h.inv;obtain⟨a,vs,rfl,hq,r⟩:=da rh r e;exact BI _ s Z H _ v vl vu lo hi sl Q I rx hs pl pu #[a,vs,rfl,.inl hq,λp hp=>up _ _ (h p<|rh.fresh hp) _ _ (rh.put (by rw[hp];trivial) #[_,upd_same,(r.cut lo hi).mono<|Imm.new hp]) (Frm.put<|.inl hp) rfl]
def Ee(te:b6)(tl th:ML):b6:=λU M Q=>te U M λx M1=>tl U M1 λl M2=>th U M2 λu M3=>oSl x l u M3 Q
theorem HE(C:DE X B e te)(E:DO X B lo tl)(z:DO X B hi th):DE X B (.Subscript e (.Slice lo hi ca p2) pos) (Ee te tl th):=by
 refine aS (Fz Pi C E z) ?_
 rintro Z H Q ⟨U,M,QQ,s,h,u⟩
 exact#[U,M,_,s,h,λx M1 q v1 H1 f i1 y=>#[U,M1,_,s.go f i1,q,λl M2 o H2 j i2=>#[U,M2,_,s.go j (i1.trans i2),o,λw M3 v H3 m i3=>#[x,M3,QQ,m,y.mf f (i2.trans i3),v,u.go<|(i1.trans i2).trans i3]]]]
abbrev oZ:=List D->Mem->DK->Prop
inductive liftC(X:Cx)(r:oZ)(xs:List V)(H:Hp)(Q:VK):Prop
 |mk (ds:List D) (M:Mem) (QQ:DK) (rh:RepH X.K H M) (rp:Rps X.K H ds xs) (h:r ds M QQ) (u:Up X.K M H QQ Q):liftC X r xs H Q
def bi(r:oZ)(t:eE):b6:=λU M Q=>t U M λf M1=>r f M1 Q
theorem tD(h:liftE X B (bi r t) Z H Q):tCB (liftC X r) (liftA X B t) Z H Q:=by
 obtain⟨U,M,QQ,s,h,u⟩:=h;exact#[U,M,_,s,h,λj M1 m o H1 f i1 l=>#[j,M1,QQ,f,l,m,u.go i1]]
theorem F6{id:String}(f:bo X (.builtin id) (liftC X r))(j:Gl X x)(m:X.mg x=ca)(q:eS x=ap (.builtin id))(l:DA X B (e::es) t)(o:x≠"__name__":=by decide)(hdb:(x==("__debug__":Str))=false:=by decide)(he:ee (e::es) X.env=(cx,ff e X.env)::ee es X.env:=by rfl)(hpl:(f' pos<|starEach es X.env).any (·.1)=false:=by rfl):DE X B (.Call (.Name x p) (e::es) [] pos) (bi r t):=
 aS (Ha f j m q l o hdb he hpl) λ_ _ _ h=>tD h
theorem E3(f:bo X (.type T) (liftC X r))(j:Gl X x)(m:X.mg x=ca)(q:eS x=ap (.type T))(l:DA X B (e::es) t)(o:x≠"__name__":=by decide)(hdb:(x==("__debug__":Str))=false:=by decide)(he:ee (e::es) X.env=(cx,ff e X.env)::ee es X.env:=by rfl)(hpl:(f' pos<|starEach es X.env).any (·.1)=false:=by rfl):DE X B (.Call (.Name x p) (e::es) [] pos) (bi r t):=
 aS (D4 f j m q l o hdb he hpl) λ_ _ _ h=>tD h
theorem g8{ds:List D}{vs:List V}{d:D}(r:Rps K H [d] vs):∃v,vs=[v]/\Rp K H d v:=by
 obtain⟨v,w,rfl,a,b⟩:=r;cases b;exact#[v,rfl,a]
theorem JB{e:D}(r:Rps K H [d,e] vs):∃v w,vs=[v,w]/\Rp K H d v/\Rp K H e w:=by
 obtain⟨v,w,rfl,a,b⟩:=r;obtain⟨f,j,rfl,h,b⟩:=b;cases b;exact#[v,f,rfl,a,h]
def cu:oZ:=λh M Q=>one h λd=>oe (aQ M d) (λj=>Q (.int j.length) M) (onSR d (λz=>z.length<=sizeLine/\Q (.int z.length) M) λa=>mK (M a) λf=>Q (.int f.length) M)
theorem CF:bo X (.builtin "len") (liftC X cu):=by
 rintro o s Z H O m Q I r ⟨ds,M,QQ,f,w,h,j⟩
 unfold cu at h
 replace h:=h.inv;obtain⟨d,rfl,h⟩:=h
 obtain⟨v,rfl,l⟩:=g8 (ds:=[]) w
 replace h:=h.inv;rcases h with⟨N,e,h⟩|⟨_,h⟩
 .obtain⟨q,L,rfl,J,E⟩:=jk f l e
  exact sO _ s Z H _ m Q I r #[q,L,rfl,J,by rw[<- E.length];exact j _ M h _ H f Frm.refl rfl]
 replace h:=h.inv;rcases h with⟨z,rfl,h⟩|⟨a,rfl,h⟩
 .cases l
  exact rJ _ s Z H _ m Q I r #[_,rfl,h.1,j _ M h.2 _ H f Frm.refl rfl]
 obtain⟨G,e,h⟩:=h.inv;cases l;obtain⟨y,F,C⟩:=f _ _ e;exact DL _ s Z H _ m Q I r #[_,y,rfl,F,by rw[<- C.length];exact j _ M h _ H f Frm.refl rfl]
def eJ:oZ:=λf M Q=>one f λd=>so (aQ M d) λh=>∀p,M p=ca->Q (.ref p) (M.upd p<|.lst h)
theorem xX:bo X (.type "list") (liftC X eJ):=by
 rintro aa1 s Z H xs us Q I r ⟨ds,M,QQ,rh,rp,h,up⟩
 unfold eJ at h
 replace h:=h.inv;obtain⟨_,rfl,h⟩:=h
 obtain⟨v,rfl,rv⟩:=g8 (ds:=[]) rp;obtain⟨ys,e,h⟩:=h.inv;obtain⟨q,vs,rfl,hq,rr⟩:=jk rh rv e;exact rT _ s Z H _ us Q I r #[q,vs,rfl,hq,λp hp=>up _ _ (h p<|rh.fresh hp) _ _ (rh.put (by rw[hp];trivial) #[_,upd_same,rr.mono<|Imm.new hp]) (Frm.put<|.inl hp) rfl]
def bP:oZ:=λh M Q=>one h λd=>onTe d (λf=>Q (.tup f) M) (so (cC M d) λf=>Q (.tup f) M)
theorem uq:bo X (.type "tuple") (liftC X bP):=by
 rintro z s Z H G C Q I r ⟨ds,M,QQ,m,E,h,o⟩
 unfold bP at h
 replace h:=h.inv;obtain⟨d,rfl,h⟩:=h
 obtain⟨v,rfl,w⟩:=g8 (ds:=[]) E
 replace h:=h.inv;rcases h with⟨G,rfl,h⟩|h
 .obtain⟨q,f,rfl,y,j⟩:=w
  exact iw _ s Z H _ C Q I r #[q,f,rfl,.inr #[y.sq,o _ M h _ H m Frm.refl #[q,f,rfl,y,j]]]
 obtain⟨J,e,h⟩:=h.inv;obtain⟨q,f,rfl,F,j⟩:=da m w e;exact iw _ s Z H _ C Q I r #[q,f,rfl,.inl #[.inl F,λp l=>o _ M h _ _ (m.new l) (Frm.new l) #[p,_,rfl,upd_same,j.mono<|Imm.new l]]]
def cJ(M:Mem):D->Option String
 |.non=>ap "NoneType"
 |.bl _=>ap "bool"
 |.int _=>ap "int"
 |.str _=>ap "str"
 |.tup _=>ap "tuple"
 |.lst _=>ap "list"
 |.ref a=>match M a with
  |some (.lst _)=>ap "list"
  |some (.dK _)=>ap "dict"
  |some (.dT _)=>ap "dict"
  |_=>ca
 |_=>ca
noncomputable def bQ(t T:String):Bool:=t==T||(t=="bool"&&T=="int")
noncomputable def oM(T:String):Bool:=T=="bool"||T=="int"||T=="str"||T=="tuple"||T=="list"||T=="dict"
theorem KF:(∀K:Uh,∀t∈["NoneType","bool","int","str","tuple","list","dict"],∀T∈["bool","int","str","tuple","list","dict"],W.kitOne K (.type t) (.type T)=ap (bQ t T)):=by
 intro K t f T h;simp at f h;rcases f with rfl|rfl|rfl|rfl|rfl|rfl|rfl<;>rcases h with rfl|rfl|rfl|rfl|rfl|rfl<;>kernel_rfl
theorem Kt{t:String}(j:RepH K H M)(r:Rp K H d v)(e:cJ M d=ap t):TyOf K H v (.type t)/\t∈["NoneType","bool","int","str","tuple","list","dict"]:=by
 cases d with
 |non=>cases r;cases e;exact#[.non,by simp]
 |bl b=>cases r;cases e;exact#[.bl b,by simp]
 |int i=>cases r;cases e;exact#[.int i,by simp]
 |str x=>cases r;cases e;exact#[.str x,by simp]
 |tup xs=>
  cases e;obtain⟨q,y,rfl,h,w⟩:=r;exact#[.tup h,by simp]
 |lst xs=>
  cases e;obtain⟨q,y,rfl,⟨o,h⟩,w⟩:=r;exact#[.frz h,by simp]
 |ref a=>
  cases r;simp[cJ]at e
  split at e
  .rename_i q;cases e;obtain⟨l,f,m⟩:=j _ _ q;exact#[.lst f,by simp]
  .rename_i q;cases e;obtain⟨l,f,m⟩:=j _ _ q;exact#[.dK f,by simp]
  .rename_i q;cases e;obtain⟨l,f,m⟩:=j _ _ q;exact#[.dT f,by simp]
  cases e
 |_=>cases e
def dM:oZ:=λf M Q=>two f λd e=>onTy e λT=>oM T=true/\so (cJ M d) λt=>Q (.bl<|bQ t T) M
theorem t9:bo X (.builtin "isinstance") (liftC X dM):=by
 rintro m s Z H F C Q I r ⟨E,M,QQ,j,o,h,q⟩
 unfold dM at h
 replace h:=h.inv;obtain⟨d,T',rfl,h⟩:=h
 replace h:=h.inv;obtain⟨T,rfl,l,h⟩:=h
 obtain⟨v,w,rfl,y,f⟩:=JB o;cases f;obtain⟨t,e,h⟩:=h.inv;obtain⟨ty,z⟩:=Kt j y e;refine uN _ s Z H _ C Q I r #[v,T,_,_,rfl,ty,KF _ t z T ?_,q _ M h _ H j Frm.refl rfl];simp[oM]at l;simp;rcases l with ((((h|h)|h)|h)|h)|h<;>simp[h]
def jb:List D->Option (List Bool)
 |[]=>ap []
 |.bl b::ds=>match jb ds with
  |some bs=>ap (b::bs)
  |none=>ca
 |_=>ca
theorem jY:∀{ds:List D}{vs:List V}{bs:List Bool},Rps K H ds vs->jb ds=ap bs->vs=bs.map V.bl
 |[],vs,bs,r,e=>by cases e;exact r
 |d::ds,vs,bs,r,e=>by
  obtain⟨v,j,rfl,a,b⟩:=r;cases d with
  |bl c=>
   simp[jb]at e
   split at e
   .rename_i f h
    cases e;cases a;rw[jY b h];rfl
   cases e
  |_=>cases e
def Nx:oZ:=λf M Q=>one f λd=>so (cC M d) λh=>so (jb h) λbs=>Q (.bl<|bs.all id) M
theorem CM(F:X.calm=true):bo X (.builtin "all") (liftC X Nx):=by
 rintro j s Z H L E Q I r ⟨ds,M,QQ,f,l,h,z⟩
 unfold Nx at h
 replace h:=h.inv;obtain⟨_,rfl,h⟩:=h
 obtain⟨v,rfl,C⟩:=g8 (ds:=[]) l;obtain⟨G,e,h⟩:=h.inv;obtain⟨bs,o,h⟩:=h.inv;obtain⟨q,J,rfl,y,w⟩:=da f C e;have m:=jY w o;subst m;exact Ht F _ s Z H _ E Q I r #[q,bs,rfl,.inl y,z _ M h _ H f Frm.refl rfl]
def Gv:oZ:=λf M Q=>two f λh l=>onI h λi=>onI l λj=>Q (.int (if j<i then j else i)) M
theorem C_(z:X.calm=true):bo X (.builtin "min") (liftC X Gv):=by
 rintro j s Z H F y Q I r ⟨C,M,QQ,o,l,h,m⟩
 unfold Gv at h
 replace h:=h.inv;obtain⟨E,G,rfl,h⟩:=h
 replace h:=h.inv;obtain⟨_,rfl,h⟩:=h
 replace h:=h.inv;obtain⟨_,rfl,h⟩:=h
 obtain⟨v,w,rfl,q,f⟩:=JB l;cases q;cases f;exact CP z _ s Z H _ y Q I r #[_,_,rfl,m _ M h _ H o Frm.refl rfl]
def Ji:oZ:=λh M Q=>two h λf l=>onI f λi=>onI l λj=>Q (.int (if j>i then j else i)) M
theorem Ds(z:X.calm=true):bo X (.builtin "max") (liftC X Ji):=by
 rintro j s Z H G y Q I r ⟨C,M,QQ,o,l,h,m⟩
 unfold Ji at h
 replace h:=h.inv;obtain⟨E,F,rfl,h⟩:=h
 replace h:=h.inv;obtain⟨_,rfl,h⟩:=h
 replace h:=h.inv;obtain⟨_,rfl,h⟩:=h
 obtain⟨v,w,rfl,q,f⟩:=JB l;cases q;cases f;exact DJ z _ s Z H _ y Q I r #[_,_,rfl,m _ M h _ H o Frm.refl rfl]
end
mutual
def aR:D->D->Bool
 |.non,.non=>true
 |.bl a,.bl b=>a==b
 |.bl a,.int b=>(if a then 1 else 0)==b
 |.int a,.bl b=>a==(if b then 1 else 0)
 |.int a,.int b=>decide (a=b)
 |.str a,.str b=>decide (a=b)
 |.tup xs,.tup ys=>gE xs ys
 |.lst xs,.lst ys=>gE xs ys
 |_,_=>cx
def gE:List D->List D->Bool
 |[],[]=>true
 |x::xs,y::ys=>aR x y&&gE xs ys
 |_,_=>cx
end
mutual
def cP:Nat->D->Bool
 |_,.non=>true
 |_,.bl _=>true
 |_,.int _=>true
 |_,.str _=>true
 |n+1,.tup xs=>fits n xs
 |n+1,.lst xs=>fits n xs
 |_,_=>cx
def fits:Nat->List D->Bool
 |_,[]=>true
 |n,x::xs=>cP n x&&fits n xs
end
mutual
def Hr(h:g3):D->ay->Prop
 |.non,u=>u=.none
 |.bl b,u=>u=.bool b
 |.int i,u=>∃t,u=.int i t
 |.str x,u=>∃t,u=.str x t
 |.tup xs,u=>∃p aa7,u=.ref p/\h.IsTuple p (Vy aa7)/\Hrs h xs aa7
 |.lst xs,u=>∃p aa7,u=.ref p/\h.IsList p (Vy aa7)/\Hrs h xs aa7
 |_,_=>False
def Hrs(h:g3):List D->List ay->Prop
 |[],us=>us=[]
 |x::xs,us=>∃u r,us=u::r/\Hr h x u/\Hrs h xs r
end
section
variable{h:g3}
theorem Hrs.length:∀{ds:List D}{us:aba},Hrs h ds us->ds.length=us.length
 |[],_,q=>by cases q;rfl
 |_::_,_,q=>by obtain⟨v,r,rfl,_,b⟩:=q;simp[b.length]
theorem Hrs.get:∀{ds:List D}{us:aba},Hrs h ds us->∀(i:Nat)(h1:i<ds.length)(h2:i<us.length),Hr h ds[i] us[i]
 |[],_,_,i,h1,_=>absurd h1 (by trivial)
 |x::xs,_,q,i,h1,h2=>by
  obtain⟨v,r,rfl,a,b⟩:=q;cases i with
  |zero=>exact a
  |succ i=>exact b.get i _ _
theorem zF(x:h.IsTuple p a)(y:h.IsTuple p b):a=b:=by
 obtain⟨o,q,_,n,m⟩:=x;obtain⟨l,f,_,v,j⟩:=y
 simp_all
theorem B1(x:h.IsList p a)(y:h.IsList p b):a=b:=by
 obtain⟨o,q,_,n,m⟩:=x;obtain⟨l,f,_,v,j⟩:=y
 simp_all
theorem Su(x:h.IsList p a)(y:h.IsTuple p b):False:=by
 obtain⟨o,l,c,_⟩:=x;obtain⟨j,f,m,_⟩:=y
 simp_all
mutual
theorem Hb:∀{d e:D}{u:ay},Hr h d u->Hr h e u->d=e
 |.non,e,u,a,b=>by
  cases a;cases e with
  |non=>rfl
  |bl _=>cases b
  |int _=>obtain⟨t,q⟩:=b;cases q
  |str _=>obtain⟨t,q⟩:=b;cases q
  |tup _=>obtain⟨p,i,q,_⟩:=b;cases q
  |lst _=>obtain⟨p,i,q,_⟩:=b;cases q
  |_=>exact(show False from b).elim
 |.bl c,e,u,a,b=>by
  cases a;cases e with
  |non=>cases b
  |bl _=>cases b;rfl
  |int _=>obtain⟨t,q⟩:=b;cases q
  |str _=>obtain⟨t,q⟩:=b;cases q
  |tup _=>obtain⟨p,i,q,_⟩:=b;cases q
  |lst _=>obtain⟨p,i,q,_⟩:=b;cases q
  |_=>exact(show False from b).elim
 |.int c,e,u,a,b=>by
  obtain⟨t,rfl⟩:=a;cases e with
  |non=>cases b
  |bl _=>cases b
  |int _=>obtain⟨t,q⟩:=b;cases q;rfl
  |str _=>obtain⟨t,q⟩:=b;cases q
  |tup _=>obtain⟨p,i,q,_⟩:=b;cases q
  |lst _=>obtain⟨p,i,q,_⟩:=b;cases q
  |_=>exact(show False from b).elim
 |.str c,e,u,a,b=>by
  obtain⟨t,rfl⟩:=a;cases e with
  |non=>cases b
  |bl _=>cases b
  |int _=>obtain⟨t,q⟩:=b;cases q
  |str _=>obtain⟨t,q⟩:=b;cases q;rfl
  |tup _=>obtain⟨p,i,q,_⟩:=b;cases q
  |lst _=>obtain⟨p,i,q,_⟩:=b;cases q
  |_=>exact(show False from b).elim
 |.tup xs,e,u,a,b=>by
  obtain⟨p,aa7,rfl,t1,j⟩:=a;cases e with
  |non=>cases b
  |bl _=>cases b
  |int _=>obtain⟨t,q⟩:=b;cases q
  |str _=>obtain⟨t,q⟩:=b;cases q
  |tup ys=>
   obtain⟨p',its',q,t2,f⟩:=b;cases q;have e:=zF t1 t2;have l:aa7=its':=by simpa using congrArg WO e
   subst l;rw[j9 j f]
  |lst ys=>obtain⟨p',its',q,t2,f⟩:=b;cases q;exact(Su t2 t1).elim
  |_=>exact(show False from b).elim
 |.lst xs,e,u,a,b=>by
  obtain⟨p,aa7,rfl,t1,j⟩:=a;cases e with
  |non=>cases b
  |bl _=>cases b
  |int _=>obtain⟨t,q⟩:=b;cases q
  |str _=>obtain⟨t,q⟩:=b;cases q
  |lst ys=>
   obtain⟨p',its',q,t2,f⟩:=b;cases q;have e:=B1 t1 t2;have l:aa7=its':=by simpa using congrArg WO e
   subst l;rw[j9 j f]
  |tup ys=>obtain⟨p',its',q,t2,f⟩:=b;cases q;exact(Su t1 t2).elim
  |_=>exact(show False from b).elim
 |.ty _,_,_,a,_=>(show False from a).elim
 |.ref _,_,_,a,_=>(show False from a).elim
 |.mt _,_,_,a,_=>(show False from a).elim
 |.ml _,_,_,a,_=>(show False from a).elim
 |.fd _ _,_,_,a,_=>(show False from a).elim
theorem j9:∀{ds es:List D}{us:aba},Hrs h ds us->Hrs h es us->ds=es
 |[],es,us,a,b=>by
  cases a;cases es with
  |nil=>rfl
  |cons _ _=>obtain⟨v,r,q,_⟩:=b;cases q
 |d::ds,es,us,a,b=>by
  obtain⟨v,r,rfl,f,l⟩:=a;cases es with
  |nil=>cases b
  |cons e es=>
   obtain⟨o,w,q,m,j⟩:=b;cases q;rw[Hb f m,j9 l j]
end
mutual
theorem Fp:∀{n:Nat}{d:D},cP n d=true->aR d d=true
 |_,.non,_=>by simp[aR]
 |_,.bl _,_=>by simp[aR]
 |_,.int _,_=>by simp[aR]
 |_,.str _,_=>by simp[aR]
 |0,.tup _,f=>by simp[cP]at f
 |0,.lst _,f=>by simp[cP]at f
 |n+1,.tup xs,f=>by rw[aR];exact fw (n:=n) f
 |n+1,.lst xs,f=>by rw[aR];exact fw (n:=n) f
 |_,.ty _,f=>by simp[cP]at f
 |_,.ref _,f=>by simp[cP]at f
 |_,.mt _,f=>by simp[cP]at f
 |_,.ml _,f=>by simp[cP]at f
 |_,.fd _ _,f=>by simp[cP]at f
theorem fw:∀{n:Nat}{ds:List D},fits n ds=true->gE ds ds=true
 |_,[],_=>by simp[gE]
 |n,x::xs,f=>by
  rw[fits,Vw]at f;rw[gE,Fp f.1,fw f.2];rfl
end
theorem dO:∀{xs ys:List D},xs.length≠ys.length->gE xs ys=cx
 |[],[],h=>absurd rfl h
 |[],_::_,_=>by simp[gE]
 |_::_,[],_=>by simp[gE]
 |x::xs,y::ys,h=>by rw[gE,dO (by simpa using h),Xv]
theorem j8:∀(xs ys:List D)(f:Nat->Bool),xs.length=ys.length->(∀j (h1:j<xs.length)(h2:j<ys.length),f j=aR xs[j] ys[j])->(Uu xs.length).all f=gE xs ys
 |[],[],f,_,_=>by simp[gE]
 |[],_::_,_,h,_=>by simp at h
 |_::_,[],_,h,_=>by simp at h
 |x::xs,y::ys,f,h,hf=>by
  rw[UB,List.range_succ_eq_map,List.all_cons,List.all_map,gE,<- (j8 xs ys (λj=>f (j+1)) (by simpa using h)<|by simp_all)]
  rw[(hf 0 (by simp)<|by simp)]
  rfl
theorem dX:∀{n:Nat}{xs:List D},fits n xs=true->∀(j:Nat)(h1:j<xs.length),cP n xs[j]=true
 |_,[],_,j,h1=>absurd h1 (by trivial)
 |n,x::xs,f,j,h1=>by
  rw[fits,Vw]at f;cases j with
  |zero=>exact f.1
  |succ j=>exact dX f.2 j _
noncomputable def mE:D->Option V
 |.non=>ap .non
 |.bl b=>ap (.bl b)
 |.int i=>ap (.int i)
 |.str x=>ap (.str x)
 |_=>ca
theorem lV(e:mE d=ap v)(r:Hr h d u):RelV v u/\EM v=true:=by
 cases d with
 |non=>cases e;trivial
 |bl b=>cases e;trivial
 |int b=>cases e;trivial
 |str b=>cases e;trivial
 |_=>cases e
theorem vQ{e:D}(j:mE d=ap v)(f:mE e=ap w):wA v w=aR d e:=by
 cases d with
 |non=>cases j;cases e with|non=>cases f;simp[wA,aR]|bl b=>cases f;simp[wA,aR]|int b=>cases f;simp[wA,aR]|str b=>cases f;simp[wA,aR]|_=>cases f
 |bl a=>cases j;cases e with|non=>cases f;simp[wA,aR]|bl b=>cases f;simp[wA,aR]|int b=>cases f;simp[wA,aR]|str b=>cases f;simp[wA,aR]|_=>cases f
 |int a=>cases j;cases e with|non=>cases f;simp[wA,aR]|bl b=>cases f;simp[wA,aR]|int b=>cases f;rfl|str b=>cases f;simp[wA,aR]|_=>cases f
 |str a=>cases j;cases e with|non=>cases f;simp[wA,aR]|bl b=>cases f;simp[wA,aR]|int b=>cases f;simp[wA,aR]|str b=>cases f;rfl|_=>cases f
 |_=>cases j
end
theorem LK:∀(n:Nat){A:fv}{s:cb}{d e:D}{u w:ay},Hr s.heap d u->Hr s.heap e w->cP n d=true->cP n e=true->A.units+n<kB->Xm A s u w (aR d e):=by
 intro n
 induction n with
 |zero=>
  intro A s d e u w l h fd N hu;have T:∃v,mE d=ap v:=by cases d<;>first|exact#[_,rfl]|(simp[cP]at fd)
  have S:∃v,mE e=ap v:=by cases e<;>first|exact#[_,rfl]|(simp[cP]at N)
  obtain⟨v1,I⟩:=T;obtain⟨v2,P⟩:=S;obtain⟨a1,Y⟩:=lV I l;obtain⟨U,b2⟩:=lV P h;rw[<- vQ I P];exact Gy a1 U Y b2
 |succ n ih=>
  intro A s d e u w l h fd N hu;have f:A.units<cLine:=by lia
  have O:A.in1.units+n<cLine:=by show A.units+1+n<kB;lia
  by_cases T:∃v,mE d=ap v
  .obtain⟨v1,I⟩:=T
   obtain⟨a1,Y⟩:=lV I l
   by_cases S:∃v,mE e=ap v
   .obtain⟨v2,P⟩:=S
    obtain⟨U,b2⟩:=lV P h;rw[<- vQ I P];exact Gy a1 U Y b2
   .cases e with
    |tup ys=>
     obtain⟨p,aa7,rfl,t,_⟩:=h;cases d with
     |non=>cases l;simp only[aR];exact .none_tuple t f
     |bl b=>cases l;simp only[aR];exact .bool_tuple b t f
     |int b=>obtain⟨m,rfl⟩:=l;simp only[aR];exact .int_tuple b m t f
     |str b=>obtain⟨m,rfl⟩:=l;simp only[aR];exact .str_tuple b m t f
     |_=>cases I
    |lst ys=>
     obtain⟨p,aa7,rfl,t,_⟩:=h;cases d with
     |non=>cases l;simp only[aR];exact .none_list t f
     |bl b=>cases l;simp only[aR];exact .bool_list b t f
     |int b=>obtain⟨m,rfl⟩:=l;simp only[aR];exact .int_list b m t f
     |str b=>obtain⟨m,rfl⟩:=l;simp only[aR];exact .str_list b m t f
     |_=>cases I
    |ty _=>exact(show False from h).elim
    |ref _=>exact(show False from h).elim
    |mt _=>exact(show False from h).elim
    |ml _=>exact(show False from h).elim
    |fd _ _=>exact(show False from h).elim
    |_=>exact absurd #[_,rfl] S
  .cases d with
   |tup xs=>
    obtain⟨p,aa7,rfl,t1,F⟩:=l;cases e with
    |non=>cases h;simp only[aR];exact .tuple_none t1 f
    |bl b=>cases h;simp only[aR];exact .tuple_bool b t1 f
    |int b=>obtain⟨m,rfl⟩:=h;simp only[aR];exact .tuple_int b m t1 f
    |str b=>obtain⟨m,rfl⟩:=h;simp only[aR];exact .tuple_str b m t1 f
    |tup ys=>
     obtain⟨p',its',rfl,t2,E⟩:=h;rw[aR]
     by_cases R:p=p'
     .subst R
      have e':aa7=its':=by simpa using congrArg WO (zF t1 t2)
      subst e';rw[j9 F E,fw (n:=n) N];exact .same _
     .refine .of_refs R ?_
      have W:=F.length;have l2:=E.length;have G:∀j (C:j<aa7.toArray.size)(z:j<its'.toArray.size),Xm A.in1 s aa7.toArray[j] its'.toArray[j] (match xs[j]?,ys[j]? with|some x,ap y=>aR x y|_,_=>cx):=λj C z=>by
       have o:j<xs.length:=by rw[W];simpa using C
       have q:j<ys.length:=by rw[l2];simpa using z
       rw[Ud o,Ud q];exact ih (F.get j o<|by simpa using C) (E.get j q<|by simpa using z) (dX fd j o) (dX N j q) O
      have:=YI (e:=λj=>match xs[j]?,ys[j]? with|some x,ap y=>aR x y|_,_=>cx) t1 t2 f G
      by_cases Q:xs.length=ys.length
      .have J:aa7.toArray.size=its'.toArray.size:=by simp;lia
       rw[J]at this;simp only[YU,beq_self_eq_true,YF]at this;have L:its'.toArray.size=xs.length:=by simp;lia
       rw[L,j8 xs ys _ Q (λj C z=>by rw[Ud C,Ud z])]at this
       exact this
      .have J:(aa7.toArray.size==its'.toArray.size)=false:=by simp;lia
       rw[J,Xv]at this;rw[dO Q];exact this
    |lst ys=>obtain⟨p',its',rfl,t2,E⟩:=h;simp only[aR];exact .tuple_list t1 t2 f
    |_=>exact(show False from h).elim
   |lst xs=>
    obtain⟨p,aa7,rfl,t1,F⟩:=l;cases e with
    |non=>cases h;simp only[aR];exact .list_none t1 f
    |bl b=>cases h;simp only[aR];exact .list_bool b t1 f
    |int b=>obtain⟨m,rfl⟩:=h;simp only[aR];exact .list_int b m t1 f
    |str b=>obtain⟨m,rfl⟩:=h;simp only[aR];exact .list_str b m t1 f
    |lst ys=>
     obtain⟨p',its',rfl,t2,E⟩:=h;rw[aR]
     by_cases R:p=p'
     .subst R
      have e':aa7=its':=by simpa using congrArg WO (B1 t1 t2)
      subst e';rw[j9 F E,fw (n:=n) N];exact .same _
     .refine .of_refs R ?_
      have W:=F.length;have l2:=E.length
      by_cases Q:xs.length=ys.length
      .have G:∀j (C:j<aa7.toArray.size)(z:j<its'.toArray.size),Xm A.in1 s aa7.toArray[j] its'.toArray[j] (match xs[j]?,ys[j]? with|some x,ap y=>aR x y|_,_=>cx):=λj C z=>by
        have o:j<xs.length:=by rw[W];simpa using C
        have q:j<ys.length:=by rw[l2];simpa using z
        rw[Ud o,Ud q];exact ih (F.get j o<|by simpa using C) (E.get j q<|by simpa using z) (dX fd j o) (dX N j q) O
       have:=YN (e:=λj=>match xs[j]?,ys[j]? with|some x,ap y=>aR x y|_,_=>cx) t1 t2 (by simp;lia) f G
       have L:aa7.toArray.size=xs.length:=by simp;lia
       rw[L,j8 xs ys _ Q (λj C z=>by rw[Ud C,Ud z])]at this
       exact this
      .rw[dO Q]
       exact XX t1 t2 (by simp;lia) f
    |tup ys=>obtain⟨p',its',rfl,t2,E⟩:=h;simp only[aR];exact .list_tuple t1 t2 f
    |_=>exact(show False from h).elim
   |ty _=>exact(show False from l).elim
   |ref _=>exact(show False from l).elim
   |mt _=>exact(show False from l).elim
   |ml _=>exact(show False from l).elim
   |fd _ _=>exact(show False from l).elim
   |_=>exact absurd #[_,rfl] T
theorem lS(r1:Hrs s.heap xs aa7)(r2:Hrs s.heap ys its')(fd:fits n xs=true)(fe:fits n ys=true)(hu:A.units+n<kB):
  ∀j (h1:j<aa7.toArray.size)(h2:j<its'.toArray.size),Xm A s aa7.toArray[j] its'.toArray[j] (match xs[j]?,ys[j]? with|some x,ap y=>aR x y|_,_=>cx):=λj h1 h2=>by
 rw[Ud (by rw[r1.length];trivial),Ud (by rw[r2.length];trivial)]
 exact LK n (r1.get j _ _) (r2.get j _ _) (dX fd j _) (dX fe j _) hu
theorem lm(l:xs.length=ys.length):(Uu xs.length).all (λj=>match xs[j]?,ys[j]? with|some x,ap y=>aR x y|_,_=>cx)=gE xs ys:=
 j8 xs ys _ l (λj h f=>by rw[Ud h,Ud f])
theorem Qc(t1:s.heap.IsTuple p aa7.toArray)(t2:s.heap.IsTuple p' its'.toArray)(l:Hrs s.heap xs aa7)(m:Hrs s.heap ys its')(fd:cP n (.tup xs)=true)(o:cP n (.tup ys)=true)(w:A.units+n<kB):
  Y9 A s (.ref p) (.ref p') (aR (.tup xs)<|.tup ys):=by
 cases n with
 |zero=>trivial
 |succ n=>
  have q:=l.length;have v:=m.length;have:=YI (A:=A) t1 t2 (by lia) (lS l m fd o<|by show A.units+1+n<kB;lia)
  rw[aR]
  by_cases j:xs.length=ys.length
  .have f:aa7.toArray.size=its'.toArray.size:=by simp;lia
   rw[f]at this;simp only[YU,beq_self_eq_true,YF]at this;have h:its'.toArray.size=xs.length:=by simp;lia
   rw[h,lm j]at this;exact this
  have f:(aa7.toArray.size==its'.toArray.size)=false:=by simp;lia
  rw[f,Xv]at this;rw[dO j];exact this
theorem PV(t1:s.heap.IsList p aa7.toArray)(t2:s.heap.IsList p' its'.toArray)(j:Hrs s.heap xs aa7)(l:Hrs s.heap ys its')(fd:cP n (.lst xs)=true)(m:cP n (.lst ys)=true)(v:A.units+n<kB):
  Y9 A s (.ref p) (.ref p') (aR (.lst xs)<|.lst ys):=by
 cases n with
 |zero=>trivial
 |succ n=>
  have q:=j.length;have o:=l.length;rw[aR]
  by_cases h:xs.length=ys.length
  .have:=YN (A:=A) t1 t2 (by simp;lia) (by lia) (lS j l fd m<|by show A.units+1+n<kB;lia)
   have f:aa7.toArray.size=xs.length:=by simp;lia
   rw[f,lm h]at this;exact this
  rw[dO h];exact XX t1 t2 (by simp;lia) (by lia)
theorem HN(t1:s.heap.IsTuple p aa7.toArray)(t2:s.heap.IsTuple p' its'.toArray)(l:Hrs s.heap xs aa7)(m:Hrs s.heap ys its')(fd:cP n (.tup xs)=true)(o:cP n (.tup ys)=true)(w:A.units+n<kB):
  YH A s (.ref p) (.ref p') (!aR (.tup xs) (.tup ys)):=by
 cases n with
 |zero=>trivial
 |succ n=>
  have q:=l.length;have v:=m.length;have:=SeqAt.RcNeAt.tuples (A:=A) t1 t2 (by lia) (lS l m fd o<|by show A.units+1+n<kB;lia)
  rw[aR]
  by_cases j:xs.length=ys.length
  .have f:aa7.toArray.size=its'.toArray.size:=by simp;lia
   rw[f]at this;simp only[YU,beq_self_eq_true,YF]at this;have h:its'.toArray.size=xs.length:=by simp;lia
   rw[h,lm j]at this;exact this
  have f:(aa7.toArray.size==its'.toArray.size)=false:=by simp;lia
  rw[f,Xv]at this;rw[dO j];exact this
theorem Er(t1:s.heap.IsList p aa7.toArray)(t2:s.heap.IsList p' its'.toArray)(j:Hrs s.heap xs aa7)(l:Hrs s.heap ys its')(fd:cP n (.lst xs)=true)(m:cP n (.lst ys)=true)(v:A.units+n<kB):
  YH A s (.ref p) (.ref p') (!aR (.lst xs) (.lst ys)):=by
 cases n with
 |zero=>trivial
 |succ n=>
  have q:=j.length;have o:=l.length;rw[aR]
  by_cases h:xs.length=ys.length
  .have:=SeqAt.RcNeAt.lists (A:=A) t1 t2 (by simp;lia) (by lia) (lS j l fd m<|by show A.units+1+n<kB;lia)
   have f:aa7.toArray.size=xs.length:=by simp;lia
   rw[f,lm h]at this;exact this
  rw[dO h];exact SeqAt.RcNeAt.lists_lengths t1 t2 (by simp;lia) (by lia)
theorem Ry{e:D}(z:Hr s.heap d u)(h:Hr s.heap e w)(fd:cP n d=true)(G:cP n e=true)(F:A.units+n<kB):Y9 A s u w (aR d e):=by
 have j:A.units<cLine:=by lia
 cases d with
 |non=>
  cases z;cases e with
  |non=>
   cases h;simpa [aR,UT] using SeqAt.RcAt.none_none
  |bl y=>
   cases h;simpa [aR] using SeqAt.RcAt.none_bool y
  |int y=>
   obtain⟨f,rfl⟩:=h;simpa [aR] using SeqAt.RcAt.none_int y f
  |str y=>
   obtain⟨f,rfl⟩:=h;simpa [aR] using SeqAt.RcAt.none_str y f
  |tup y=>
   obtain⟨v,l,rfl,ty,o⟩:=h;simpa [aR] using SeqAt.RcAt.none_tuple ty j
  |lst y=>
   obtain⟨v,l,rfl,ty,o⟩:=h;simpa [aR] using SeqAt.RcAt.none_list ty j
  |_=>exact(show False from h).elim
 |bl x=>
  cases z;cases e with
  |non=>
   cases h;simpa [aR] using SeqAt.RcAt.bool_none x
  |bl y=>
   cases h;simpa [aR,UT] using SeqAt.RcAt.bool_bool x y
  |int y=>
   obtain⟨f,rfl⟩:=h;simpa [aR,UT] using SeqAt.RcAt.bool_int x y f
  |str y=>
   obtain⟨f,rfl⟩:=h;simpa [aR] using SeqAt.RcAt.bool_str x y f
  |tup y=>
   obtain⟨v,l,rfl,ty,o⟩:=h;simpa [aR] using SeqAt.RcAt.bool_tuple x ty j
  |lst y=>
   obtain⟨v,l,rfl,ty,o⟩:=h;simpa [aR] using SeqAt.RcAt.bool_list x ty j
  |_=>exact(show False from h).elim
 |int x=>
  obtain⟨m,rfl⟩:=z;cases e with
  |non=>
   cases h;simpa [aR] using SeqAt.RcAt.int_none x m
  |bl y=>
   cases h;simpa [aR,UT] using SeqAt.RcAt.int_bool x m y
  |int y=>
   obtain⟨f,rfl⟩:=h;simpa [aR,UT] using SeqAt.RcAt.int_int x m y f
  |str y=>
   obtain⟨f,rfl⟩:=h;simpa [aR] using SeqAt.RcAt.int_str x m y f
  |tup y=>
   obtain⟨v,l,rfl,ty,o⟩:=h;simpa [aR] using SeqAt.RcAt.int_tuple x m ty j
  |lst y=>
   obtain⟨v,l,rfl,ty,o⟩:=h;simpa [aR] using SeqAt.RcAt.int_list x m ty j
  |_=>exact(show False from h).elim
 |str x=>
  obtain⟨m,rfl⟩:=z;cases e with
  |non=>
   cases h;simpa [aR] using SeqAt.RcAt.str_none x m
  |bl y=>
   cases h;simpa [aR] using SeqAt.RcAt.str_bool x m y
  |int y=>
   obtain⟨f,rfl⟩:=h;simpa [aR] using SeqAt.RcAt.str_int x m y f
  |str y=>
   obtain⟨f,rfl⟩:=h;simpa [aR,UT] using SeqAt.RcAt.str_str x m y f
  |tup y=>
   obtain⟨v,l,rfl,ty,o⟩:=h;simpa [aR] using SeqAt.RcAt.str_tuple x m ty j
  |lst y=>
   obtain⟨v,l,rfl,ty,o⟩:=h;simpa [aR] using SeqAt.RcAt.str_list x m ty j
  |_=>exact(show False from h).elim
 |tup x=>
  obtain⟨I,C,rfl,q,E⟩:=z;cases e with
  |non=>
   cases h;simpa [aR] using SeqAt.RcAt.tuple_none q j
  |bl y=>
   cases h;simpa [aR] using SeqAt.RcAt.tuple_bool y q j
  |int y=>
   obtain⟨f,rfl⟩:=h;simpa [aR] using SeqAt.RcAt.tuple_int y f q j
  |str y=>
   obtain⟨f,rfl⟩:=h;simpa [aR] using SeqAt.RcAt.tuple_str y f q j
  |tup y=>
   obtain⟨v,l,rfl,ty,o⟩:=h;exact Qc q ty E o fd G F
  |lst y=>
   obtain⟨v,l,rfl,ty,o⟩:=h;simpa [aR] using SeqAt.RcAt.tuple_list q ty j
  |_=>exact(show False from h).elim
 |lst x=>
  obtain⟨I,C,rfl,q,E⟩:=z;cases e with
  |non=>
   cases h;simpa [aR] using SeqAt.RcAt.list_none q j
  |bl y=>
   cases h;simpa [aR] using SeqAt.RcAt.list_bool y q j
  |int y=>
   obtain⟨f,rfl⟩:=h;simpa [aR] using SeqAt.RcAt.list_int y f q j
  |str y=>
   obtain⟨f,rfl⟩:=h;simpa [aR] using SeqAt.RcAt.list_str y f q j
  |tup y=>
   obtain⟨v,l,rfl,ty,o⟩:=h;simpa [aR] using SeqAt.RcAt.list_tuple q ty j
  |lst y=>
   obtain⟨v,l,rfl,ty,o⟩:=h;exact PV q ty E o fd G F
  |_=>exact(show False from h).elim
 |_=>exact(show False from z).elim
theorem Lq{e:D}(z:Hr s.heap d u)(h:Hr s.heap e w)(fd:cP n d=true)(G:cP n e=true)(F:A.units+n<kB):YH A s u w (!aR d e):=by
 have j:A.units<cLine:=by lia
 cases d with
 |non=>
  cases z;cases e with
  |non=>
   cases h;simpa [aR,UT] using SeqAt.RcNeAt.none_none
  |bl y=>
   cases h;simpa [aR] using SeqAt.RcNeAt.none_bool y
  |int y=>
   obtain⟨f,rfl⟩:=h;simpa [aR] using SeqAt.RcNeAt.none_int y f
  |str y=>
   obtain⟨f,rfl⟩:=h;simpa [aR] using SeqAt.RcNeAt.none_str y f
  |tup y=>
   obtain⟨v,l,rfl,ty,o⟩:=h;simpa [aR] using SeqAt.RcNeAt.none_tuple ty j
  |lst y=>
   obtain⟨v,l,rfl,ty,o⟩:=h;simpa [aR] using SeqAt.RcNeAt.none_list ty j
  |_=>exact(show False from h).elim
 |bl x=>
  cases z;cases e with
  |non=>
   cases h;simpa [aR] using SeqAt.RcNeAt.bool_none x
  |bl y=>
   cases h;simpa [aR,UT] using SeqAt.RcNeAt.bool_bool x y
  |int y=>
   obtain⟨f,rfl⟩:=h;simpa [aR,UT] using SeqAt.RcNeAt.bool_int x y f
  |str y=>
   obtain⟨f,rfl⟩:=h;simpa [aR] using SeqAt.RcNeAt.bool_str x y f
  |tup y=>
   obtain⟨v,l,rfl,ty,o⟩:=h;simpa [aR] using SeqAt.RcNeAt.bool_tuple x ty j
  |lst y=>
   obtain⟨v,l,rfl,ty,o⟩:=h;simpa [aR] using SeqAt.RcNeAt.bool_list x ty j
  |_=>exact(show False from h).elim
 |int x=>
  obtain⟨m,rfl⟩:=z;cases e with
  |non=>
   cases h;simpa [aR] using SeqAt.RcNeAt.int_none x m
  |bl y=>
   cases h;simpa [aR,UT] using SeqAt.RcNeAt.int_bool x m y
  |int y=>
   obtain⟨f,rfl⟩:=h;simpa [aR,UT] using SeqAt.RcNeAt.int_int x m y f
  |str y=>
   obtain⟨f,rfl⟩:=h;simpa [aR] using SeqAt.RcNeAt.int_str x m y f
  |tup y=>
   obtain⟨v,l,rfl,ty,o⟩:=h;simpa [aR] using SeqAt.RcNeAt.int_tuple x m ty j
  |lst y=>
   obtain⟨v,l,rfl,ty,o⟩:=h;simpa [aR] using SeqAt.RcNeAt.int_list x m ty j
  |_=>exact(show False from h).elim
 |str x=>
  obtain⟨m,rfl⟩:=z;cases e with
  |non=>
   cases h;simpa [aR] using SeqAt.RcNeAt.str_none x m
  |bl y=>
   cases h;simpa [aR] using SeqAt.RcNeAt.str_bool x m y
  |int y=>
   obtain⟨f,rfl⟩:=h;simpa [aR] using SeqAt.RcNeAt.str_int x m y f
  |str y=>
   obtain⟨f,rfl⟩:=h;simpa [aR,UT] using SeqAt.RcNeAt.str_str x m y f
  |tup y=>
   obtain⟨v,l,rfl,ty,o⟩:=h;simpa [aR] using SeqAt.RcNeAt.str_tuple x m ty j
  |lst y=>
   obtain⟨v,l,rfl,ty,o⟩:=h;simpa [aR] using SeqAt.RcNeAt.str_list x m ty j
  |_=>exact(show False from h).elim
 |tup x=>
  obtain⟨I,C,rfl,q,E⟩:=z;cases e with
  |non=>
   cases h;simpa [aR] using SeqAt.RcNeAt.tuple_none q j
  |bl y=>
   cases h;simpa [aR] using SeqAt.RcNeAt.tuple_bool y q j
  |int y=>
   obtain⟨f,rfl⟩:=h;simpa [aR] using SeqAt.RcNeAt.tuple_int y f q j
  |str y=>
   obtain⟨f,rfl⟩:=h;simpa [aR] using SeqAt.RcNeAt.tuple_str y f q j
  |tup y=>
   obtain⟨v,l,rfl,ty,o⟩:=h;exact HN q ty E o fd G F
  |lst y=>
   obtain⟨v,l,rfl,ty,o⟩:=h;simpa [aR] using SeqAt.RcNeAt.tuple_list q ty j
  |_=>exact(show False from h).elim
 |lst x=>
  obtain⟨I,C,rfl,q,E⟩:=z;cases e with
  |non=>
   cases h;simpa [aR] using SeqAt.RcNeAt.list_none q j
  |bl y=>
   cases h;simpa [aR] using SeqAt.RcNeAt.list_bool y q j
  |int y=>
   obtain⟨f,rfl⟩:=h;simpa [aR] using SeqAt.RcNeAt.list_int y f q j
  |str y=>
   obtain⟨f,rfl⟩:=h;simpa [aR] using SeqAt.RcNeAt.list_str y f q j
  |tup y=>
   obtain⟨v,l,rfl,ty,o⟩:=h;simpa [aR] using SeqAt.RcNeAt.list_tuple q ty j
  |lst y=>
   obtain⟨v,l,rfl,ty,o⟩:=h;exact Er q ty E o fd G F
  |_=>exact(show False from h).elim
 |_=>exact(show False from z).elim
section
variable{aa1:abf}
mutual
theorem Np(I:Inv X aa1 Z H s):∀{n:Nat}{d:D}{v:V}{u:ay},cP n d=true->Rp X.K H d v->RelV v u->Hr s.heap d u
 |_,.non,v,u,_,r,q=>by cases r;exact q
 |_,.bl _,v,u,_,r,q=>by cases r;exact q
 |_,.int _,v,u,_,r,q=>by cases r;exact q
 |_,.str _,v,u,_,r,q=>by cases r;exact q
 |n+1,.tup xs,v,u,f,r,q=>by
  obtain⟨p,l,rfl,t,r⟩:=r;cases q;obtain⟨aa7,h,j,_⟩:=I.tuple t.sq;exact#[p,aa7,rfl,j,gO I (n:=n) f r h]
 |n+1,.lst xs,v,u,f,r,q=>by
  obtain⟨p,l,rfl,t,r⟩:=r;cases q;obtain⟨aa7,h,j,_⟩:=I.list t.sq;exact#[p,aa7,rfl,j.isList,gO I (n:=n) f r h]
 |0,.tup _,_,_,f,_,_=>by simp[cP]at f
 |0,.lst _,_,_,f,_,_=>by simp[cP]at f
 |_,.ty _,_,_,f,_,_=>by simp[cP]at f
 |_,.ref _,_,_,f,_,_=>by simp[cP]at f
 |_,.mt _,_,_,f,_,_=>by simp[cP]at f
 |_,.ml _,_,_,f,_,_=>by simp[cP]at f
 |_,.fd _ _,_,_,f,_,_=>by simp[cP]at f
theorem gO(I:Inv X aa1 Z H s):∀{n:Nat}{ds:List D}{vs:List V}{us:aba},fits n ds=true->Rps X.K H ds vs->Vals vs us->Hrs s.heap ds us
 |_,[],vs,us,_,r,q=>by cases r;cases q;rfl
 |n,d::ds,vs,us,f,r,q=>by
  obtain⟨v,h,rfl,a,b⟩:=r;rw[fits,Vw]at f;cases q with
  |cons q1 q2=>exact#[_,_,rfl,Np I f.1 a q1,gO I f.2 b q2]
end
def dv(M:Mem):D->D
 |.ref a=>match M a with
  |some (.lst xs)=>.lst xs
  |_=>.ref a
 |d=>d
theorem qF(I:Inv X aa1 Z H s)(o:RepH X.K H M)(f:cP n (dv M d)=true)(r:Rp X.K H d v)(q:RelV v u):Hr s.heap (dv M d) u:=by
 cases d with
 |ref a=>
  cases r;simp[dv]at f ⊢
  split at f
  .rename_i y e
   obtain⟨w,j,h⟩:=o _ _ e;obtain⟨aa7,l,m,_⟩:=I.list (SqL.of j);cases q;cases n with
   |zero=>trivial
   |succ n=>exact#[a,_,rfl,m.isList,gO I f h l]
  trivial
 |_=>exact Np I f r q
def bW:g7:=λx y M Q=>cP 60 (dv M x)=true/\cP 60 (dv M y)=true/\Q (.bl<|aR (dv M x)<|dv M y) M
def pO:g7:=λx y M Q=>cP 60 (dv M x)=true/\cP 60 (dv M y)=true/\Q (.bl<|!aR (dv M x) (dv M y)) M
theorem Hl(F:X.A.units+64<kB):cQ X (hG .Eq) (liftR2 X bW):=by
 rintro aa1 s Z H x y v u Q I z q ⟨E,C,M,QQ,f,w,m,⟨j,l,h⟩,o⟩
 exact Ry (qF I f j w z) (qF I f l m q) j l (by lia) _ _ _ _ #[.bl _,H,I,rfl,o _ M h _ H f Frm.refl rfl]
theorem PM(F:X.A.units+64<kB):cQ X (hG .NotEq) (liftR2 X pO):=by
 rintro aa1 s Z H x y v u Q I z q ⟨E,C,M,QQ,f,w,m,⟨j,l,h⟩,o⟩
 exact Lq (qF I f j w z) (qF I f l m q) j l (by lia) _ _ _ _ #[.bl _,H,I,rfl,o _ M h _ H f Frm.refl rfl]
open Classical in
noncomputable def My(h:g3)(x:D)(u:ay):Bool:=if q:∃d,Hr h d u then aR q.choose x else cx
theorem Gx{x:D}(r:Hr h d u):My h x u=aR d x:=by
 have q:∃d,Hr h d u:=#[d,r];unfold My;rw[dif_pos q,Hb q.choose_spec r]
theorem jc{x:D}:∀{ds:List D}{us:aba},Hrs h ds us->us.any (My h x)=ds.any λd=>aR d x
 |[],_,r=>by cases r;rfl
 |d::ds,_,r=>by
  obtain⟨v,f,rfl,a,b⟩:=r;rw[WE,WE,Gx a,jc b]
theorem j6{n:Nat}{x:D}(l:Hr s.heap x w)(m:cP n x=true)(j:A.units+n<kB):∀{ds:List D}{us:aba},Hrs s.heap ds us->fits n ds=true->∀u∈us,Xm A s u w (My s.heap x u)
 |[],_,r,_,u,j=>by cases r;cases j
 |d::ds,_,r,f,u,h=>by
  obtain⟨v,o,rfl,a,b⟩:=r;rw[fits,Vw]at f;rcases Uk.mp h with rfl|h
  .rw[Gx a];exact LK n a l f.1 m j
  exact j6 l m j b f.2 u h
def iG(M:Mem)(x y:D):Option Bool:=match aQ M y with
 |some xs=>if cP 60 (dv M x)=true/\fits 60 xs=true then ap (xs.any λd=>aR d (dv M x)) else ca
 |none=>match y with
  |.ref a=>match uM M a x with
   |some o=>ap o.isSome
   |none=>ca
  |_=>ca
def wl:g7:=λx y M Q=>so (iG M x y) λk=>Q (.bl k) M
def iQ:g7:=λx y M Q=>so (iG M x y) λk=>Q (.bl<|!k) M
theorem EU(U:X.A.units+64<kB):cQ X (hG .In) (liftR2 X wl):=by
 rintro aa1 s Z H x y v u Q I m E ⟨G,S,M,QQ,l,C,z,h,P⟩
 unfold wl at h;obtain⟨k,e,h⟩:=h.inv;have fin:=P _ M h _ H l Frm.refl rfl;unfold iG at e
 split at e
 .rename_i T O
  split at e
  .rename_i f
   cases e;obtain⟨p,R,rfl,hq,r⟩:=jk l z O;cases E;have F:=qF I l f.1 C m;rcases hq with hq|hq
   .obtain⟨aa7,q,pl,_⟩:=I.list hq
    have j:=gO I f.2 r q;refine SeqAt.in_listAt _ pl.isList (λw J=>j6 F f.1 (by show X.A.units+1+60<kB;lia) j f.2 w (by simp_all)) #[.bl _,H,I,rfl,?_]
    rw[show aa7.toArray.any _=aa7.any (My s.heap<|dv M G) by simp,jc j]
    exact fin
   obtain⟨aa7,q,pl,_⟩:=I.tuple hq;have j:=gO I f.2 r q;refine SeqAt.in_tupleAt _ pl (λw J=>j6 F f.1 (by show X.A.units+1+60<kB;lia) j f.2 w (by simp_all)) #[.bl _,H,I,rfl,?_]
   rw[show aa7.toArray.any _=aa7.any (My s.heap<|dv M G) by simp,jc j]
   exact fin
  cases e
 split at e
 .split at e
  .rename_i o L
   cases e;cases z;cases E;rcases rD l C L with⟨rfl,g⟩|⟨d,w,rfl,g,_⟩
   .exact RS (by lia) I g m λN I'=>#[.bl _,H,I',rfl,fin]
   exact RS (by lia) I g m λN I'=>#[.bl _,H,I',rfl,fin]
  cases e
 cases e
theorem DZ(U:X.A.units+64<kB):cQ X (hG .NotIn) (liftR2 X iQ):=by
 rintro aa1 s Z H x y v u Q I m E ⟨G,S,M,QQ,l,C,z,h,P⟩
 unfold iQ at h;obtain⟨k,e,h⟩:=h.inv;have fin:=P _ M h _ H l Frm.refl rfl;unfold iG at e
 split at e
 .rename_i T O
  split at e
  .rename_i f
   cases e;obtain⟨p,R,rfl,hq,r⟩:=jk l z O;cases E;have F:=qF I l f.1 C m;rcases hq with hq|hq
   .obtain⟨aa7,q,pl,_⟩:=I.list hq
    have j:=gO I f.2 r q;refine SeqAt.notIn_listAt _ pl.isList (λw J=>j6 F f.1 (by show X.A.units+1+60<kB;lia) j f.2 w (by simp_all)) #[.bl _,H,I,rfl,?_]
    rw[show aa7.toArray.any _=aa7.any (My s.heap<|dv M G) by simp,jc j]
    exact fin
   obtain⟨aa7,q,pl,_⟩:=I.tuple hq;have j:=gO I f.2 r q;refine SeqAt.notIn_tupleAt _ pl (λw J=>j6 F f.1 (by show X.A.units+1+60<kB;lia) j f.2 w (by simp_all)) #[.bl _,H,I,rfl,?_]
   rw[show aa7.toArray.any _=aa7.any (My s.heap<|dv M G) by simp,jc j]
   exact fin
  cases e
 split at e
 .split at e
  .rename_i o L
   cases e;cases z;cases E;rcases rD l C L with⟨rfl,g⟩|⟨d,w,rfl,g,_⟩
   .exact yM (by lia) I g m λN I'=>#[.bl _,H,I',rfl,fin]
   exact yM (by lia) I g m λN I'=>#[.bl _,H,I',rfl,fin]
  cases e
 cases e
end
structure DEnds where
 nx:Dl->Mem->Prop
 rt:DK
 bk:Dl->Mem->Prop:=λ_ _=>False
 ct:Dl->Mem->Prop:=λ_ _=>False
abbrev ar:=DEnds->Dl->Mem->Prop
def UpN(X:Cx)(B:Bd)(M:Mem)(H:Hp)(QQ:Dl->Mem->Prop)(Q:_2.St->Hp->Prop):Prop:=∀U M',QQ U M'->∀Z H',Frm M H M' H'->SR X B U M' Z H'->Q Z H'
theorem UpN.go{M1:Mem}(u:UpN X B M H QQ Q)(i:Frm M H M1 H1):UpN X B M1 H1 QQ Q:=λU M q Z H' a=>u U M q Z H' (i.trans a)
structure UpD(X:Cx)(B:Bd)(M:Mem)(H:Hp)(DD:DEnds)(D:Ends):Prop where
 nx:UpN X B M H DD.nx D.nx
 rt:Up X.K M H DD.rt D.rt
 bk:UpN X B M H DD.bk D.bk
 ct:UpN X B M H DD.ct D.ct
theorem UpD.go{M1:Mem}{D:Ends}(u:UpD X B M H DD D)(i:Frm M H M1 H1):UpD X B M1 H1 DD D:=#[u.nx.go i,u.rt.go i,u.bk.go i,u.ct.go i]
inductive liftS(X:Cx)(B:Bd)(T:ar)(D:Ends)(Z:St)(H:Hp):Prop
 |mk (U:Dl) (M:Mem) (DD:DEnds) (s:SR X B U M Z H) (h:T DD U M) (u:UpD X B M H DD D):liftS X B T D Z H
def DS(X:Cx)(B:Bd)(st:mu)(T:ar):Prop:=PS X st (liftS X B T)
def zj(X:Cx)(B:Bd)(st:abd)(T:ar):Prop:=AM X st (liftS X B T)
section
variable{u:ar}
def aB:ar:=λD U M=>D.nx U M
def ai(t u:ar):ar:=λD U M=>t { D with nx:=u D } U M
theorem Lb:zj X B [] aB:=mD J6 (by rintro D Z H ⟨U,M,DD,s,h,f⟩;exact f.nx U M h Z H Frm.refl s)
theorem fh(v:DS X B st t)(o:zj X B rest u):zj X B (st::rest) (ai t u):=by
 refine mD (F3 v o) ?_
 rintro D Z H ⟨U,M,DD,s,h,f⟩
 exact#[U,M,_,s,h,#[λj M' q l H' i m=>#[_,M',DD,m,q,f.go i],f.rt,f.bk,f.ct]]
theorem h_(f:DS X B st t):zj X B [st] t:=Kc f
def a_(te:b6):ar:=λD U M=>te U M λ_ M1=>D.nx U M1
theorem Jd(m:DE X B e te)(l:py e ca pos.line X.env=pure false:=by rfl):DS X B (.Expr e pos) (a_ te):=by
 refine ce (Lp m l) ?_
 rintro D Z H ⟨U,M,DD,s,h,f⟩
 exact#[U,M,_,s,h,λd M' q v H' j i r=>f.nx U M' q Z H' i (s.go j i)]
def az(te:b6):ar:=λD U M=>te U M D.rt
theorem NC(j:DE X B e te):DS X B (.Return (ap e) pos) (az te):=by
 refine ce (O6 j) ?_
 rintro D Z H ⟨U,M,DD,s,h,f⟩
 exact#[U,M,_,s,h,f.rt]
def aE(c:fb)(t u:ar):ar:=λD U M=>c U M λb M1=>if b=true then t D U M1 else u D U M1
theorem Rc{a b:abd}(m:DT X B c f)(v:zj X B a t)(o:zj X B b u):DS X B (.If c a b pos) (aE f t u):=by
 refine ce (TW m v o) ?_
 rintro D Z H ⟨U,M,DD,s,h,j⟩
 refine#[U,M,_,s,h,λc M' q H' l i=>?_];cases c with
 |_=>exact#[U,M',DD,s.go l i,q,j.go i]
abbrev k4:=D->Dl->Mem->(Dl->Mem->Prop)->Prop
abbrev pK:=List D->Dl->Mem->(Dl->Mem->Prop)->Prop
inductive liftG(X:Cx)(B:Bd)(g:k4)(v:V)(Z:St)(H:Hp)(Q:St->Hp->Prop):Prop
 |mk (d:_3.D) (U:Dl) (M:Mem) (QQ:Dl->Mem->Prop) (s:SR X B U M Z H) (r:Rp X.K H d v) (h:g d U M QQ) (u:UpN X B M H QQ Q):liftG X B g v Z H Q
inductive liftGs(X:Cx)(B:Bd)(g:pK)(vs:List V)(Z:St)(H:Hp)(Q:St->Hp->Prop):Prop
 |mk (ds:List _3.D) (U:Dl) (M:Mem) (QQ:Dl->Mem->Prop) (s:SR X B U M Z H) (r:Rps X.K H ds vs) (h:g ds U M QQ) (u:UpN X B M H QQ Q):liftGs X B g vs Z H Q
def DG(X:Cx)(B:Bd)(tg:eT)(g:k4):Prop:=PG X tg (liftG X B g)
def RG(X:Cx)(B:Bd)(tgs:abc)(g:pK):Prop:=Qd X tgs (liftGs X B g)
theorem lO(h:PG X tg t)(w:∀v Z H Q,t' v Z H Q->t v Z H Q):PG X tg t':=λf s Z H v u Q I r q=>h _ s Z H v u Q I r (w v Z H Q q)
theorem uL(h:Qd X tg t)(w:∀v Z H Q,t' v Z H Q->t v Z H Q):Qd X tg t':=λf s Z H v u Q I r q=>h _ s Z H v u Q I r (w v Z H Q q)
theorem SR.set(s:SR X B U M Z H)(r:Rp X.K H d v):SR X B (U.set i<|some d) M (Z.set i<|some v) H:=#[s.i0,s.rh,s.rs.set r]
def af(i:Nat):k4:=λd U M Q=>Q (U.set i<|some d) M
theorem IG(f:X.N.Nodup)(l:X.N[i]?=ap x)(j:Ii X.env.scope x)(m:X.fn x=true\/X.env.scope.names.lookup x=ap .local:=by and_intros):DG X B (.Name x pos) (af i):=by
 refine lO (Kb f l j m) ?_
 rintro v Z H Q ⟨d,U,M,QQ,s,r,h,u⟩
 exact u _ M h _ H Frm.refl (s.set r)
def dg:pK:=λf U M Q=>nil0 f (Q U M)
def aM(t:k4)(u:pK):pK:=λh U M Q=>cns h λd r=>t d U M λf M'=>u r f M' Q
theorem Kr:RG X B [] dg:=by
 refine uL JH ?_
 rintro v Z H Q ⟨f,U,M,QQ,s,r,h,u⟩
 cases f with
 |nil=>exact#[r,u U M h Z H Frm.refl s]
 |cons _ _=>trivial
theorem Ey{u:pK}(F:DG X B e t)(C:RG X B es u)(E:(mm (e::es) X.env).map (·.2)=aan e X.env::(mm es X.env).map (·.2):=by rfl):RG X B (e::es) (aM t u):=by
 refine uL (GQ F C E) ?_
 rintro v Z H Q ⟨f,U,M,QQ,s,r,h,o⟩
 cases f with
 |nil=>trivial
 |cons d f=>
  obtain⟨v1,l,rfl,w,m⟩:=r;exact#[v1,l,rfl,d,U,M,_,s,w,h,λj M' q y H' i z=>#[f,_,M',QQ,z,m.mf s.rh i,q,o.go i]]
def dm(n:Nat)(t:pK):k4:=λd U M Q=>onT d λf=>f.length=n/\t f U M Q
theorem OG(o:X.calm=true)(h:RG X B es t)(m:(mm es X.env).length=n:=by rfl)(hst:(mm es X.env).findIdx? (·.1)=none:=by rfl):DG X B (.Tuple es k pos) (dm n t):=by
 refine lO (OA o h m hst) ?_
 rintro v Z H Q ⟨d,U,M,QQ,s,r,h,f⟩
 cases d with
 |tup xs=>
  obtain⟨p,l,rfl,j,r⟩:=r;exact#[p,l,rfl,j.sq,by rw[<- r.length];exact h.1,xs,U,M,QQ,s,r,h.2,f]
 |_=>exact h.elim
def aq(te:b6)(g:k4):ar:=λD U M=>te U M λx M1=>g x U M1 D.nx
theorem P5(o:DE X B e te)(m:DG X B tg g)(l:swapsWithSole [tg] e pos.line X.env=pure false:=by rfl)(hw:swappedStores [tg] e X.env=pure none:=by rfl)(h1:(mm [tg] X.env).map (·.2)=[aan tg X.env]:=by rfl):DS X B (.Assign [tg] e pos) (aq te g):=by
 refine ce (Oy o m l hw h1) ?_
 rintro D Z H ⟨U,M,DD,s,h,f⟩
 exact#[U,M,_,s,h,λd M' q v H' j i r=>#[d,U,M',_,s.go j i,r,q,f.nx.go i]]
theorem QO(w:X.N.Nodup)(o:X.N[i]?=ap x)(l:Ii X.env.scope x)(m:DE X B e te)(y:py e (ap<|.Name x pos') pos.line X.env=pure false:=by rfl)(hf:X.fn x=true\/X.env.scope.names.lookup x=ap .local:=by and_intros):
  DS X B (.Assign [.Name x pos'] e pos) (aq te<|af i):=by
 refine ce (Qu w o l m y hf) ?_
 rintro D Z H ⟨U,M,DD,s,h,f⟩
 exact#[U,M,_,s,h,λd M' q v H' j i r=>f.nx _ M' q _ H' i ((s.go j i).set r)]
def HX(i:Nat)(te:b6)(r:g7):ar:=λD U M=>s2 (U[i]?) λx=>te U M λy M1=>r x y M1 λz M2=>D.nx (U.set i<|some z) M2
theorem OO{r:g7}(R:X.N.Nodup)(P:X.N[i]?=ap x)(L:Ii X.env.scope x)(O:DE X B e te)(S:NJ X m (liftR2 X r))(Q:X.fn x=true\/X.env.scope.names.lookup x=ap .local:=by and_intros):
  DS X B (.AugAssign (.Name x pos') m e pos) (HX i te r):=by
 refine ce (OY R P L O S Q) ?_
 rintro D Z H ⟨U,M,DD,s,h,G⟩
 unfold HX at h;obtain⟨l,E,h⟩:=h.inv;obtain⟨v,F,J⟩:=s.rs.get i l E;exact#[v,F,U,M,_,s,h,λy M1 C w H1 f i1 I=>#[l,y,M1,_,f,J.mf s.rh i1,I,C,λz M2 o T H2 j i2 q=>G.nx _ M2 o _ H2 (i1.trans i2) ((s.go j<|i1.trans i2).set q)]]
theorem T3{g:Int->Int->Int}(h:NJ X m (ipI g)):NJ X m (liftR2 X (lE λi j=>.int (g i j))):=by
 rintro l s Z H x y v u Q I C w ⟨G,F,M,QQ,E,z,o,f,q⟩
 unfold lE at f
 replace f:=f.inv;obtain⟨_,rfl,f⟩:=f
 replace f:=f.inv;obtain⟨_,rfl,f⟩:=f
 cases z;cases o;exact h _ s Z H _ _ v u Q I C w #[_,_,rfl,rfl,q _ M f _ H E Frm.refl rfl]
abbrev Fg:g7:=lE λi j=>.int (i+j)
theorem IP:NJ X .Add (liftR2 X Fg):=T3 NS
def sW(o i v:D)(M:Mem)(Q:Mem->Prop):Prop:=onR o λa=>mSet (M a) (λxs=>onI i λk=>so (xP xs.length k) λj=>Q (M.upd a<|.lst<|xs.set j v)) (λf=>so (cN i) λk=>f.length<sizeLine/\Q (M.upd a<|.dK<|eD f k v)) λf=>so (Da i) λk=>f.length<sizeLine/\Q (M.upd a<|.dT<|eD f k v)
inductive liftSet(X:Cx)(o i v:V)(H:Hp)(Q:Hp->Prop):Prop
 |mk (d1 d2 d3:_3.D) (M:Mem) (QQ:Mem->Prop) (rh:RepH X.K H M) (r1:Rp X.K H d1 o) (r2:Rp X.K H d2 i) (r3:Rp X.K H d3 v) (h:sW d1 d2 d3 M QQ) (u:∀M',QQ M'->∀H',RepH X.K H' M'->Frm M H M' H'->Q H'):liftSet X o i v H Q
theorem JF(hu:X.A.units+1<kB):Oi X (liftSet X):=by
 rintro aa1 s Z H o i v ov iv u Q I ro ri rv ⟨d1,d2,d3,M,QQ,rh,r1,r2,r3,h,up⟩
 unfold sW at h
 replace h:=h.inv;obtain⟨a,rfl,h⟩:=h
 cases r1;cases ro
 replace h:=h.inv;rcases h with⟨xs,hM,h⟩|⟨aa3,hM,h⟩|⟨aa3,hM,h⟩
 .replace h:=h.inv;obtain⟨k,rfl,h⟩:=h
  cases r2;obtain⟨vs,h1,h2⟩:=rh _ _ hM;obtain⟨j,ej,h⟩:=h.inv;exact GT _ s Z H (.ref a) _ v _ iv u Q I rfl ri rv #[a,vs,k,j,rfl,rfl,h1,by rw[<- h2.length];exact ej,up _ h _ (rh.put (by rw[h1];trivial) #[_,upd_same,(h2.set r3 j).mono<|Imm.upd<|by rw[h1];trivial])<|Frm.put<|.inr #[_,hM]]
 .obtain⟨ws,h1,h2⟩:=rh _ _ hM
  obtain⟨k,ek,h⟩:=h.inv;have ev:=ia r2 ek;subst ev;exact qG hu I (DPut.k h1<|by rw[<- h2.length];exact h.1) ri rv λs' I'=>#[_,I',up _ h.2 _ (rh.put (by rw[h1];trivial) #[_,upd_same,(h2.put k r3).mono<|Imm.upd<|by rw[h1];trivial])<|Frm.put<|.inr #[_,hM]]
 obtain⟨ws,h1,h2⟩:=rh _ _ hM;obtain⟨k,ek,h⟩:=h.inv;obtain⟨b,rfl,hb⟩:=n8 r2 ek;exact qG hu I (DPut.t h1 hb<|by rw[<- h2.length];exact h.1) ri rv λs' I'=>#[_,I',up _ h.2 _ (rh.put (by rw[h1];trivial) #[_,upd_same,(h2.put k r3).mono<|Imm.upd<|by rw[h1];trivial])<|Frm.put<|.inr #[_,hM]]
def cY(to ti:b6):k4:=λv U M Q=>to U M λo M1=>ti U M1 λi M2=>sW o i v M2 λM3=>Q U M3
theorem Pz{i:eT}(I:X.A.units+1<kB)(L:DE X B o to)(G:DE X B i m)(J:∀v,aan (.Subscript o i pos) X.env v=(do
   let ov <- q0 [v] (ff o X.env)
   let iv <- q0 [v,ov] (ff i X.env)
   L' pos
   q0 [v,ov,iv] (setItem ov iv v)
   release [v,ov,iv] []):=by intro _;rfl):DG X B (.Subscript o i pos) (cY to m):=by
 refine lO (NR L G (JF I) J) ?_
 rintro v Z H Q ⟨d,U,M,QQ,s,r,h,E⟩
 exact#[U,M,_,s,h,λx M1 z v1 H1 f i1 F=>#[U,M1,_,s.go f i1,z,λy M2 q v2 H2 j i2 w=>#[x,y,d,M2,_,j,F.mf f i2,w,r.mf s.rh (i1.trans i2),q,λM3 C H3 l i3=>E U M3 C Z H3 ((i1.trans i2).trans i3) (s.go l<|(i1.trans i2).trans i3)]]]
end
section
variable{f:Str}
def bV(f:Str)(v:D):List (Str×D)->List (Str×D)
 |[]=>[(f,v)]
 |(g,w)::r=>if g=f then (g,v)::r else (g,w)::bV f v r
theorem Rkv.lookup(h:Rkv K H fs j)(f:Str):(fs.lookup f=ca/\j.lookup f=ca)\/∃d v,fs.lookup f=ap d/\j.lookup f=ap v/\Rp K H d v:=by
 induction h with
 |nil=>exact .inl #[rfl,rfl]
 |@cons p q ps qs r t ih=>
  obtain⟨l,d⟩:=p;obtain⟨w,v⟩:=q;obtain⟨e,r⟩:=r;subst e;rw[V7,V7];cases m:f==l with
  |true=>exact .inr (by lia)
  |false=>exact ih
theorem putF_eq(f:Str)(v:V):∀h:List (Str×V),dA f v h=(match h with|[]=>[(f,v)]|(g,w)::r=>if g=f then (g,v)::r else (g,w)::dA f v r)
 |[]=>rfl
 |(g,w)::r=>by rw[dA]
theorem jH{K:Uh}{H:Hp}{f:Str}(h:Rp K H d v):∀{fs:List (Str×D)}{ws:List (Str×V)},Rkv K H fs ws->Rkv K H (bV f d fs) (_2.dA f v ws)
 |_,_,.nil=>.cons #[rfl,h] .nil
 |(k1,d1)::fs,(k2,v1)::ws,.cons r t=>by
  obtain⟨e,r⟩:=r;subst e;show Rkv K H (if k1=f then (k1,d)::fs else (k1,d1)::bV f d fs) (if k1=f then (k1,v)::ws else (k1,v1)::_2.dA f v ws)
  split
  .exact .cons #[rfl,h] t
  exact .cons #[rfl,r] (jH h t)
def aV(C:cp)(ta:b6)(f:Str):b6:=λU M Q=>ta U M λx M1=>onR x λa=>mN (M1 a) λC' fs=>C'=C/\so (fs.lookup f) λd=>Q d M1
theorem O2(c:Cls X.K C)(n:NoAttr X.K C f)(J:DE X B e ta)(I:kc e f X.env (ff e X.env)=ff e X.env:=by rfl):DE X B (.Attribute e f pos) (aV C ta f):=by
 refine aS (NK J I) ?_
 rintro Z H Q ⟨U,M,QQ,s,h,u⟩
 refine#[U,M,_,s,h,λx M1 j v1 H1 l i1 E=>?_]
 replace j:=j.inv;obtain⟨a,rfl,j⟩:=j
 cases E
 replace j:=j.inv;obtain⟨C',fs,F,j⟩:=j
 obtain⟨rfl,j⟩:=j;obtain⟨y,m,q,G⟩:=l _ _ F
 replace j:=j.inv;obtain⟨d,w,j⟩:=j
 rcases G.lookup f with⟨z,_⟩|⟨d',v,z1,z2,z3⟩
 .simp_all
 rw[w]at z1;cases z1;exact#[a,_,y,m,v,rfl,q,c,n,z2,u _ M1 j _ H1 l i1 z3]
def cE(C:cp)(ta tv:b6)(f:Str):ar:=λD U M=>tv U M λy M1=>ta U M1 λx M2=>onR x λa=>mN (M2 a) λC' fs=>C'=C/\fs.length<1000/\D.nx U (M2.upd a<|.ins C<|bV f y fs)
theorem QY(c:Cls X.K C)(n:NoAttr X.K C f)(ha:DE X B o ta)(hv:DE X B value tv)(hs:py value (ap<|.Attribute o f pos') pos.line X.env=pure false:=by rfl):DS X B (.Assign [.Attribute o f pos'] value pos) (cE C ta tv f):=by
 refine ce (Pp ha hv hs) ?_
 rintro D Z H ⟨U,M,DD,s,h,up⟩
 refine#[U,M,_,s,h,λy M1 h1 v1 H1 rh1 i1 r1=>?_];refine#[U,M1,_,s.go rh1 i1,h1,λx M2 h2 v2 H2 rh2 i2 r2=>?_]
 replace h2:=h2.inv;obtain⟨a,rfl,h2⟩:=h2
 cases r2;obtain⟨C',fs,hM,h2⟩:=h2.inv;obtain⟨rfl,hl,h2⟩:=h2;obtain⟨dx,ws,e1,e2⟩:=rh2 _ _ hM;have i3:Frm M2 H2 (M2.upd a<|.ins C'<|bV f y fs) (upd H2 a<|.ins C' dx<|_2.dA f v1 ws):=Frm.put (.inr #[_,hM]);exact#[a,C',dx,ws,rfl,e1,c,n,by rw[<- e2.length];exact hl,up.nx _ _ h2 Z _ ((i1.trans i2).trans i3)<|s.go (rh2.put (by rw[e1];trivial) #[dx,_,upd_same,(jH (r1.mf rh1 i2) e2).mono<|i3.imm rh2])<|(i1.trans i2).trans i3]
structure BxW(c:fb)(tb:ar)(D:DEnds):Type
structure BxF(g:k4)(tb:ar)(D:DEnds)(ok:Mem->Prop):Type
def cK(c:fb)(tb:ar)(D:DEnds)(bx:BxW c tb D):Nat->Dl->Mem->Prop
 |0,_,_=>False
 |n+1,U,M=>c U M λb M1=>if b=true then tb { D with nx:=cK c tb D bx n,ct:=cK c tb D bx n,bk:=D.nx } U M1 else D.nx U M1
def sD(c:fb)(tb:ar):ar:=λD U M=>∃n,cK c tb D #[] n U M
theorem FH(Q:aaI (ez X.prog X.w) X.A X.env X.xe)(R:DT X B c L)(S:zj X B j tb):DS X B (.While c j [] pos) (sD L tb):=by
 refine ce (Ex Q R S) ?_
 rintro D Z H ⟨U,M,DD,s,⟨n,h⟩,F⟩
 refine#[λm v H'=>∃δ' M',SR X B δ' M' v H'/\Frm M H M' H'/\cK L tb DD _ m δ' M',#[n,U,M,s,Frm.refl,h],?_]
 rintro m O H1 ⟨N,M1,y,i1,P⟩
 cases m with
 |zero=>trivial
 |succ m=>
  refine#[_,M1,_,y,P,λb M2 q H2 l i2=>?_];cases b with
  |false=>exact F.nx _ _ q _ H2 (i1.trans i2) (y.go l i2)
  |true=>
   exact#[_,λv H' z=>#[m,by lia,z],#[_,M2,_,y.go l i2,q,#[λI M3 J G H3 i3 E=>#[_,M3,E,(i1.trans i2).trans i3,J],(F.go<|i1.trans i2).rt,(F.go<|i1.trans i2).nx,λI M3 J G H3 i3 E=>#[_,M3,E,(i1.trans i2).trans i3,J]]]]
structure DIt where
 items:List D
 src:List (cp×List D)
def DIt.ok(I:DIt)(M:Mem):Prop:=∀p∈I.src,M p.1=ap (.lst p.2)
abbrev wC:=Dl->Mem->(DIt->Mem->Prop)->Prop
def SJ(K:Uh)(H0:Hp)(it:DIt)(J:It):Prop:=∀(i:Nat)(H:Hp)(M:Mem),Imm H0 H->RepH K H M->it.ok M->
 (∀d,it.items[i]?=ap d->J.go i H/\∀x H',J.yld i H x H'->Frm M H M H'/\RepH K H' M/\Rp K H' d x)/\(it.items.length<=i->J.stop i H)
inductive liftI(X:Cx)(B:Bd)(T:wC)(Z:St)(H:Hp)(R:It->Hp->Prop):Prop
 |mk (U:Dl) (M:Mem) (RR:DIt->Mem->Prop) (s:SR X B U M Z H) (h:T U M RR) (u:∀it M',RR it M'->∀J H',RepH X.K H' M'->Frm M H M' H'->SJ X.K H' it J->R J H'):liftI X B T Z H R
def DI(X:Cx)(B:Bd)(tg iter:eT)(T:wC):Prop:=PI X tg iter (liftI X B T)
theorem ib(h:PI X tg j t)(w:∀Z H Q,t' Z H Q->t Z H Q):PI X tg j t':=λl s Z H Q I q=>h _ s Z H Q I (w Z H Q q)
def iX(g:k4)(tb:ar)(DD:DEnds)(ok:Mem->Prop)(b:BxF g tb DD ok):List D->Dl->Mem->Prop
 |[],U,M=>ok M/\DD.nx U M
 |x::xs,U,M=>ok M/\g x U M λh M2=>tb { DD with nx:=iX g tb DD ok b xs,ct:=iX g tb DD ok b xs,bk:=DD.nx } h M2
def cW(wi:wC)(g:k4)(tb:ar):ar:=λD U M=>wi U M λh M1=>iX g tb D h.ok #[] h.items U M1
theorem JS{b:BxF g tb DD ok}(h:iX g tb DD ok b xs U M):ok M:=by
 cases xs with
 |_=>exact h.1
theorem OC(hp:aaI (ez X.prog X.w) X.A X.env X.xe)(hc:X.calm=true)(hi:DI X B tg j S)(hg:DG X B tg g)(hb:zj X B l tb)(hs:∀x,p7 j X.env x=pure x:=by intro _;rfl):DS X B (.For tg j l [] pos) (cW S g tb):=by
 refine ce (Ox hp hc hi hg hb hs) ?_
 rintro D Z H ⟨U,M,DD,s,h,P⟩
 refine#[U,M,_,s,h,λF M1 h1 J H1 q i1 W=>?_];refine#[λi m E H'=>m=F.items.length-i/\i<=F.items.length/\∃δ' M',SR X B δ' M' E H'/\Frm M1 H1 M' H'/\iX g tb DD _ _ (F.items.drop i) δ' M',#[_,rfl,by lia,U,M1,s.go q i1,Frm.refl,h1],?_]
 rintro i m σ2 H2 ⟨rfl,hi',Y,M2,s2,i2,v⟩
 obtain⟨I,L⟩:=W i H2 M2 (i2.imm q) s2.rh (JS v)
 by_cases y:i<F.items.length
 .rw[VJ y]at v
  obtain⟨go,hy⟩:=I _ (Ud _);refine .inr #[go,_,λE H' z=>#[_,by omega,rfl,y,z],λx H3 hx=>?_]
  obtain⟨i3,G,rx⟩:=hy x H3 hx;refine#[_,_,M2,_,s2.go G i3,rx,v.2,λδ4 M4 h4 σ4 H4 i4 T=>?_];have i14:=(i2.trans i3).trans i4;exact#[_,M4,_,T,h4,#[λO M5 N Q H5 i5 R=>#[_,M5,R,i14.trans i5,N],(P.go<|i1.trans i14).rt,(P.go<|i1.trans i14).nx,λO M5 N Q H5 i5 R=>#[_,M5,R,i14.trans i5,N]]]
 rw[Wu (by omega)]at v
 exact .inl #[by lia,P.nx _ _ v.2 _ H2 (i1.trans i2) s2]
end
end _3
namespace _2
open PySem PySem.Spec PyProof.Rows
def SO(K:Uh)(tl:TE):TI:=λZ H R=>tl Z H λx H1=>∃a b xs,x=.ref a/\nV K b H1 a xs/\R (if b=true then Itl K a else Itt K a) H1
theorem JG(z:PE X l j):PI X tg l (SO X.K j):=by
 intro i s Z H R I h;refine bu (z _ s Z H _ I h) λv f w=>?_;obtain⟨x,H1,I1,r,y⟩:=w;obtain⟨a,b,A,e,g,q⟩:=y;subst e;cases r;cases b with
 |true=>
  obtain⟨c,u,p,m⟩:=I1.list g;refine vw p.isList ?_;refine#[_,_,_,_,H1,rfl,I1.kept λb o=>Ub _,CY a _,#[_,Ui _ rfl,rfl,rfl],λb n=>?_,q];have e:b=f.heap.objs.size:=by simp_all
  subst e;exact I1.fpOk (by lia) (I1.hok.fresh<|by lia)
 |false=>
  obtain⟨c,u,p,m⟩:=I1.tuple g;refine wpAny_pyIter_tuple p ?_;refine#[_,_,_,_,H1,rfl,I1.kept λb o=>Ub _,xK a _,#[_,Ui _ rfl,rfl,rfl],λb n=>?_,q];have e:b=f.heap.objs.size:=by simp_all
  subst e;exact I1.fpOk (by lia) (I1.hok.fresh<|by lia)
def NL(K:Uh)(t:TA):TI:=λZ H R=>t Z H λa H1=>∃b l xs,a=[.ref l]/\nV K b H1 l xs/\R (Ite K b l) H1
theorem GK(F:Gl X "enumerate")(L:X.mg "enumerate"=ca)(J:PA X [a] r)(M:ee [a] X.env=[(cx,ff a X.env)]:=by rfl):
  PI X (.Tuple g E G) (.Call (.Name "enumerate" p) [a] [] pos) (NL X.K r):=by
 intro o s Z H R I h;refine Call_ (dk I F L (by rfl:eS _=ap (.type "enumerate"))<|UU (bu (J _ _ s Z H _ I h) λS m x=>?_) M rfl)
 obtain⟨N,H1,I1,w,j⟩:=x;obtain⟨b,l,T,e,j,q⟩:=j;subst e;obtain⟨Q,rfl,i⟩:=w.one;cases i;obtain⟨C,P,sq,z⟩:=I1.src j;refine CW sq λO n v y A=>?_;have I2:Inv X _ Z H1 _:=I1.kept (t':=m.toks) A;refine wpAny_pyIter_enum n ?_;refine#[_,_,_,_,H1,rfl,I2,Dv b l _ _ (by lia),#[#[_,n],v],λc u=>?_,q]
 have f:m.heap.objs.size<=c:=by
  rcases (by simpa using u) with e|e<;>rw[e]<;>first|exact VF _ _|exact Um _
 exact I1.fpOk f (I1.hok.fresh f)
end _2
namespace _3
open PySem _2
variable{H H':Hp}{M M':Mem}{i:Nat}{x:Str}{K:Uh}
def bn(d:D)(xs:List D):List (cp×List D):=match d with
 |.ref a=>[(a,xs)]
 |_=>[]
theorem wV(o:RepH K H M)(r:Rp K H d v)(e:aQ M d=ap xs):∃p b,v=.ref p/\∀H' M',Imm H H'->RepH K H' M'->(∀q∈bn d xs,M' q.1=ap (.lst q.2))->∃vs,nV K b H' p vs/\Rps K H' xs vs:=by
 cases d with
 |tup ys=>
  cases e;obtain⟨p,vs,rfl,h,r⟩:=r;exact#[p,cx,rfl,λH' M' i _ _=>#[vs,(h.mono i).sq,r.mono i]]
 |lst ys=>
  cases e;obtain⟨p,vs,rfl,h,r⟩:=r;exact#[p,true,rfl,λH' M' i _ _=>#[vs,(h.mono i).sq,r.mono i]]
 |mt ys=>
  cases e;obtain⟨p,vs,rfl,h,r⟩:=r;exact#[p,cx,rfl,λH' M' i _ _=>#[vs,h.sq,r.mono i]]
 |ml ys=>
  cases e;obtain⟨p,vs,rfl,h,r⟩:=r;exact#[p,true,rfl,λH' M' i _ _=>#[vs,(h.mono i).sq,r.mono i]]
 |ref a=>
  refine#[a,true,r,λH' M' i c m=>?_];obtain⟨vs,l,j⟩:=c _ _ (m (a,xs)<|by simp[bn])
  exact#[vs,SqL.of l,j]
 |_=>cases e
theorem xL(e:aQ M d=ap xs):∀q∈bn d xs,M q.1=ap (.lst q.2):=by
 cases d with
 |ref a=>
  intro q b;have:q=(a,xs):=by simpa [bn] using b
  simp[aQ]at e
  split at e
  .simp_all
  cases e
 |_=>intro q b;simp[bn]at b
def bz(te:b6):wC:=λU M R=>te U M λd M1=>so (aQ M1 d) λb=>R #[b,bn d b] M1
theorem ON(hl:DE X B l G):DI X B tg l (bz G):=by
 refine ib (JG hl) ?_
 rintro Z H R ⟨U,M,RR,s,h,W⟩
 refine#[U,M,_,s,h,λd M1 y v H1 j i1 L=>?_];obtain⟨xs,e,y⟩:=y.inv;obtain⟨p,b,rfl,c⟩:=wV j L e;obtain⟨S,J,_⟩:=c H1 M1 Imm.refl j (xL e);refine#[p,b,S,rfl,J,W _ M1 y _ H1 j i1 λi H2 M2 i2 o u=>?_];obtain⟨O,m,F⟩:=c H2 M2 i2 o u;cases b with
 |_=>
  refine#[λd I=>?_,λz=>#[_,m,by rw[<- F.length];exact z]]
  obtain⟨w,A,q⟩:=F.get I;refine#[#[_,w,m,A],?_]
  rintro x H3 ⟨rfl,Y⟩
  have:=Y _ m;rw[A]at this;cases this;exact#[Frm.refl,o,q]
noncomputable def cF(lo:Int)(n:Nat):List D:=(Uu n).map λ(i:Nat)=>D.int (lo+i)
def dR(t:eE):wC:=λU M R=>t U M λb M1=>one b λc=>onI c λj=>-(2 ^ 62)<=j/\j<2 ^ 62/\R #[cF 0 j.toNat,[]] M1
theorem Ou:SJ K H #[cF j n,[]] (Itr j n):=λi H2 M2 i2 l _=>by
 have b:(cF j n).length=n:=by simp[cF]
 refine#[λd o=>?_,λc=>by rw[b]at c;exact c]
 have m:i<n:=by
  rcases VV i n with h|h
  .exact h
  simp_all
 have q:d=.int (j+i):=by
  simp[cF,Za m]at o
  simp_all
 subst q;refine#[m,?_]
 rintro x H3 ⟨rfl,rfl⟩
 exact#[Frm.refl,l,rfl]
theorem DN(u:Gl X "range")(o:X.mg "range"=ca)(y:DA X B [a] ta)(q:ee [a] X.env=[(cx,ff a X.env)]:=by rfl):DI X B tg (.Call (.Name "range" p) [a] [] pos) (dR ta):=by
 refine ib (D6 u o y q) ?_
 rintro Z H R ⟨U,M,RR,s,h,j⟩
 refine#[U,M,_,s,h,λds M1 b A H1 c i1 l=>?_]
 replace b:=b.inv;obtain⟨z,rfl,b⟩:=b
 replace b:=b.inv;obtain⟨_,rfl,b⟩:=b
 obtain⟨v,rfl,m⟩:=g8 (ds:=[]) l;cases m;exact#[_,rfl,b.1,b.2.1,j _ M1 b.2.2 _ H1 c i1 Ou]
noncomputable def uK(xs:List D):List D:=(xs.zipIdx).map λp=>D.tup [.int (p.2:Nat),p.1]
theorem Dj:(uK xs)[i]?=(xs[i]?).map λd=>D.tup [.int (i:Nat),d]:=by
 simp[uK];rfl
def vT(t:eE):wC:=λU M R=>t U M λc M1=>one c λd=>so (aQ M1 d) λb=>R #[uK b,bn d b] M1
theorem KN(hg:Gl X "enumerate")(hm:X.mg "enumerate"=ca)(ha:DA X B [a] ta)(hs:ee [a] X.env=[(cx,ff a X.env)]:=by rfl):
  DI X B (.Tuple elts x1 tp) (.Call (.Name "enumerate" p) [a] [] pos) (vT ta):=by
 refine ib (GK hg hm ha hs) ?_
 rintro Z H R ⟨U,M,RR,s,h,W⟩
 refine#[U,M,_,s,h,λds M1 l J H1 j i1 O=>?_]
 replace l:=l.inv;obtain⟨_,rfl,l⟩:=l
 obtain⟨v,rfl,rv⟩:=g8 (ds:=[]) O;obtain⟨xs,e,l⟩:=l.inv;obtain⟨p,b,rfl,c⟩:=wV j rv e;obtain⟨J,L,_⟩:=c H1 M1 Imm.refl j (xL e);refine#[b,p,J,rfl,L,W _ M1 l _ H1 j i1 λi H2 M2 i2 o u=>?_];obtain⟨S,m,I⟩:=c H2 M2 i2 o u;refine#[λd F=>?_,λA=>#[_,m,by rw[<- I.length];simpa [uK] using A]]
 rw[Dj]at F;obtain⟨d0,y,rfl⟩:=Vo.mp F;obtain⟨w,G,q⟩:=I.get y;refine#[#[_,w,m,G],?_]
 rintro x H3 ⟨T,x',z,rfl,rfl,Y⟩
 have:=Y _ m;rw[G]at this;cases this;exact#[Frm.new z,o.new z,T,_,rfl,upd_same,.cons rfl<|.cons (q.mono<|Imm.new z) .nil]
noncomputable def qR(xs ys:List D):List D:=(xs.zip ys).map λp=>D.tup [p.1,p.2]
theorem Ev(h:(qR xs ys)[i]?=ap d):∃x y,xs[i]?=ap x/\ys[i]?=ap y/\d=.tup [x,y]:=by
 simp only[qR,Uo,Vo]at h;obtain⟨⟨x,y⟩,b,rfl⟩:=h;rw[We]at b;exact#[x,y,b.1,b.2,rfl]
def wZ:List D->List (List D)->List (cp×List D)
 |d::ds,xs::xss=>bn d xs++wZ ds xss
 |_,_=>[]
abbrev S3(M:Mem)(ds:List D)(xss:List (List D)):Prop:=V' (λd xs=>aQ M d=ap xs) ds xss
structure Zps(xss:List (List D))(zs:List D):Prop where
 get:∀(i:Nat)(d:D),zs[i]?=ap d->∃ys,d=.tup ys/\xss.map (·[i]?)=ys.map ap
 stop:∀i:Nat,zs.length<=i->∃xs∈xss,xs.length<=i
theorem JQ(u:RepH K H M)(h:S3 M ds c):∀{vs:List V},Rps K H ds vs->(∀q∈wZ ds c,M q.1=ap (.lst q.2))/\
  ∃L:List (Bool×cp),vs=L.map (λp=>.ref p.2)/\L.length=c.length/\∀H' M',Imm H H'->RepH K H' M'->(∀q∈wZ ds c,M' q.1=ap (.lst q.2))->
   V' (λ(p:Bool×cp) xs=>∃us,nV K p.1 H' p.2 us/\Rps K H' xs us) L c:=by
 induction h with
 |nil=>exact λr=>#[λq h=>by simp[wZ]at h,[],r,rfl,λ_ _ _ _ _=>.nil]
 |cons h t ih=>
  rintro vs ⟨v,o,rfl,r,s⟩
  obtain⟨a,L,rfl,l,k⟩:=ih s;obtain⟨p,b,rfl,g⟩:=wV u r h;exact#[λq j=>(Uz.1 j).elim (xL h q) (a q),(b,p)::L,rfl,by simp[l],λH' M' i m ok=>.cons (g H' M' i m λq j=>ok q (Vl _ j)) (k H' M' i m λq j=>ok q (UR _ j))]
theorem IR(im:Imm H H')(h:V' (λ(p:Bool×cp) xs=>∃us,nV K p.1 H p.2 us/\Rps K H xs us) L xss):∀{ys:List D}{zs:List V},xss.map (·[i]?)=ys.map ap->zs.length=L.length->
  (∀(j:Nat)(p:Bool×cp),L[j]?=ap p->∀us,nV K p.1 H p.2 us->us[i]?=zs[j]?)->Rps K H' ys zs:=by
 induction h with
 |nil=>
  intro ys zs e l _;obtain rfl:=List.eq_nil_of_length_eq_zero l;cases ys<;>trivial
 |cons h t ih=>
  intro ys zs e l g;cases ys with
  |nil=>simp at e
  |cons y ys=>
   cases zs with
   |nil=>simp at l
   |cons z zs=>
    simp at e;obtain⟨us,sq,r⟩:=h;obtain⟨w,hw,rw'⟩:=r.get e.1;have:=g 0 _ rfl us sq;rw[hw]at this;cases this;exact .cons (rw'.mono im) (ih e.2 (by simpa using l) λj p ej=>g (j+1) p (by trivial))
theorem uz:∀{L:List (Bool×cp)}{xss:List (List D)},V' P L xss->(∀p∈L,∃xs∈xss,P p xs)/\∀xs∈xss,∃p∈L,P p xs:=by
 intro L xss h
 induction h with
 |nil=>exact#[λp h=>by simp at h,λp h=>by simp at h]
 |cons h _ ih=>
  obtain⟨a,b⟩:=ih;refine#[λp c=>?_,λp c=>?_]
  .rcases Uk.1 c with rfl|m
   .exact#[_,.head _,h]
   .obtain⟨x,y,z⟩:=a p m;exact#[x,.tail _ y,z]
  .rcases Uk.1 c with rfl|m
   .exact#[_,.head _,h]
   .obtain⟨x,y,z⟩:=b p m;exact#[x,.tail _ y,z]
theorem zb{f:List D->Mem->(DIt->Mem->Prop)->Prop}(hf:∀ds M1 R,f ds M1 R->∃b zs,(b.length=2\/b.length=3)/\S3 M1 ds b/\Zps b zs/\R #[zs,wZ ds b] M1)(hg:Gl X "zip")(hm:X.mg "zip"=ca)(ha:DA X B (a::as) ta)(hs:ee (a::as) X.env=(cx,ff a X.env)::ee as X.env)(O:(PySem.backTo pos<|starEach as X.env).any (·.1)=cx):
  DI X B (.Tuple elts x1 tp) (.Call (.Name "zip" p) (a::as) [] pos) (λU M R=>ta U M λds M1=>f ds M1 R):=by
 refine ib (Lx hg hm ha hs O) ?_
 rintro Z H R ⟨U,M,RR,s,h,up⟩
 refine#[U,M,_,s,h,λds M1 G W H1 c i1 r1=>?_];obtain⟨b,zs,n,sq,z,G⟩:=hf _ _ _ G;obtain⟨ok,L,rfl,l,k⟩:=JQ c sq r1;refine#[L,by lia,rfl,λp j=>?_,up _ M1 G _ H1 c i1 λi H2 M2 i2 o F=>?_]
 .obtain⟨A,_,m,h,_⟩:=(uz<|k H1 M1 Imm.refl c ok).1 p j
  exact#[m,h]
 have q:=k H2 M2 i2 o F;obtain⟨S,qb⟩:=uz q;refine#[λd Y=>?_,λJ=>#[λp j=>?_,?_]]
 .obtain⟨ys,rfl,e⟩:=z.get i d Y
  refine#[λp j=>?_,?_]
  .obtain⟨A,u,m,h,r⟩:=S p j
   obtain⟨y,_,e⟩:=Ul.1 (e▸UK u);obtain⟨v,hv,_⟩:=r.get e.symm;exact#[m,v,h,hv]
  rintro x H3 ⟨T,W,I,rfl,rfl,hl,u⟩
  exact#[Frm.new I,o.new I,T,W,rfl,upd_same,IR (Imm.new I) q e hl u]
 .obtain⟨A,_,m,h,_⟩:=S p j
  exact#[m,h]
 obtain⟨A,u,le⟩:=z.stop i J;obtain⟨p,j,m,h,r⟩:=qb A u;exact#[p,j,m,h,by rw[<- r.length];exact le]
def RP(t:eE):wC:=λU M R=>t U M λh M1=>two h λd e=>so (aQ M1 d) λc=>so (aQ M1 e) λb=>R #[qR c b,bn d c++bn e b] M1
theorem OL(F:Gl X "zip")(v:X.mg "zip"=ca)(G:DA X B [a,b] ta)(A:ee [a,b] X.env=[(cx,ff a X.env),(cx,ff b X.env)]:=by rfl)(hs2:ee [b] X.env=[(cx,ff b X.env)]:=by rfl):
  DI X B (.Tuple elts x1 tp) (.Call (.Name "zip" p) [a,b] [] pos) (RP ta):=by
 refine zb (λI M1 R h=>?_) F v G (by rw[A,hs2]) (by rw[hs2];rfl)
 replace h:=h.inv;obtain⟨d,e,rfl,h⟩:=h
 obtain⟨j,l,h⟩:=h.inv;obtain⟨c,s,h⟩:=h.inv;refine#[_,_,.inl rfl,.cons l (.cons s .nil),#[λi z m=>?_,λi u=>?_],by simpa [wZ] using h]
 .obtain⟨x,y,q,o,rfl⟩:=Ev m
  exact#[_,rfl,by simp[q,o]]
 have:(qR j c).length=min j.length c.length:=by simp[qR]
 simp;lia
noncomputable def L6:Bd:=#[λ_ _=>True,λ_ _=>trivial]
inductive liftE0(K:Uh)(T:b6)(Z:_2.St)(H:Hp)(Q:VK):Prop
 |mk (U:Dl) (M:Mem) (QQ:DK) (rh:RepH K H M) (rs:RepS K H U Z) (h:T U M QQ) (u:Up K M H QQ Q):liftE0 K T Z H Q
inductive liftT0(K:Uh)(T:fb)(Z:_2.St)(H:Hp)(Q:Bool->Hp->Prop):Prop
 |mk (U:Dl) (M:Mem) (QQ:Bool->Mem->Prop) (rh:RepH K H M) (rs:RepS K H U Z) (h:T U M QQ) (u:UpT K M H QQ Q):liftT0 K T Z H Q
inductive liftG0(K:Uh)(g:k4)(v:V)(Z:_2.St)(H:Hp)(Q:_2.St->Hp->Prop):Prop
 |mk (d:D) (U:Dl) (M:Mem) (QQ:Dl->Mem->Prop) (rh:RepH K H M) (rs:RepS K H U Z) (r:Rp K H d v) (h:g d U M QQ) (u:∀δ' M',QQ δ' M'->∀σ' H',Frm M H M' H'->RepH K H' M'->RepS K H' δ' σ'->Q σ' H'):liftG0 K g v Z H Q
theorem Hm(h:DE X L6 e T):PE X e (liftE0 X.K T):=aS h (by rintro Z H Q ⟨U,M,QQ,c,b,h,u⟩;exact#[U,M,QQ,#[trivial,c,b],h,u])
theorem Gp(h:DG X L6 e g):PG X e (liftG0 X.K g):=lO h (by rintro v Z H Q ⟨d,U,M,QQ,rh,rs,r,h,u⟩;exact#[d,U,M,QQ,#[trivial,rh,rs],r,h,λb M' q c H' f s=>u _ M' q _ H' f s.rh s.rs])
theorem RepH.add(r:RepH K H M)(n:RepO K H a o):RepH K H (M.upd a o):=λb p e=>by
 by_cases c:b=a
 .simp_all
 rw[ae c]at e;exact r b p e
noncomputable def bt(ls:aa')(js:List Nat)(U:Dl):Dl:=ls.map (λ_=>ca)++js.map λj=>(U[j]?).join
theorem RepS.start(r:RepS K H U Z)(ls:aa')(b:List Nat):RepS K H (bt ls b U) (dw ls b Z):=by
 refine#[by simp[bt,dw],λi d e=>?_]
 unfold bt at e;unfold dw
 by_cases h:i<ls.length
 .grind
 rw[Vs (by simp_all),Uo]at e
 rw[Vs (by simp_all)]
 cases o:b[i-ls.length]? with
 |none=>simp_all
 |some j=>
  have c:U[j]?=ap (ap d):=by
   cases z:U[j]?<;>simp_all
  obtain⟨v,m,l⟩:=r.get j d c
  simp_all
structure BxC(g:k4)(tt:fb)(te:b6)(ok:Mem->Prop)(Q:List D->Mem->Prop):Type
def cV(g:k4)(tt:fb)(te:b6)(ok:Mem->Prop)(Q:List D->Mem->Prop)(b:BxC g tt te ok Q):List D->List D->Dl->Mem->Prop
 |[],aa4,_,M=>ok M/\Q aa4 M
 |x::xs,aa4,U,M=>ok M/\g x U M λh M2=>tt h M2 λc M3=>if c=true then te h M3 λy M4=>aa4.length<sizeLine/\cV g tt te ok Q b xs (aa4++[y]) h M4 else cV g tt te ok Q b xs aa4 h M3
def aO(wi:wC)(ls:aa')(js:List Nat)(g:k4)(tt:fb)(te:b6):b6:=λU M Q=>wi U M λc M1=>cV g tt te c.ok (λb M'=>∀p,M' p=ca->Q (.ref p) (M'.upd p<|.lst b)) #[] c.items [] (bt ls js U) M1
theorem E_(h:cV g tt te ok Q b xs aa4 U M):ok M:=by
 cases xs with
 |_=>exact h.1
theorem qj(h:liftE X B (aO wi ls js g tt te) Z H Q):Ft (liftI X B wi) ls js (liftG0 X.K g) (liftT0 X.K tt) (liftE0 X.K te) Z H Q:=by
 obtain⟨U,M,QQ,s,h,u⟩:=h;refine#[U,M,_,s,h,λit M1 h1 J H1 rh1 f1 hJ p hp=>?_];have hMp:=rh1.fresh hp
 refine#[λi m σ' H'=>m=it.items.length-i/\i<=it.items.length/\∃δ' M' aa4 ys,RepH _ H' M'/\RepS _ H' δ' σ'/\H' p=ap (.lst ys)/\Rps X.K H' aa4 ys/\M' p=ca/\Frm M1 H1 M' H'/\
   cV g tt te _ _ _ (it.items.drop i) aa4 δ' M',
  #[_,rfl,by lia,_,M1,[],[],rh1.new hp,((s.rs.mono<|f1.imm s.rh).mono<|Imm.new hp).start ls js,upd_same,.nil,hMp,Frm.new hp,h1],?_]
 rintro i m σ2 H2 ⟨rfl,hi,δ2,M2,aa4,ys,rh2,rs2,hp2,ra2,hm2,f2,h2⟩
 have hok:=E_ h2;obtain⟨hgo,hstop⟩:=hJ i H2 M2 (f2.imm rh1) rh2 hok
 by_cases hlt:i<it.items.length
 .rw[VJ hlt]at h2
  obtain⟨go,hy⟩:=hgo _ (Ud hlt);refine .inr #[go,_,λσ' H' z=>#[_,by omega,rfl,hlt,z],λx H3 hx=>?_]
  obtain⟨f3,rh3,rx⟩:=hy x H3 hx;refine#[_,_,M2,_,rh3,rs2.mono (f3.imm rh2),rx,h2.2,λδ4 M4 h4 σ4 H4 f4 rh4 rs4=>?_];refine#[_,M4,_,rh4,rs4,h4,λc M5 h5 H5 rh5 f5=>?_];have f35:=(f3.trans f4).trans f5;obtain⟨hp5,hm5⟩:=f35.keep p _ hp2 hm2;cases c with
  |false=>
   exact#[_,M5,_,ys,rh5,rs4.mono (f5.imm rh4),hp5,ra2.mf rh2 f35,hm5,f2.trans f35,h5]
  |true=>
   refine#[_,M5,_,rh5,rs4.mono (f5.imm rh4),h5,λy M6 h6 v6 H6 rh6 f6 r6=>?_];obtain⟨hp6,hm6⟩:=f6.keep p _ hp5 hm5;have f26:=f35.trans f6;have ra6:=ra2.mf rh2 f26;refine#[ys,hp6,by rw[<- ra6.length];exact h6.1,?_]
   have im:Imm H6 (upd H6 p<|.lst (ys++[v6])):=Imm.upd (by rw[hp6];trivial)
   refine#[_,M6,_,_,rh6.keep im λb o hb=>aw (by lia),((rs4.mono<|f5.imm rh4).mono<|f6.imm rh5).mono im,upd_same,(ra6.append<|.cons r6 .nil).mono im,hm6,?_,h6.2]
   refine#[λb w e n=>?_];obtain⟨e2,n2⟩:=(f2.trans f26).keep b w e n;exact#[by rw[aw (by lia)];exact e2,n2]
 rw[Wu (by omega)]at h2
 refine .inl #[hstop (by omega),u _ _ (h2.2 p hm2) _ H2 (rh2.add #[ys,hp2,ra2]) ?_ rfl]
 refine#[λb w e n=>?_];obtain⟨e1,n1⟩:=f1.keep b w e n;obtain⟨e2,n2⟩:=f2.keep b w e1 n1;exact#[e2,by rw[ae (aX e1 hp)];exact n2]
def Ta(X:Cx)(B:Bd)(ifs:abc)(T:fb):Prop:=Pc X ifs (liftT X B T)
def cS:fb:=λ_ M Q=>Q true M
theorem Jm:Ta X B [] cS:=(by rintro b s Z H Q I ⟨U,M,QQ,c,h,u⟩;exact Lj _ s Z H Q I (u _ M h H c.rh Frm.refl))
theorem Jy(h:DT X B c t):Ta X B [c] t:=JR h
theorem AZ(h:Ta X L6 es T):Pc X es (liftT0 X.K T):=λb s Z H Q I l=>by obtain⟨U,M,QQ,j,c,m,u⟩:=l;exact h _ s Z H Q I #[U,M,QQ,#[trivial,j,c],m,u]
def dj(i:Nat)(t:b6):ar:=λD U M=>t U M λd M1=>D.nx (U.set i<|some d) M1
def eG(i:Nat)(U:Dl)(M:Mem)(Q:Dl->Mem->Prop):Prop:=s2e U[i]? (λd=>onRe d (λa=>mLe (M a) (λb=>Q (U.set i<|some<|.lst b) (M.del a)) (Q U M)) (Q U M)) (Q U M)
def cq(t:ar)(i:Nat):ar:=λD U M=>t { D with nx:=λb M'=>eG i b M' D.nx } U M
theorem wu{α:Type}:∀{l:List α}{i:Nat}{x:α},l[i]?=ap x->l.set i x=l
 |[],_,_,h=>by simp at h
 |_::_,0,_,h=>by simp_all
 |_::_,i+1,_,h=>by rw[List.set_cons_succ,wu (by simpa using h)]
theorem OB(i:Nat)(h:DS X B st t):DS X B st (cq t i):=by
 intro aa1 s Z H D I ⟨U,M,DD,sr,hT,up⟩;refine bu (h _ s Z H { D with nx:=λσ' H'=>∃δ' M',eG i _ M' _/\Frm M H M' H'/\SR X B _ M' _ H' } I #[U,M,_,sr,hT,#[λδ' M' q σ' H' f s'=>#[δ',M',q,f,s'],up.rt,up.bk,up.ct]]) λf s' q=>?_;cases f with
 |next=>
  obtain⟨σ',H',I',δ',M',q,f,s'⟩:=q;unfold eG at q
  replace q:=q.inv;rcases q with⟨w,ea,q⟩|q
  .replace q:=q.inv;rcases q with⟨a,rfl,q⟩|q
   .replace q:=q.inv;rcases q with⟨xs,e,q⟩|q
    rotate_left
    .exact#[_,H',I',up.nx _ _ q _ H' f s']
    obtain⟨vs,h1,h2⟩:=s'.rh _ _ e;obtain⟨o,I2⟩:=Inv.freeze I' h1;have im:Imm H' (upd H' a<|.frz o<|.lst vs):=Imm.upd (by rw[h1];trivial)
    obtain⟨v,hv,rv⟩:=s'.rs.get i _ ea;cases rv;refine#[_,_,I2,up.nx _ _ q _ _ (f.trans<|Frm.del #[_,e]) #[B.go s'.i0 (Frm.del #[_,e]),s'.rh.freeze h1,?_]];have:=(s'.rs.mono im).set (i:=i) (d:=.lst xs) #[a,vs,rfl,#[o,upd_same],h2.mono im]
    rwa [wu hv]at this
   exact#[_,H',I',up.nx _ _ q _ H' f s']
  exact#[_,H',I',up.nx _ _ q _ H' f s']
 |_=>exact q
abbrev DX:=cp->Mem->Prop
abbrev Sd:=List D->Mem->DK->DX->Prop
def lq(P:eH)(w:fx):pi:=λb H s E e c=>∃C,Ea P w C b H s E e c
def UpX(K:Uh)(M:Mem)(H:Hp)(EE:DX)(E:XK):Prop:=∀C M',EE C M'->∀H',RepH K H' M'->Frm M H M' H'->E (.ref C) ca H'
def vz(K:Uh)(B:Bd)(EE:DX)(E:XK):Prop:=∀C M',EE C M'->∀H',RepH K H' M'->B.p M' H'->E (.ref C) ca H'
theorem UpX.go{M1:Mem}(u:UpX K M H EE E)(i:Frm M H M1 H1):UpX K M1 H1 EE E:=λC M' q H' a b=>u C M' q H' a (i.trans b)
def bb(K:Uh)(n:Nat)(T:Sd):Sp:=λb H Q E=>b.length=n/\∃ds M QQ EE,RepH K H M/\Rps K H ds b/\T ds M QQ EE/\Up K M H QQ Q/\UpX K M H EE E
def startN(N:aa')(ds:List D):Dl:=ds.map ap++UI (N.length-ds.length) ca
theorem RepS.startN(N:aa')(r:Rps K H ds vs):RepS K H (_3.startN N ds) (_2.start N vs):=by
 have j:=r.length;refine#[by simp[_3.startN,_2.start,j],λi d e=>?_]
 unfold _3.startN at e;unfold _2.start
 by_cases b:i<ds.length
 .rw[Wf (by simp_all),Uo,Ud b]at e
  have l:ds[i]=d:=by simpa using e
  obtain⟨v,h,c⟩:=r.get (by rw[Ud b,l])
  refine#[v,?_,c];rw[Wf (by simp;lia),Uo,h]
  rfl
 rw[Vs (by simp_all),YL]at e
 simp_all
def drp(Q:DK)(d:D)(M':Mem):Prop:=∃M'',(∀b o,M'' b=ap o->M' b=ap o)/\Q d M''
def aG(EE:DX)(C:cp)(M':Mem):Prop:=∃M'',(∀b o,M'' b=ap o->M' b=ap o)/\EE C M''
theorem ak(h:Q d M'):drp Q d M':=#[M',by lia,h]
theorem eP(h:EE C M'):aG EE C M':=#[M',by lia,h]
theorem Frm.less(f:Frm M H M' H')(s:∀b o,M'' b=ap o->M' b=ap o):Frm M H M'' H':=#[λb u e n=>by
 obtain⟨c,h⟩:=f.keep b u e n;refine#[c,?_];cases q:M'' b<;>simp_all]
theorem Up.drp(u:Up K M H Q QV):Up K M H (_3.drp Q) QV:=(by rintro d M' ⟨_,s,q⟩ v H' c f r;exact u d _ q v H' (λb o e=>c b o (s b o e)) (f.less s) r)
theorem UpX.drp(u:UpX K M H EE E):UpX K M H (aG EE) E:=(by rintro C M' ⟨_,s,q⟩ H' c f;exact u C _ q H' (λb o e=>c b o (s b o e)) (f.less s))
def aF(N:aa')(T:DX->ar):Sd:=λb M Q EE=>T (aG EE) { nx:=λ_ M'=>drp Q .non M',rt:=drp Q } (startN N b) M
theorem fnD(F:Fun K x aa2 st f fd)(S:FnScope N ps (aP st))(I:∀(c:ay)(A:fv)(b:List Env)(s:cb)(H:Hp)(E:XK)(B:Bd)(EE:DX),Room k (A.deeper<|Ww aa2 (aP st) s.heap.objs.size f c)->vz K B EE E->
   zj (eY (lq P w) P w K mg base N aa2 (aP st) f c A b s H E) B (bw st) (T EE)):
  FnOk P w K mg base (lq P w) (k+1) f fd ps (bb K ps.length<|aF N T):=by
 obtain⟨J,R,kV,v,O,an,c,Y,m,rfl,lk,j⟩:=F.ex;refine Ml lk j S (λy H Q E h=>h.1) λA b s H y Q E z l=>?_;obtain⟨W,L,M,QQ,EE,rh,r,G,u,ux⟩:=l;exact#[_,I _ A _ s H E (Bd.of M H) _ z ux.drp,_,M,_,#[Frm.refl,rh,.startN N r],G,#[λU M' q Z H' f o=>u.drp _ M' q _ H' o.rh f rfl,u.drp,λU M' q=>q.elim,λU M' q=>q.elim]]
theorem eZ:FnOk P w K mg base CX k f fd ps (bb K n λ_ _ _ _=>False):=
 #[λj H Q E h=>(by obtain⟨_,_,_,_,_,_,_,h,_⟩:=h;exact h.elim),λA b s H c l j Q E _ _ _ _ h=>(by obtain⟨_,_,_,_,_,_,_,h,_⟩:=h;exact h.elim)]
theorem Iu:bR (lq P w) (eY (lq P w) P w K mg base N aa2 scope f l A b m H0 E) E:=by
 intro c Z H s e j I ⟨C,h⟩;exact hW (Tj _ Z H s e j (I.wish _) h) (λ_ _ z=>#[C,z]) λ_ _ z=>#[C,z]
theorem wG:bR (lq P w) X E0:=(by rintro aa1 Z H s e s' I ⟨C,hx⟩;exact(by
 obtain⟨_,_,_,_,_,_,_,_,_,_,_,_,hE⟩:=hx;trivial))
def Sub(M1 M:Mem):Prop:=∀b o,M1 b=ap o->M b=ap o
def Dis(M1 M M':Mem):Prop:=∀b o,M b=ap o->M1 b=ca->M' b=ca
noncomputable def plus(M' M1 M:Mem):Mem:=λb=>match M' b with
 |some o=>ap o
 |none=>match M1 b with
  |some _=>ca
  |none=>M b
theorem pW:plus M' M M=M':=by
 funext b;simp[plus];lia
structure BxQ(EE:DX)(Q:DK):Type
structure calls(T:Sd)(EE:DX)(ds:List D)(M:Mem)(Q:DK)(_:BxQ EE Q):Prop where
 go:∃M1,Sub M1 M/\T ds M1 (λd M'=>Dis M1 M M'->Q d (plus M' M1 M)) (λC M'=>Dis M1 M M'->EE C (plus M' M1 M))
section
variable{M1:Mem}
theorem RepH.sub(r:RepH K H M)(s:Sub M1 M):RepH K H M1:=λb o e=>r b o (s b o e)
theorem RepH.dis(r:RepH K H M)(f:Frm M1 H M' H'):Dis M1 M M':=λb o e n=>by
 obtain⟨u,q⟩:=(r b o e).obj;exact(f.keep b u q n).2
theorem RepH.plus(r:RepH K H M)(s:Sub M1 M)(h:RepH K H' M')(f:Frm M1 H M' H'):RepH K H' (plus M' M1 M):=λb o e=>by
 simp[_3.plus]at e
 split at e
 .rename_i j q;cases e;exact h b _ q
 split at e
 .cases e
 rename_i q n
 obtain⟨u,c⟩:=(r b o e).obj;exact(r b o e).keep (f.imm<|r.sub s) ((f.keep b u c n).1.trans c.symm)
theorem Frm.plus(s:Sub M1 M)(f:Frm M1 H M' H'):Frm M H (plus M' M1 M) H':=#[λb u e n=>by
 have c:M1 b=none:=by
  cases q:M1 b with
  |none=>rfl
  |some o=>rw[s b o q]at n;cases n
 obtain⟨j,h⟩:=f.keep b u e c;exact#[j,by simp[_3.plus,h,c,n]]]
theorem cA(h:calls T EE ds M Q b)(rh:RepH K H M)(r:Rps K H ds vs)(j:vs.length=n)(u:Up K M H Q QV)(ux:UpX K M H EE E):bb K n T vs H QV E:=by
 obtain⟨M1,s,h⟩:=h.go;exact#[j,ds,M1,_,_,rh.sub s,r,h,λd M' q v H' c f=>u d _ (q<|rh.dis f) v H' (rh.plus s c f) (f.plus s),λC M' q H' c f=>ux C _ (q<|rh.dis f) H' (rh.plus s c f) (f.plus s)]
theorem am(c:∀Q' E',(∀d M,Q d M->Q' d M)->(∀C M,EE C M->E' C M)->T ds M Q' E'):calls T EE ds M Q b:=
 #[M,λ_ _ e=>e,c _ _ (λd M' q _=>by rw[pW];exact q) λC M' q _=>by rw[pW];exact q]
def aj(T:Sd)(EE:DX)(n:Nat)(t:eE):b6:=λU M Q=>t U M λb M1=>b.length=n/\calls T EE b M1 Q #[]
theorem SR.ux(s:SR X B U M Z H)(ux:vz X.K B EE E):UpX X.K M H EE E:=λC M' q H' a b=>ux C M' q H' a (B.go s.i0 b)
theorem tE(F:FnOk X.prog X.w X.K X.mg X.base CX k f fd ps (bb X.K n T))(G:Room k X.A)(y:Gl X x)(I:X.mg x=ap (.ref f))(J:VB X.K (.ref f)=true)(v:Binds X.K fd ps [])(q:bR CX X E)(ux:vz X.K B EE E)(z:DA X B (e::es) t)(c:(x==("__debug__":Str))=false:=by decide)(he:ee (e::es) X.env=(cx,ff e X.env)::ee es X.env:=by rfl)(hpl:(f' pos<|starEach es X.env).any (·.1)=false:=by rfl):
  DE X B (.Call (.Name x p) (e::es) [] pos) (aj T EE n t):=by
 refine aS (yL F G y I J v .nil q z c he hpl) ?_
 rintro Z H Q ⟨U,M,QQ,s,h,u⟩
 refine#[U,M,_,s,h,λL M1 l O H1 b i1 j=>?_];rw[U9];exact cA l.2 b j (by rw[<- j.length];exact l.1) (u.go i1) ((s.ux ux).go i1)
def dy(C:cp)(m:Str)(T:Sd)(EE:DX)(n:Nat)(ta:b6)(t:eE):b6:=λU M Q=>ta U M λx M1=>onR x λa=>mN (M1 a) λC' fs=>C'=C/\fs.lookup m=ca/\t U M1 λb M2=>b.length+1=n/\calls T EE (.ref a::b) M2 Q #[]
theorem IV(he:DE X B o ta)(c:Cls X.K C)(hm:Meth X.K C m f)(F:FnOk X.prog X.w X.K X.mg X.base CX k f fd ps (bb X.K n T))(hr:Room k X.A)(hb:Binds X.K fd ps [])(Y:bR CX X E)(ux:vz X.K B EE E)(ha:DA X B (e::es) t)(y:ee (e::es) X.env=(cx,ff e X.env)::ee es X.env:=by rfl)(hpl:(f' pos<|starEach es X.env).any (·.1)=false:=by rfl)(ht:ff (.Call (.Attribute o m aa6) (e::es) [] pos) X.env=(do
   let ov <- ff o X.env
   L' aa6.atName
   let (f,first) <- q0 [ov] (B' ov m pl)
   aai pos f first (f' pos<|starEach (e::es) X.env) (pb pos<|keywordEach [] X.env)):=by rfl):
  DE X B (.Call (.Attribute o m aa6) (e::es) [] pos) (dy C m T EE n ta t):=by
 refine aS (J8 he c hm F hr hb .nil Y ha y hpl ht) ?_
 rintro Z H Q ⟨U,M,QQ,s,h,u⟩
 refine#[U,M,_,s,h,λx M1 b v H1 j i1 L=>?_]
 replace b:=b.inv;obtain⟨a,rfl,b⟩:=b
 cases L;obtain⟨C',fs,S,b⟩:=b.inv;obtain⟨rfl,hl,b⟩:=b;obtain⟨W,G,R,O⟩:=j _ _ S;have l:G.lookup m=none:=by
  rcases O.lookup m with⟨_,z⟩|⟨d,v,z,_⟩
  .exact z
  simp_all
 refine#[a,W,G,rfl,R,l,U,M1,_,s.go j i1,b,λds M2 I vs H2 q i2 J=>?_];rw[U9];exact cA I.2 q (.cons rfl J) (by rw[UB,<- J.length];exact I.1) (u.go<|i1.trans i2) ((s.ux ux).go<|i1.trans i2)
theorem Gn(S:DE X B o ta)(c:Cls X.K C)(hm:Meth X.K C m f)(F:FnOk X.prog X.w X.K X.mg X.base CX k f fd ps (bb X.K n T))(Y:Room k X.A)(R:Binds X.K fd ps [])(O:bR CX X E)(ux:vz X.K B EE E)(W:ff (.Call (.Attribute o m aa6) [] [] pos) X.env=(do
   let ov <- ff o X.env
   L' aa6.atName
   let (f,first) <- q0 [ov] (B' ov m pl)
   aai pos f first (f' pos<|starEach [] X.env) (pb pos<|keywordEach [] X.env)):=by rfl):
  DE X B (.Call (.Attribute o m aa6) [] [] pos) (dy C m T EE n ta ag):=by
 refine aS (HH S c hm F Y R .nil O W) ?_
 rintro Z H Q ⟨U,M,QQ,s,h,u⟩
 refine#[U,M,_,s,h,λx M1 b v H1 j i1 I=>?_]
 replace b:=b.inv;obtain⟨a,rfl,b⟩:=b
 cases I;obtain⟨C',fs,J,b⟩:=b.inv;obtain⟨rfl,hl,b⟩:=b;obtain⟨G,q,y,L⟩:=j _ _ J;have l:q.lookup m=none:=by
  rcases L.lookup m with⟨_,z⟩|⟨d,v,z,_⟩
  .exact z
  simp_all
 exact#[a,G,q,rfl,y,l,cA b.2 j (.cons rfl .nil) b.1 (u.go i1)<|(s.ux ux).go i1]
def ir(C:cp)(T:Sd)(EE:DX)(n:Nat)(t:eE):b6:=λU M Q=>t U M λb M1=>b.length+1=n/\∀a,M1 a=ca->calls T EE (.ref a::b) (M1.upd a<|.ins C []) (λd M2=>onN d (Q (.ref a) M2)) #[]
theorem IE(Mk':Mk X.K C f)(F:FnOk X.prog X.w X.K X.mg X.base CX k f fd ps (bb X.K n T))(hr:Room (k+1) X.A)(hg:Gl X x)(hm:X.mg x=ap (.ref C))(hb:Binds X.K fd ps [])(hx:bR CX X E)(ux:vz X.K B EE E)(ha:DA X B (e::es) t)(hdb:(x==("__debug__":Str))=false:=by decide)(he:ee (e::es) X.env=(cx,ff e X.env)::ee es X.env:=by rfl)(hpl:(f' pos<|starEach es X.env).any (·.1)=false:=by rfl):
  DE X B (.Call (.Name x p) (e::es) [] pos) (ir C T EE n t):=by
 refine aS (Le Mk' F hr hg hm hb .nil hx ha hdb he hpl) ?_
 rintro Z H Q ⟨U,M,QQ,s,h,u⟩
 refine#[U,M,_,s,h,λds M1 h1 vs H1 rh1 i1 r1 a dx na ndx nex=>?_];rw[U9];have nx1:upd H1 dx (.own a) a=none:=by rw[aw (UO nex)];exact na
 have f2:Frm M1 H1 (M1.upd a<|.ins C []) (upd (upd H1 dx<|.own a) a<|.ins C dx []):=(Frm.new ndx).trans (Frm.put<|.inl nx1);refine cA (h1.2 a<|rh1.fresh na) ((rh1.new ndx).put (by rw[nx1];trivial) #[dx,[],upd_same,.nil]) (.cons rfl<|(r1.mono<|Imm.new ndx).mono<|Imm.new nx1) (by rw[UB,<- r1.length];exact h1.1) (λd M2 h2 v H2 rh f r=>?_) ((s.ux ux).go<|i1.trans f2)
 cases d with
 |non=>exact#[r,u _ M2 h2 _ H2 rh ((i1.trans f2).trans f) rfl]
 |_=>exact(show False from h2).elim
end
section
variable{id:String}
abbrev wB:=D->List D->Mem->DK->Prop
inductive liftM(X:Cx)(r:wB)(x:V)(xs:List V)(H:Hp)(Q:VK):Prop
 |mk (d:D) (ds:List D) (M:Mem) (QQ:DK) (rh:RepH X.K H M) (rx:Rp X.K H d x) (rs:Rps X.K H ds xs) (h:r d ds M QQ) (u:Up X.K M H QQ Q):liftM X r x xs H Q
def iS(Ty:String)(r:wB)(to:b6)(t:eE):b6:=λU M Q=>to U M λx M1=>cJ M1 x=ap Ty/\t U M1 λb M2=>r x b M2 Q
theorem Fd(l:RepH K H M)(r:Rp K H d v)(e:cJ M d=ap Ty)(h:Ty="list"\/Ty="str"\/Ty="int"\/Ty="dict"):tyV K Ty v H:=by
 cases d with
 |non=>cases e;trivial
 |bl b=>cases e;trivial
 |int i=>cases r;cases e;rfl
 |str x=>cases r;cases e;rfl
 |tup xs=>cases e;trivial
 |lst xs=>
  cases e;obtain⟨p,u,rfl,s,r⟩:=r;exact .inl #[rfl,u,s.sq]
 |ref a=>
  cases r;simp[cJ]at e
  split at e
  .rename_i q;cases e;obtain⟨c,j,m⟩:=l _ _ q;exact .inl #[rfl,c,SqL.of j]
  .rename_i q;cases e;obtain⟨c,j,m⟩:=l _ _ q;exact .inr (.inr<|.inl<|by simp_all)
  .rename_i q;cases e;obtain⟨c,j,m⟩:=l _ _ q;exact .inr (.inr<|.inl<|by simp_all)
  cases e
 |_=>cases e
theorem Sj(I:Ty="list"\/Ty="str"\/Ty="int"\/Ty="dict")(G:V_ Ty)(j:Slot Ty name id)(m:Z' (.builtin id)=pure (.type "method_descriptor"))(J:vo X id (liftM X r))(O:DE X B o to)(L:DA X B (e::es) t)(c:kc o name X.env (ff o X.env)=ff o X.env:=by rfl)(hfew:((f' aa5<|starEach (e::es) X.env).all (λx=>!x.1)&&(pb aa5<|keywordEach [] X.env).all (λx=>x.1.isSome)
   && decide ((e::es).length+([]:List o4).length+(if ([]:List o4).isEmpty then 0 else 1)<30))=true:=by rfl)(hline:(aa6.endLine==aa5.line)=true:=by rfl)(hs:ee (e::es) X.env=(cx,ff e X.env)::ee es X.env:=by rfl)(hplain:(f' aa5<|starEach es X.env).any (·.1)=false:=by rfl):
  DE X B (.Call (.Attribute o name aa6) (e::es) [] aa5) (iS Ty r to t):=by
 refine aS (SV G j m J O L c hfew hline hs hplain) ?_
 rintro Z H Q ⟨U,M,QQ,s,h,u⟩
 exact#[U,M,_,s,h,λx M1 q v H1 b i1 y=>#[Fd b y q.1 I,U,M1,_,s.go b i1,q.2,λz M2 A R H2 l i2 F=>#[x,z,M2,QQ,l,y.mf b i2,F,A,u.go<|i1.trans i2]]]
theorem Oz(z:Ty="list"\/Ty="str"\/Ty="int"\/Ty="dict")(y:V_ Ty)(j:Slot Ty name id)(l:Z' (.builtin id)=pure (.type "method_descriptor"))(A:vo X id (liftM X r))(F:DE X B o to)(b:kc o name X.env (ff o X.env)=ff o X.env:=by rfl)(hline:(aa6.endLine==aa5.line)=true:=by rfl):DE X B (.Call (.Attribute o name aa6) [] [] aa5) (iS Ty r to ag):=by
 refine aS (NG y j l A F b hline) ?_
 rintro Z H Q ⟨U,M,QQ,s,h,u⟩
 exact#[U,M,_,s,h,λx M1 q v H1 c i1 m=>#[Fd c m q.1 z,#[x,[],M1,QQ,c,m,.nil,q.2,u.go i1]]]
def bj:wB:=λx c M Q=>onR x λa=>one c λy=>mL (M a) λb=>b.length<sizeLine/\Q .non (M.upd a<|.lst (b++[y]))
theorem xg:vo X "list.append" (liftM X bj):=by
 rintro aa1 s Z H x vs v us Q I rx rv ⟨d,ds,M,QQ,rh,r,rs,h,up⟩
 unfold bj at h
 replace h:=h.inv;obtain⟨a,rfl,h⟩:=h
 replace h:=h.inv;obtain⟨y,rfl,h⟩:=h
 cases r;obtain⟨w,rfl,rw'⟩:=g8 (ds:=[]) rs;obtain⟨xs,hM,h⟩:=h.inv;obtain⟨ws,h1,h2⟩:=rh _ _ hM;exact CS _ s Z H _ _ v us Q I rx rv #[a,ws,w,rfl,rfl,h1,by rw[<- h2.length];exact h.1,up _ _ h.2 _ _ (rh.put (by rw[h1];trivial) #[_,upd_same,(h2.append<|by trivial).mono<|Imm.upd<|by rw[h1];trivial]) (Frm.put<|.inr #[_,hM]) rfl]
def DM:wB:=λx b M Q=>onR x λa=>nilOr b (mL (M a) λxs=>so xs[xs.length-1]? λy=>Q y (M.upd a<|.lst xs.dropLast)) λd=>onI d λi=>mL (M a) λxs=>so (xP xs.length i) λk=>so xs[k]? λy=>Q y (M.upd a<|.lst<|xs.eraseIdx k)
theorem Aq:vo X "list.pop" (liftM X DM):=by
 rintro aa1 s Z H x vs v us Q I rx rv ⟨d,ds,M,QQ,rh,r,rs,h,up⟩
 unfold DM at h
 replace h:=h.inv;obtain⟨a,rfl,h⟩:=h
 replace h:=h.inv;rcases h with⟨rfl,h⟩|⟨w,rfl,h⟩
 .cases r
  cases rs;obtain⟨xs,hM,h⟩:=h.inv;obtain⟨y,ey,h⟩:=h.inv;obtain⟨ws,h1,h2⟩:=rh _ _ hM;obtain⟨w,hw,rw'⟩:=h2.get ey;have im:Imm H (upd H a<|.lst ws.dropLast):=Imm.upd (by rw[h1];trivial)
  exact PP _ s Z H _ _ v us Q I rx rv #[a,ws,w,rfl,rfl,h1,by rw[<- h2.length];exact hw,up _ _ h _ _ (rh.put (by rw[h1];trivial) #[_,upd_same,h2.dropLast.mono im]) (Frm.put<|.inr #[_,hM])<|rw'.mono im]
 replace h:=h.inv;obtain⟨i,rfl,h⟩:=h
 cases r;obtain⟨w0,rfl,rw0⟩:=g8 (ds:=[]) rs;cases rw0;obtain⟨xs,hM,h⟩:=h.inv;obtain⟨k,ek,h⟩:=h.inv;obtain⟨y,ey,h⟩:=h.inv;obtain⟨ws,h1,h2⟩:=rh _ _ hM;obtain⟨w,hw,rw'⟩:=h2.get ey;obtain⟨j1,j2,j3,j4⟩:=tK ek;have hz:=(I.lstM h1).1;have hs:sizeLine=16777216:=rfl;have hl:=h2.length;have im:Imm H (upd H a<|.lst<|ws.eraseIdx k):=Imm.upd (by rw[h1];trivial)
 exact Ik _ s Z H _ _ v us Q I rx rv #[a,ws,i,k,w,rfl,rfl,h1,by lia,by lia,by rw[<- hl];exact j1,hw,up _ _ h _ _ (rh.put (by rw[h1];trivial) #[_,upd_same,(h2.eraseIdx k).mono im]) (Frm.put<|.inr #[_,hM])<|rw'.mono im]
def ju:wB:=λx b M Q=>onR x λa=>nil0 b (mL (M a) λc=>Q .non (M.upd a<|.lst c.reverse))
theorem uw:vo X "list.reverse" (liftM X ju):=by
 rintro aa1 s Z H x vs v us Q I rx rv ⟨d,ds,M,QQ,rh,r,rs,h,up⟩
 unfold ju at h
 replace h:=h.inv;obtain⟨a,rfl,h⟩:=h
 replace h:=h.inv;obtain⟨rfl,h⟩:=h
 cases r;cases rs;obtain⟨xs,hM,h⟩:=h.inv;obtain⟨ws,h1,h2⟩:=rh _ _ hM;exact wY _ s Z H _ _ v us Q I rx rv #[a,ws,rfl,rfl,h1,up _ _ h _ _ (rh.put (by rw[h1];trivial) #[_,upd_same,h2.reverse.mono<|Imm.upd<|by rw[h1];trivial]) (Frm.put<|.inr #[_,hM]) rfl]
def jV:List D->Option (List Str)
 |[]=>ap []
 |.str x::ds=>match jV ds with
  |some xs=>ap (x::xs)
  |none=>ca
 |_=>ca
theorem ut:∀{ds:List D}{vs:List V}{xs:aa'},Rps K H ds vs->jV ds=ap xs->vs=xs.map V.str
 |[],vs,xs,r,e=>by cases e;exact r
 |d::ds,vs,xs,r,e=>by
  obtain⟨v,l,rfl,a,b⟩:=r;cases d with
  |str c=>
   simp[jV]at e
   split at e
   .rename_i h j
    cases e;cases a;rw[ut b j];rfl
   cases e
  |_=>cases e
def iJ:wB:=λx c M Q=>onT x λl=>one c λh=>onS h λz=>so (jV l) λb=>b.length<=1000/\so (b.findIdx? λy=>decide (y=z)) λj=>Q (.int (j:Nat)) M
theorem xr:vo X "tuple.index" (liftM X iJ):=by
 rintro l s Z H x vs v W Q I u R ⟨d,ds,M,QQ,O,r,L,h,J⟩
 unfold iJ at h
 replace h:=h.inv;obtain⟨xs,rfl,h⟩:=h
 replace h:=h.inv;obtain⟨w9,rfl,h⟩:=h
 replace h:=h.inv;obtain⟨z,rfl,h⟩:=h
 obtain⟨p,Y,rfl,y,r⟩:=r;obtain⟨w,rfl,c⟩:=g8 (ds:=[]) L;cases c;obtain⟨b,S,h⟩:=h.inv;obtain⟨F,h⟩:=h;obtain⟨j,q,h⟩:=h.inv;have:=ut r S;subst this;rw[XI]at q;obtain⟨hj,e1,A⟩:=q;refine CI _ s Z H _ _ v W Q I u R #[p,_,z,j,rfl,rfl,y,F,?_,λm G=>?_,J _ M h _ H O Frm.refl rfl]
 .simp_all
 rw[Ud _];simpa using (A m G)
def Ix(r:wB)(to:b6)(t:eE):b6:=λU M Q=>to U M λx M1=>onT x λc=>t U M1 λb M2=>r (.tup c) b M2 Q
theorem U2(j:Slot "tuple" name id)(q:Z' (.builtin id)=pure (.type "method_descriptor"))(L:vo X id (liftM X r))(R:DE X B o to)(O:DA X B (e::es) t)(b:kc o name X.env (ff o X.env)=ff o X.env:=by rfl)(hfew:((f' aa5<|starEach (e::es) X.env).all (λx=>!x.1)&&(pb aa5<|keywordEach [] X.env).all (λx=>x.1.isSome)
   && decide ((e::es).length+([]:List o4).length+(if ([]:List o4).isEmpty then 0 else 1)<30))=true:=by rfl)(hline:(aa6.endLine==aa5.line)=true:=by rfl)(hs:ee (e::es) X.env=(cx,ff e X.env)::ee es X.env:=by rfl)(hplain:(f' aa5<|starEach es X.env).any (·.1)=false:=by rfl):
  DE X B (.Call (.Attribute o name aa6) (e::es) [] aa5) (Ix r to t):=by
 refine aS (RK j q L R O b hfew hline hs hplain) ?_
 rintro Z H Q ⟨U,M,QQ,s,h,u⟩
 refine#[U,M,_,s,h,λx M1 y v H1 c i1 A=>?_];cases x with
 |tup xs=>
  have l:=A;obtain⟨p,z,rfl,J,S⟩:=l;exact#[#[p,z,rfl,J],U,M1,_,s.go c i1,y,λF M2 G z H2 m i2 I=>#[_,F,M2,QQ,m,A.mf c i2,I,G,u.go<|i1.trans i2]]
 |_=>exact y.elim
def Nh:b6:=λ_ M Q=>∀p,M p=ca->Q (.ref p) (M.upd p<|.dT [])
theorem Ky:DE X B (.Dict [] [] pos) Nh:=by
 refine aS FS ?_
 rintro Z H Q ⟨U,M,QQ,s,h,u⟩ p hp
 exact u _ _ (h p<|s.rh.fresh hp) _ _ (s.rh.put (by rw[hp];trivial) #[[],upd_same,.nil]) (Frm.put<|.inl hp) rfl
def MS(ks:List aC)(ys:List D):List (aC×D):=(ks.zip ys).foldl (λa p=>eD a p.1 p.2) []
theorem wz:∀{ks:List aC}{ds:List D}{vs:List V}{a:List (aC×D)}{b:List (aC×V)},Rps K H ds vs->Rkv K H a b->
  Rkv K H ((ks.zip ds).foldl (λa p=>eD a p.1 p.2) a) ((ks.zip vs).foldl (λa p=>fE a p.1 p.2) b)
 |[],_,_,_,_,_,r=>r
 |_::_,[],_,_,_,h,r=>by cases h;exact r
 |k::ks,d::ds,_,_,_,h,r=>by
  obtain⟨v,vs,rfl,a,b⟩:=h;exact wz (ks:=ks) b (r.put k a)
def gQ(t:eE):b6:=λU M Q=>t U M λl M1=>two l λh c=>onT h λm=>onT c λj=>so (eR m) λb=>b.length=j.length/\0<b.length/\b.length<=1000/\∀p,M1 p=ca->Q (.ref p) (M1.upd p<|.dK<|MS b j)
theorem yd(hc:X.calm=true)(hg:Gl X "zip")(hm:X.mg "zip"=ca)(hg2:Gl X "dict")(hm2:X.mg "dict"=ca)(ha:DA X B [a,b] ta)(hs:ee [a,b] X.env=[(cx,ff a X.env),(cx,ff b X.env)]:=by rfl)(hs2:ee [b] X.env=[(cx,ff b X.env)]:=by rfl)(hs3:ee [YK (.Name "zip" p2) [a,b] [] pos2] X.env=[(cx,ff (.Call (.Name "zip" p2) [a,b] [] pos2) X.env)]:=by rfl):
  DE X B (.Call (.Name "dict" p) [.Call (.Name "zip" p2) [a,b] [] pos2] [] pos) (gQ ta):=by
 refine aS (wT cx cx hc hg hm hg2 hm2 ha hs hs2 hs3) ?_
 rintro Z H Q ⟨U,M,QQ,s,h,u⟩
 refine#[U,M,_,s,h,λds M1 h1 vs H1 rh1 i1 r1=>?_]
 replace h1:=h1.inv;obtain⟨w10,w11,rfl,h1⟩:=h1
 replace h1:=h1.inv;obtain⟨_,rfl,h1⟩:=h1
 replace h1:=h1.inv;obtain⟨_,rfl,h1⟩:=h1
 obtain⟨v,w,rfl,rv,rw'⟩:=JB r1;obtain⟨l1,us,rfl,t1,ru⟩:=rv;obtain⟨l2,ws,rfl,t2,rw2⟩:=rw';obtain⟨ks,ek,h1⟩:=h1.inv;obtain⟨e1,e2,e3,h1⟩:=h1;have hk:=oF ru ek;subst hk;exact#[l1,l2,ks,ws,rfl,t1.sq,t2.sq,by rw[<- rw2.length];exact e1,e2,e3,λd hd=>u _ _ (h1 d<|rh1.fresh hd) _ _ (rh1.put (by rw[hd];trivial) #[_,upd_same,(wz rw2 .nil).mono<|Imm.new hd]) (i1.trans<|Frm.put<|.inl hd) rfl]
end
theorem JY(h:PS X st t)(k:∀e s,X.xe e s->E' e s):PS (X.wish E') st t:=λc s Z H D I q=>
 hW (h _ s Z H D I.unwish q) (λf j z=>by
  cases f with
  |ret u=>obtain⟨v,b,H',I,r,q⟩:=z;exact#[v,_,H',I.wish _,r,q]
  |_=>obtain⟨b,H',I,q⟩:=z;exact#[_,H',I.wish _,q]) k
def o8(C:cp)(EE:DX):ar:=λ_ _ M=>EE C M
theorem Fm{jj}(X:ExcAt K C)(o:mg x=ap (.ref C))(ux:vz K B EE E)(m:Gl (eY (lq P w) P w K mg base N aa2 scope f cd A outer s0 H0 E) x)(l:(x==("__debug__":Str))=false:=by decide)(hs:ee [.Constant (.str b) jj aa6] (eY (lq P w) P w K mg base N aa2 scope f cd A outer s0 H0 E).env=[(cx,ff (.Constant (.str b) jj aa6) (eY (lq P w) P w K mg base N aa2 scope f cd A outer s0 H0 E).env)]:=by rfl):
  DS (eY (lq P w) P w K mg base N aa2 scope f cd A outer s0 H0 E) B (.Raise (ap<|.Call (.Name x c) [.Constant (.str b) jj aa6] [] aa5) ca pos) (o8 C EE):=by
 have j:PS (eY (lq P w) P w K mg base N _ _ f cd A outer s0 H0 E) (.Raise (ap<|.Call (.Name x c) _ [] aa5) _ pos) _:=
  JY (F2 X o m l hs) λe s h=>hW h (λ_ _ z=>#[C,z]) λ_ _ z=>#[C,z]
 refine ce j ?_
 rintro D Z H ⟨U,M,DD,s,h,q⟩
 exact ux C M h H s.rh s.i0
def ND(C:cp)(T:Sd)(n:Nat)(ta:eE)(ts:ar):ar:=λD U M=>ta U M λb M1=>b.length=n/\calls T (λC' M2=>C'=C/\ts D U M2) b M1 (λ_ M2=>D.nx U M2) #[]
theorem SR.mark(s:SR X B U M Z H):SR (X.marked e) B U M Z H:=#[s.i0,s.rh,s.rs]
theorem SR.unmark(s:SR (X.marked e) B U M Z H):SR X B U M Z H:=#[s.i0,s.rh,s.rs]
theorem UpD.mark{D:Ends}(u:UpD X B M H DD D):UpD (X.marked e) B M H DD D:=
 #[λU M q Z H' f s=>u.nx U M q Z H' f s.unmark,u.rt,λU M q Z H' f s=>u.bk U M q Z H' f s.unmark,λU M q Z H' f s=>u.ct U M q Z H' f s.unmark]
theorem IN(F:FnOk P w K mg base (lq P w) k f fd ps sp):
  FnOk P w K mg base (Ea P w C) k f fd ps (λvs H Q E=>sp vs H Q λCv a H'=>Cv=.ref C/\E Cv a H'):=
 #[λvs H Q E=>F.len _ _ _ _,λA c s H j W vs Q E q L J v y=>rc (F.run A _ s H _ W vs Q _ q L J v y) λr s' h=>by
  cases r with
  |ok fl=>cases fl<;>exact h
  |error e=>
   obtain⟨C',I,H',B,m,l,Y,u,o,e5,O,R,z,G,b⟩:=h;have S:C'=C:=by injection G
   subst S;exact#[I,H',B,m,l,Y,u,o,e5,O,R,z,b]]
theorem xS(I:X.stack=X.env::X.outer)(R:X.env.frame=ap X.env.locals)(F:FnOk X.prog X.w X.K X.mg X.base (lq X.prog X.w) k f fd ps (bb X.K n T))(hr:Room k X.A)(hg:Gl X x)(hm:X.mg x=ap (.ref f))(hk:VB X.K (.ref f)=true)(hb:Binds X.K fd ps [])(ha:DA X.nox B (e::es) ta)(EX:ExcAt X.K C)(O:Gl X y)(J:X.mg y=ap (.ref C))(S:∀q:cp,zj (X.marked<|.ref q) B (c::b) W)(L:(x==("__debug__":Str))=false:=by decide)(hdC:(y==("__debug__":Str))=false:=by decide)(he:ee (e::es) X.env=(cx,ff e X.env)::ee es X.env:=by rfl)(hpl:(f' G<|starEach es X.env).any (·.1)=false:=by rfl)(hsw:py (.Call (.Name x p) (e::es) [] G) ca ep.line X.env=pure false:=by rfl):
  DS X B (.Try [.Expr (.Call (.Name x p) (e::es) [] G) ep] [.ExceptHandler (ap<|.Name y np) ca (c::b) o] [] [] pos) (ND C T n ta W):=by
 have m:∀q:cp,AM _ _ (liftS X B W):=λq=>mD (S q) (by rintro D Z H ⟨U,M,DD,s,h,u⟩;exact#[U,M,DD,s.mark,h,u.mark])
 refine ce (xk I R (IN F) hr hg hm hk hb .nil ha EX O J m L hdC he hpl hsw) ?_
 rintro D Z H ⟨U,M,DD,s,h,up⟩
 refine#[U,M,_,#[s.i0,s.rh,s.rs],h,λds M1 Y vs H1 z i1 r1=>?_]
 try dsimp only
 rw[U9];refine cA Y.2 z r1 (by rw[<- r1.length];exact Y.1) (λd M2 l v H2 j i2 r2=>?_) λC' M2 l H2 j i2=>?_
 .exact up.nx _ _ l Z H2 (i1.trans i2) (s.go j<|i1.trans i2)
 obtain⟨rfl,l⟩:=l;exact#[rfl,U,M2,DD,s.go j (i1.trans i2),l,up.go<|i1.trans i2]
end _3
namespace _2
open PySem PySem.Spec PyProof.Rows
theorem gC(h:(Uf scope env).names.lookup x=ap k):∃c,(x,c)∈scope.names/\(k=c\/(c=.free/\k=.cell)):=by
 obtain⟨⟨n,b⟩,g,f⟩:=Ul.mp (Vd h)
 by_cases e:(b==NameKind.free&&env.scope.kind==.function&&env.kindOf n==ap .cell)=true
 .have a:(n,Xt)=(x,k):=by rw[<- f];show _=(if _ then _ else _);rw[if_pos e]
  cases a;exact#[b,g,by lia]
 have a:(n,b)=(x,k):=by rw[<- f];show _=(if _ then _ else _);rw[if_neg e]
 cases a;exact#[_,g,.inl rfl]
theorem kK:∀{fs:aa'}{a:abb},fs.length=a.length->x∈fs->∃c,(fs.zip a).lookup x=ap c
 |[],_,_,h=>by cases h
 |_::_,[],h,_=>by simp at h
 |y::fs,c::a,hl,h=>by
  rw[Zh,V7];cases e:x==y with
  |true=>simp_all
  |false=>
   rcases Uk.mp h with z|z
   .simp_all
   exact kK (by simp_all) z
theorem memZ{α:Type}{C:α->Prop}:∀p∈([]:List α),C p:=λ_ h=>by cases h
theorem memC{α:Type}{C:α->Prop}{a:α}{l:List α}(c:C a)(e:∀p∈l,C p):∀p∈a::l,C p:=λp b=>by
 rcases Uk.mp b with rfl|z
 .exact c
 simp_all
end _2
namespace _3
open PySem _2
theorem dnm(i:Nat)(a:X.N[i]?=ap x:=by rfl)(hv:R7 X.env.scope x:=by first|exact Or.inl rfl|exact Or.inr (Or.inl rfl)|exact Or.inr (Or.inr rfl))(hd:(x==("__debug__":Str))=false:=by decide)(hcd:(x==("__classdict__":Str))=false:=by decide):DE X B (.Name x pos) (ac i):=QM a hv hd hcd
def iD:DX:=λ_ _=>False
theorem uxN:vz K B iD E:=λ_ _ z=>z.elim
theorem nY:eS "list"=ap (.type "list"):=by rfl
theorem qf:eS "tuple"=ap (.type "tuple"):=by rfl
theorem J4:eS "all"=ap (.builtin "all"):=by rfl
theorem mM:eS "isinstance"=ap (.builtin "isinstance"):=by rfl
theorem EN:eS "bool"=ap (.type "bool"):=by rfl
theorem JW:eS "int"=ap (.type "int"):=by rfl
theorem J7:eS "str"=ap (.type "str"):=by rfl
theorem uP:eS "dict"=ap (.type "dict"):=by rfl
theorem JE:eS "min"=ap (.builtin "min"):=by rfl
theorem J5:eS "max"=ap (.builtin "max"):=by rfl
theorem Lw:eS "len"=ap (.builtin "len"):=by rfl
theorem S8(e:Gl X x)(a:X.mg x=ca)(c:eS x=ap (.type T))(b:x≠"__name__":=by decide)(hd:(x==("__debug__":Str))=false:=by decide):DE X B (.Name x pos) (dC<|.ty T):=
 Gj (JN (v:=.ty T) e a c rfl b hd) λ_=>rfl
def frzs:List D->Mem->(List D->Mem->Prop)->Prop
 |[],M,Q=>Q [] M
 |d::ds,M,Q=>onRe d (λa=>mLe (M a) (λc=>frzs ds (M.del a) λb M'=>Q (.lst c::b) M') (frzs ds M λb M'=>Q (d::b) M')) (frzs ds M λb M'=>Q (d::b) M')
theorem jx:∀{ds:List D}{vs:List V}{M:Mem}{H:Hp}{Q:List D->Mem->Prop},Inv X aa1 Z H s->RepH X.K H M->Rps X.K H ds vs->frzs ds M Q->
  ∃H' es M',Inv X aa1 Z H' s/\RepH X.K H' M'/\Frm M H M' H'/\Rps X.K H' es vs/\Q es M'
 |[],vs,M,H,Q,I,rh,r,h=>#[H,[],M,I,rh,Frm.refl,r,h]
 |d::ds,vs,M,H,Q,I,rh,r,h=>by
  obtain⟨v,vs',rfl,a,b⟩:=r;unfold frzs at h
  replace h:=h.inv;rcases h with⟨a',rfl,h⟩|h
  .cases a
   replace h:=h.inv;rcases h with⟨xs,e,h⟩|h
   .obtain⟨ws,h1,h2⟩:=rh _ _ e
    obtain⟨o,I2⟩:=Inv.freeze I h1;have im:Imm H (upd H a'<|.frz o<|.lst ws):=Imm.upd (by rw[h1];trivial)
    obtain⟨H',es,M',I',rh',f,r',q⟩:=jx I2 (rh.freeze h1) (b.mono im) h;refine#[H',_,M',I',rh',(Frm.del #[_,e]).trans f,.cons ?_ r',q];have z:Rp _ _ (.lst xs) _:=#[a',ws,rfl,#[o,upd_same],h2.mono im];exact z.mf (rh.freeze h1) f
   obtain⟨H',es,M',I',rh',f,r',q⟩:=jx I rh b h;exact#[H',_,M',I',rh',f,.cons (d:=.ref a') rfl r',q]
  obtain⟨H',es,M',I',rh',f,r',q⟩:=jx I rh b h;exact#[H',_,M',I',rh',f,.cons (a.mf rh f) r',q]
def frzT(d:D)(M:Mem)(Q:DK):Prop:=onTe d (λa=>frzs a M λb M'=>Q (.tup b) M') (Q d M)
def qp(t:b6):b6:=λU M Q=>t U M λd M'=>frzT d M' Q
theorem Lm(h:DE X B e te):DE X B e (qp te):=by
 rintro g s Z H Q I ⟨U,M,QQ,n,o,u⟩
 refine bu (h _ s Z H (λv H'=>∃d M',RepH _ H' M'/\Frm M H M' H'/\Rp _ H' d v/\frzT d M' QQ) I #[U,M,_,n,o,λd M' q v H' a i r=>#[d,M',a,i,r,q]]) ?_
 rintro w A ⟨v,H',I',f,d,M',a,i,r,q⟩
 unfold frzT at q
 replace q:=q.inv;rcases q with⟨y,rfl,q⟩|q
 .obtain⟨p,m,rfl,x,r⟩:=r
  obtain⟨H2,z,M2,I2,b,c,l,j⟩:=jx I' a r q;exact#[_,H2,I2,f,u _ _ j _ H2 b (i.trans c) #[p,m,rfl,x.mono (c.imm a),l]]
 exact#[v,H',I',f,u _ _ q v H' a i r]
theorem PX(F:FnOk P w K g a (lq P w) k f fd ps (bb K n T)):
  FnOk P w K g a CX0 k f fd ps (λvs H Q _=>bb K n T vs H Q E0):=
 #[λvs H Q E h=>F.len _ _ _ _ h,λA b s H c q vs Q E i p o j l=>rc (F.run A b s H c q vs Q E0 i p o j l) λr J h=>by
  cases r with
  |ok fl=>cases fl<;>exact h
  |error e=>
   obtain⟨C',C,H',B,v,u,L,y,x,M,G,I,z,m⟩:=h;exact(show False from m).elim]
theorem Js{c:aa_}(g:GR H)(i:SqL K H a (c.map V.int))(h:T [.ml (c.map D.int)] (λ_=>ca) (λd _=>d=.bl true) iD)(k:∀H',Q (.bl true) H'):bb K 1 T [.ref a] H Q E0:=by
 refine#[rfl,[.ml _],_,_,_,λb o e=>(by cases e),.cons #[a,_,rfl,?_,wy rfl] .nil,h,λd M' q v H' j f r=>?_,λ_ _ z=>z.elim]
 .rcases i with (z|z)|z
  .rcases g a with e|⟨o,xs,e⟩
   .simp_all
   simp_all
  .exact .inl z
  exact .inr z
 subst q;cases r;exact k H'
theorem kP(X:K.In h)(X':K.In h')(e:W.nsOkIn K N=true):h'.nsMap N=h.nsMap N:=by
 unfold W.nsOkIn at e
 split at e
 .rename_i a
  unfold Heap.nsMap;rw[X _ _ a,X' _ _ a]
 cases e
theorem iO(X:K.In h)(q:Y7 K C [.type "ValueError",.type "Exception",.type "BaseException",.type "object"] "ValueError.__new__"=true):ExcAt K C:=by
 unfold Y7 at q
 split at q
 .rename_i w G g A
  split at q
  .rename_i C' H i p m v n u j o
   simp only[Vw,beq_iff_eq,Bool.not_eq_true']at q;obtain⟨⟨⟨⟨⟨rfl,rfl⟩,b⟩,r⟩,a⟩,c⟩:=q;obtain⟨nm,bs,E,s,y,x,z,sub,B,e,del⟩:=G;dsimp only at j b a c;subst j b;have f:g=(Tw [i,p,m,v,ap (.builtin "ValueError.__new__"),u]):=by
    obtain⟨l⟩:=g;simp only at o;rw[o]
   subst f;refine#[#[nm,y,s,bs,H,_,x,z,sub,B,e,w,i,p,m,v,u,"ValueError.__new__","ValueError.__init__","ValueError",h.nsMap s,λI X'=>#[X' _ _ A,?_,W.tail_of_in X' r],W.nsMap_none_of_in X a c,PySem.F.excBase_ValueError,by decide,(W.tail_of_in X r).hasType<|by decide]]
   rw[<- kP X X' a];exact .of_isNs (W.isNs_of_in X' a)
  .cases q
 .cases q
end _3
namespace _2
open PySem
theorem Lr(i:env.blockKind=.function)(h:env.scope.names.lookup x=ap .local)(j:f.line=pos.line)
  (g:(scope.names.any λ(n,k)=>n==x&&(k==.local||k==.cell))=cx):py (.ListComp b a scope pos) (ap<|.Name x f) line env=pure true:=by
 have e:(Expr.ListComp b a scope pos).pos=pos:=rfl;have c:env.kindOf x=ap .local:=h;unfold py
 try dsimp only
 rw[i,c,e,j,g];simp
end _2
namespace _3
open PySem _2
noncomputable def FO:eT->Bool
 |.Starred ..=>cx
 |_=>true
theorem CO(h:FO e=true):ee (e::es) env=(cx,ff e env)::ee es env:=by
 cases e<;>first|rfl|trivial
theorem da_c(b:DE X B e te)(c:DA X B es t)(a:FO e=true:=by rfl):DA X B (e::es) (aa te t):=IZ b c (CO a)
def Dn(n:Nat)(t:pK):k4:=λd U M Q=>Qo d (λb=>b.length=n/\t b U M Q) λa=>mL (M a) λb=>b.length=n/\t b U M Q
theorem Qw(y:X.calm=true)(h:RG X B es t)(G:(mm es X.env).length=n:=by rfl)(hst:(mm es X.env).findIdx? (·.1)=none:=by rfl):DG X B (.Tuple es k pos) (Dn n t):=by
 rintro q s Z H v u Q I r ⟨d,U,M,QQ,i,x,hd,w⟩
 cases d with
 |lst m=>
  obtain⟨p,j,rfl,A,g⟩:=x;obtain⟨E,hd⟩:=hd;cases r;obtain⟨f,a,pl,z⟩:=I.list A.sq;have c:(mm es X.env).length=f.toArray.size:=by have:=a.length;have:=g.length;simp_all
  refine ax (Y_ ?_);unfold unpack;rw[c,hst];refine ax (j0 (W.kun_itemsOf (I.ok.hd y) pl.isList λF l=>?_));have I1:Inv X _ Z H _:=I.kept (t':=s.toks) λb o e=>l b o (Uy<|Ug e) e;exact h _ _ Z H j _ Q I1 (by assumption) #[m,U,M,QQ,i,g,hd,w]
 |ref p=>
  cases x
  replace hd:mL _ _:=hd
  obtain⟨m,e,hd⟩:=hd.inv;obtain⟨j,C,g⟩:=i.rh _ _ e;obtain⟨E,hd⟩:=hd;cases r;obtain⟨f,a,pl,z⟩:=I.list (SqL.of C);have c:(mm es X.env).length=f.toArray.size:=by have:=a.length;have:=g.length;simp_all
  refine ax (Y_ ?_);unfold unpack;rw[c,hst];refine ax (j0 (W.kun_itemsOf (I.ok.hd y) pl.isList λF l=>?_));have I1:Inv X _ Z H _:=I.kept (t':=s.toks) λb o e=>l b o (Uy<|Ug e) e;exact h _ _ Z H j _ Q I1 (by assumption) #[m,U,M,QQ,i,g,hd,w]
 |_=>trivial
end _3
namespace _S
open PySem
structure Ord(K:Type) where
 lt:K->K->Bool
 anti:∀x y,lt x y=cx->lt y x=cx->x=y
 tr:∀x y z,lt y x=cx->lt z y=cx->lt z x=cx
 asym:∀x y,lt x y=true->lt y x=cx
section
variable{K:Type}[DecidableEq K](o:Ord K)
abbrev Po(l:List K):Prop:=l.Pairwise λa b=>o.lt b a=cx
noncomputable def ins(x:K):List K->List K
 |[]=>[x]
 |y::r=>if o.lt y x=true then y::ins x r else x::y::r
noncomputable def kR:List K->List K
 |[]=>[]
 |x::r=>ins o x (kR r)
theorem mW(x:K):∀l:List K,(ins o x l).Perm (x::l)
 |[]=>Zb _
 |y::r=>by
  unfold ins
  by_cases h:o.lt y x=true
  .rw[if_pos h];exact(Zc y<|mW x r).trans (List.Perm.swap ..)
  simp_all
theorem dU:∀l:List K,(kR o l).Perm l
 |[]=>Zb _
 |x::r=>(mW o x _).trans (Zc x<|dU r)
theorem yI(x:K):∀l:List K,Po o l->Po o (ins o x l)
 |[],_=>by simp[ins]
 |y::r,h=>by
  unfold ins;have b:=Wl.mp h
  by_cases c:o.lt y x=true
  .rw[if_pos c]
   refine Wl.mpr #[λz a=>?_,yI x r b.2];rcases Uk.mp ((mW o x r).mem_iff.mp a) with rfl|q
   .exact o.asym _ _ c
   simp_all
  rw[if_neg c];have e:o.lt y x=false:=by simpa using c
  refine Wl.mpr #[λz a=>?_,h];rcases Uk.mp a with rfl|q
  .exact e
  exact o.tr _ _ _ e (b.1 z q)
theorem jn:∀l:List K,Po o (kR o l)
 |[]=>Ym
 |x::r=>yI o x _ (jn r)
theorem xi:∀(a b:List K),Po o a->Po o b->a.Perm b->a=b
 |[],b,_,_,p=>by simp_all
 |x::a,b,ha,hb,p=>by
  cases b with
  |nil=>simp_all
  |cons y b=>
   have c:=Wl.mp ha;have f:=Wl.mp hb;have e:x=y:=by
    rcases Uk.mp (p.mem_iff.mp<|Ux ..) with e|hx
    .exact e
    rcases Uk.mp (p.symm.mem_iff.mp<|Ux ..) with e|hy
    .exact e.symm
    exact o.anti _ _ (f.1 x hx) (c.1 y hy)
   subst e;rw[xi a b c.2 f.2 (by simp_all)]
theorem Ij{a l:List K}(b:Po o a)(p:a.Perm l):a=kR o l:=xi o _ _ b (jn o l) (p.trans (dU o l).symm)
end
end _S
namespace _3
open PySem _2 _S
theorem iN:eS "sorted"=ap (.builtin "sorted"):=by rfl
end _3
namespace _S
open PySem
noncomputable def HB:Ord Int where
 lt:=λx y=>decide (x<y)
 anti:=λx y b a=>by simp at b a;lia
 tr:=λx y z b a=>by simp at b a ⊢;lia
 asym:=λx y h=>by simp at h ⊢;lia
theorem G5(h:l.Pairwise (·<=·)):Po HB l:=h.imp λ{a b} z=>by show decide _=cx;simp;lia
end _S
namespace _3
open PySem _2 _S
def dS:List D->Option (List Int)
 |[]=>ap []
 |.int i::ds=>match dS ds with
  |some is=>ap (i::is)
  |none=>ca
 |_=>ca
theorem fP:∀a:List Int,dS (a.map D.int)=ap a
 |[]=>rfl
 |x::a=>by rw[Ue,dS,fP a]
theorem jz:∀{ds:List D}{vs:List V}{xs:aa_},Rps K H ds vs->dS ds=ap xs->vs=xs.map V.int
 |[],vs,xs,r,e=>by cases e;exact r
 |d::ds,vs,xs,r,e=>by
  obtain⟨v,h,rfl,a,b⟩:=r;cases d with
  |int c=>
   simp[dS]at e
   split at e
   .rename_i f g
    cases e;cases a;rw[jz b g];rfl
   cases e
  |_=>trivial
theorem vM:∀{a:aa_}{us:aba},Vals (a.map V.int) us->X6 us a:=by
 intro a
 induction a with
 |nil=>intro us h;cases h;exact .nil
 |cons x a ih=>intro us h;cases h with|cons r t=>obtain⟨u,rfl⟩:=r;exact .cons _ _ (ih t)
theorem G9:∀{a:aa_}{us:aba},X6 us a->Vals (a.map V.int) us:=by
 intro a us h
 induction h with
 |nil=>exact .nil
 |cons x t _ ih=>exact .cons #[t,rfl] ih
theorem vO:∀(a:aa_),Rps K H (a.map D.int) (a.map V.int)
 |[]=>rfl
 |_::a=>#[_,_,rfl,rfl,vO a]
def jh:oZ:=λb M Q=>one b λd=>so (cC M d) λc=>so (dS c) λa=>a.length<64/\∀p,M p=ca->Q (.ref p) (M.upd p<|.lst<|(kR HB a).map D.int)
theorem tS:bo X (.builtin "sorted") (liftC X jh):=by
 rintro aa1 s Z H xs us Q I r ⟨ds,M,QQ,rh,rp,h,up⟩
 unfold jh at h
 replace h:=h.inv;obtain⟨_,rfl,h⟩:=h
 obtain⟨v,rfl,rv⟩:=g8 (ds:=[]) rp;obtain⟨ys,e,h⟩:=h.inv;obtain⟨q,vs,rfl,hq,rr⟩:=da rh rv e;obtain⟨ss,es,h⟩:=h.inv;obtain⟨h64,h⟩:=h;have:=jz rr es;subst this;obtain⟨u,rfl,ru⟩:=jC r;cases ru;obtain⟨aa7,r',pl,hz⟩:=I.list (.inl hq);have hlen:=r'.length;rw[Uc]at hlen;refine PyProof.Rows.sorted_ints pl.isList (vM r') (by lia) λout ss' s1 s2 s3=>?_
 obtain⟨k,hk⟩:=XH _ _ _;obtain rfl:=Ij _ (G5 s3) s2;have hn:=I.hok.fresh (V5 _);refine#[.ref _,_,I.laid (o:=.lst _) (λb o=>XE) (V5 _) (#[?_,_,k,G9 s1,by exact hk]),rfl,?_]
 .rw[Uc,s2.length_eq];exact Uw (Wd h64) (by decide)
 exact up _ _ (h _<|rh.fresh hn) _ _ (rh.put (by rw[hn];trivial) #[_,upd_same,vO _]) (Frm.put<|.inl hn) rfl
end _3
namespace _2
open PySem
theorem HV(N:X.calm=true):bo X (.builtin "any") (λxs H Q=>∃(l:cp)(bs:List Bool),xs=[.ref l]/\SqL X.K H l (bs.map V.bl)/\Q (.bl<|bs.any id) H):=by
 rintro z s Z H xs U Q I r ⟨l,bs,rfl,J,q⟩
 obtain⟨u,rfl,F⟩:=r.one;cases F;obtain⟨a,C,p,O⟩:=I.list J;have S:=C.length;have n:l<s.heap.objs.size:=by obtain⟨o,e,_⟩:=p.isList;exact Ug e
 have x:=Uy n;have val:∀(i:Nat)(v:ay),a.toArray[i]?=ap v->∃c,bs[i]?=ap c/\v=.bool c:=λi v B=>by
  have g:a[i]?=ap v:=by simp_all
  have f:i<bs.length:=by
   have:=(UQ.mp g).1
   simp_all
  obtain⟨P,w,E⟩:=C.get (by rw[Uo,Ud f];rfl)
  rw[g]at w;cases w;exact#[_,by simp_all,E]
 have y:a.toArray.size=bs.length:=by simp_all
 refine call_any_walk (vw p.isList #[_,_,_,_,_,_,λi=>bs.getD i cx,rfl,Walks.list (A:=X.A.in1) (I.ok.hd N) _ l x _,#[#[_,Ui _ rfl,rfl,rfl],p.isList.push _],λi v R Q' E' B M=>?_,λT G L=>?_])
 .obtain⟨c,w,rfl⟩:=val i v B
  refine ol ?_
  simp_all
 have e:(Uu a.toArray.size).any (λi=>bs.getD i cx)=bs.any id:=by
  rw[y,X9,WB,WB];constructor
  .rintro⟨i,f,h⟩
   have j:=UJ.mp f;rw[VG,Ud j]at h;exact#[_,V8 j,h]
  .rintro⟨b,m,h⟩
   obtain⟨i,f,rfl⟩:=Y3.mp m;exact#[i,UJ.mpr f,by rw[VG,Ud f];exact h]
 rw[e];refine#[.bl (bs.any id),H,?_,rfl,q];exact I.kept (t':=G) λb o m=>L b o (by simp;exact Uy (Ug m)) (Ub _ m)
end _2
namespace _3
open PySem _2 _S
def Kd:oZ:=λa M Q=>one a λd=>so (cC M d) λb=>so (jb b) λbs=>Q (.bl<|bs.any id) M
theorem Dm(o:X.calm=true):bo X (.builtin "any") (liftC X Kd):=by
 rintro b s Z H w n Q I r ⟨ds,M,QQ,a,c,h,l⟩
 unfold Kd at h
 replace h:=h.inv;obtain⟨_,rfl,h⟩:=h
 obtain⟨v,rfl,m⟩:=g8 (ds:=[]) c;obtain⟨p,e,h⟩:=h.inv;obtain⟨bs,g,h⟩:=h.inv;obtain⟨q,u,rfl,j,i⟩:=da a m e;have f:=jY i g;subst f;exact HV o _ s Z H _ n Q I r #[q,bs,rfl,.inl j,l _ M h _ H a Frm.refl rfl]
theorem Ld:eS "any"=ap (.builtin "any"):=by rfl
theorem CT:eS "range"=ap (.type "range"):=by rfl
def uO(t:eE):b6:=λU M Q=>t U M λb M1=>one b λa=>onI a λj=>(-(2 ^ 62)<=j/\j<=1000)/\∀p,M1 p=ca->Q (.ref p) (M1.upd p<|.lst<|cF 0 j.toNat)
noncomputable def xp(n:Nat):List V:=(Uu n).map λ(i:Nat)=>V.int (0+(i:Int))
theorem JK:Rps K H (cF 0 n) (xp n):=by
 unfold cF xp;generalize Uu n=l
 induction l with
 |nil=>rfl
 |cons i l ih=>exact#[_,_,rfl,rfl,ih]
theorem FE(h:ItemsOf (λi v=>∃t,v=.int (0+i*1) t) aa4 n):Vals (xp n) aa4.toList:=by
 obtain⟨h1,h2⟩:=h;have key:∀(l:List _)(k m:Nat),l.length=m->(∀(j:Nat)(v:ay),l[j]?=ap v->∃t,v=.int (0+(k+j)) t)->Vals ((Wn k m).map λ(i:Nat)=>V.int (0+i)) l:=by
  intro l
  induction l with
  |nil=>intro k m e _;subst e;exact .nil
  |cons x l ih=>
   intro k m e h;subst e;refine .cons ?_ (ih _ _ rfl λj v q=>?_)
   .obtain⟨t,rfl⟩:=h 0 x (by simp)
    exact#[t,rfl]
   obtain⟨t,e⟩:=h (j+1) v (by simpa using q)
   exact#[t,by rw[e];congr 2;lia]
 unfold xp;rw[V4];exact(key _ 0 n (by trivial) λj v q=>by
  simp_all)
def Ep(t:TA):TE:=λZ H Q=>t Z H λa H1=>∃j:Int,a=[.int j]/\(-(2 ^ 62)<=j/\j<=1000)/\∀p,H1 p=ca->Q (.ref p) (upd H1 p<|.lst<|xp j.toNat)
theorem xC(N:X.calm=true)(O:Gl X "range")(R:X.mg "range"=ca)(v:Gl X "list")(m:X.mg "list"=ca)(P:PA X [e] t)
  (S:ee [e] X.env=[(cx,ff e X.env)]:=by rfl) (hs3:ee [YK (.Name "range" r) [e] [] a] X.env=[(cx,ff (.Call (.Name "range" r) [e] [] a) X.env)]:=by rfl):
  PE X (.Call (.Name "list" p) [.Call (.Name "range" r) [e] [] a] [] pos) (Ep t):=by
 intro x s Z H Q I h;refine k' (dk I v m nY<|UU ?_ hs3 rfl);show eg _ _ (spliced ((cx,_)::f' _ [])) _ _ s;refine VS ?_;refine k' (dk I O R CT<|UU (bu (P _ _ s Z H _ I h) λW c L=>?_) S rfl);obtain⟨T,H1,I1,J,M⟩:=L;obtain⟨j,rfl,⟨y,U⟩,q⟩:=M;obtain⟨u,rfl,C⟩:=jC J;obtain⟨t',rfl⟩:=C;refine call_range_1 ?_;refine Wo ?_;have G:=I1.ok.hd N;refine call_list_range (n:=j.toNat) G (IsRange.new ..) (small_one (by decide) (by decide) y<|by lia) (by rw[rangeSize_one];split<;>lia) (by lia) λK E f w F A g=>?_
 have i:(c.heap.push { cls:=.type "range",data:=.fields (Tw [.int 0 c.toks,.int j t',.int 1 (c.toks+1)]) }).objs.size=c.heap.objs.size+1:=Vc ..;have l:K.get? (c.heap.objs.size+1)=ap { cls:=.type "list",dict:=ca,data:=.seq f w,slots:=(Tw []) }:=by rw[<- i];exact A
 refine#[.ref (c.heap.objs.size+1),_,I1.laid (t':=E) (o:=.lst (xp j.toNat)) (λb o z=>F b o (Ub _ z)) (V5 _) (#[?_,f.toList,w,FE g,by rw[Array.toArray_toList];exact l]),?_,q _<|I1.hok.fresh<|V5 _]
 .simp only[xp,Uc,Xa]
  exact Uw (by lia:j.toNat<=1000) (by decide)
 .show UH _=UH _
  rw[<- i]
theorem xz(hc:X.calm=true)(hg:Gl X "range")(hm:X.mg "range"=ca)(hg2:Gl X "list")(hm2:X.mg "list"=ca)(ha:DA X B [e] t)
  (hs:ee [e] X.env=[(cx,ff e X.env)]:=by rfl) (hs3:ee [YK (.Name "range" p2) [e] [] pos2] X.env=[(cx,ff (.Call (.Name "range" p2) [e] [] pos2) X.env)]:=by rfl):
  DE X B (.Call (.Name "list" p) [.Call (.Name "range" p2) [e] [] pos2] [] pos) (uO t):=by
 refine aS (xC hc hg hm hg2 hm2 ha hs hs3) ?_
 rintro Z H Q ⟨U,M,QQ,s,h,u⟩
 refine#[U,M,_,s,h,λds M1 h1 vs H1 rh1 i1 r1=>?_]
 replace h1:=h1.inv;obtain⟨_,rfl,h1⟩:=h1
 replace h1:=h1.inv;obtain⟨_,rfl,h1⟩:=h1
 obtain⟨v,rfl,rv⟩:=g8 (ds:=[]) r1;cases rv;exact#[_,rfl,h1.1,λd hd=>u _ _ (h1.2 d<|rh1.fresh hd) _ _ (rh1.put (by rw[hd];trivial) #[_,upd_same,JK]) (i1.trans<|Frm.put<|.inl hd) rfl]
end _3
namespace _3
open PySem _2
def tZ:wB:=λx b M Q=>onR x λa=>nil0 b (mL (M a) λ_=>Q .non (M.upd a<|.lst []))
theorem Du:vo X "list.clear" (liftM X tZ):=by
 rintro aa1 s Z H x vs v us Q I rx rv ⟨d,ds,M,QQ,rh,r,rs,h,up⟩
 unfold tZ at h
 replace h:=h.inv;obtain⟨a,rfl,h⟩:=h
 replace h:=h.inv;obtain⟨rfl,h⟩:=h
 cases r;cases rs;obtain⟨xs,hM,h⟩:=h.inv;obtain⟨ws,h1,h2⟩:=rh _ _ hM;exact GO _ s Z H _ _ v us Q I rx rv #[a,ws,rfl,rfl,h1,up _ _ h _ _ (rh.put (by rw[h1];trivial) #[[],upd_same,rfl]) (Frm.put<|.inr #[_,hM]) rfl]
def rP(C:cp)(ta tv:b6)(f:Str):ar:=λD U M=>ta U M λx M1=>onR x λa=>mN (M1 a) λC' fs=>C'=C/\fs.length<1000/\so (fs.lookup f) λb=>onI b λi=>tv U M1 λy M2=>onI y λj=>M2 a=ap (.ins C fs)/\D.nx U (M2.upd a<|.ins C<|bV f (.int (i+j)) fs)
theorem DR(c:Cls X.K C)(n:NoAttr X.K C f)(ha:DE X B o ta)(hv:DE X B value tv):DS X B (.AugAssign (.Attribute o f tpos) .Add value pos) (rP C ta tv f):=by
 refine ce (qu ha hv QN) ?_
 rintro D Z H ⟨U,M,DD,s,h,up⟩
 refine#[U,M,_,s,h,λx M1 h1 v1 H1 rh1 i1 r1=>?_]
 replace h1:=h1.inv;obtain⟨a,rfl,h1⟩:=h1
 cases r1;obtain⟨C',fs,hM,h1⟩:=h1.inv;obtain⟨rfl,hl,h1⟩:=h1;obtain⟨w21,hf,h1⟩:=h1.inv
 replace h1:=h1.inv;obtain⟨i,rfl,h1⟩:=h1
 obtain⟨dx,ws,e1,e2⟩:=rh1 _ _ hM;obtain⟨z,_⟩|⟨d,w,hd,hw,rw1⟩:=e2.lookup f
 .simp_all
 rw[hf]at hd;cases hd;cases rw1;refine#[a,C',dx,ws,_,rfl,e1,c,n,hw,U,M1,_,s.go rh1 i1,h1,λy M2 h2 v2 H2 rh2 i2 r2=>?_]
 replace h2:=h2.inv;obtain⟨j,rfl,h2⟩:=h2
 cases r2;obtain⟨hM2,h2⟩:=h2;obtain⟨dx2,ws2,e3,e4⟩:=rh2 _ _ hM2;have i3:Frm M2 H2 (M2.upd a<|.ins C'<|bV f (.int (i+j)) fs) (upd H2 a<|.ins C' dx2<|_2.dA f (.int (i+j)) ws2):=Frm.put (by simp_all)
 exact#[i,j,rfl,rfl,_,_,e3,by rw[<- e4.length];exact hl,up.nx _ _ h2 Z _ ((i1.trans i2).trans i3)<|s.go (rh2.put (by rw[e3];trivial) #[_,_,upd_same,(jH (by trivial) e4).mono<|i3.imm rh2])<|(i1.trans i2).trans i3]
end _3
namespace _2
open PySem PySem.Spec PyProof.Rows _S
theorem Inv.frzT(I:Inv X a Z H s)(e:H d=ap (.frz b<|.dT aa3))(m:b.data=.dict es l):
  s.heap.get? d=ap b/\∃xs:List (List aC×cp×ay),KT H aa3 xs/\es.toList=xs.map (entryOfKey<|tupleKind<|aT X.prog X.w):=by
 obtain⟨g,_,_,xs,r,o,i,j,f,_,c,h,_⟩:=(I.hok d _ e);rw[g]at f;cases f;rw[m]at c;cases c;exact#[g,xs,r,h]
theorem KT.at:∀{aa3:List (List aC×V)}{xs:List (List aC×cp×ay)},KT H aa3 xs->∀{i:Nat}{ks:List aC}{x:V},aa3[i]?=ap (ks,x)->∃b u,xs[i]?=ap (ks,b,u)/\H b=ap (.tup<|ks.map kV)/\RelV x u
 |_,_,.nil,i,ks,x,e=>by simp at e
 |_,_,.cons (b:=q) h t,0,ks,x,e=>by
  simp at e;subst e;obtain⟨f,a,c⟩:=q;exact#[a,c,by simp_all,h.2.1,h.2.2]
 |_,_,.cons h t,i+1,ks,x,e=>by
  simpa using KT.at t e
theorem Inv.freezeT(I:Inv X e Z H s)(h:H p=ap (.dT aa3)):
  ∃f es l,f.data=.dict es l/\es.size=aa3.length/\s.heap.get? p=ap f/\(p==n7)=cx/\Inv X e Z (upd H p<|.frz f<|.dT aa3) s:=by
 obtain⟨z,y,j,r,f,es,l,g,n,i,A,J⟩:=(I.hok p _ h);have ne:∀{b:cp}{u:Option HO},H b=u->u≠ap (.dT aa3)->b≠p:=λ{b u} q K z=>by simp_all
 refine#[f,es,l,i,by rw[<- Vp,A,Uc,<- VM r],g,y,I.ok,I.os,I.bare,#[I.base.keep,I.base.slot,λb o q B C=>?_,I.base.there,λb j q=>?_,λb o u q=>?_,λb F q=>?_],I.loc,I.cell,?_,λx c q=>?_,λG E=>?_,λb o q=>?_,I.len]
 .have a:=I.base.free b o q B C
  rw[aw (by lia)];exact a
 .have a:=I.base.tups b j q
  rw[aw (by lia)];exact a
 .have a:=I.base.frzs b o u q
  rw[aw (by lia)];exact a
 .obtain⟨more,a⟩:=I.base.tbls b F q
  exact#[_,by rw[aw (by lia)];exact a]
 .rw[aw (ne I.free<|by simp)];exact I.free
 .have a:=I.freeC x c q
  rw[aw (by lia)];exact a
 .obtain⟨g,n,i⟩:=I.pin G E
  exact#[g,by rw[aw (by lia)];exact n,i]
 have m:∀{u:HO}{b:cp},ObjOk X.prog X.w H s.heap b u->ObjOk X.prog X.w (upd H p<|.frz f<|.dT aa3) s.heap b u:=λx=>x.stay (by lia) (λc y=>by rw[aw (by lia)];exact y) λc j y=>by rw[aw (by lia)];exact y
 by_cases v:b=p
 .subst v
  rw[upd_same]at q;cases q;exact#[g,m<|I.hok b _ h]
 .rw[aw v]at q
  exact m (I.hok b o q)
end _2
namespace _3
open PySem _2 _S
theorem t8:∀ks:List aC,Rps K H (ks.map λk=>match k with|.inl i=>D.int i|.inr x=>D.str x) (ks.map kV)
 |[]=>rfl
 |.inl i::ks=>#[_,_,rfl,rfl,t8 ks]
 |.inr x::ks=>#[_,_,rfl,rfl,t8 ks]
theorem RepH.freezeT{K:Uh}{H:Hp}{M:Mem}{p:cp}{aa3:List (List aC×V)}{o:Obj}(r:RepH K H M)(h:H p=ap (.dT aa3)):RepH K (upd H p<|.frz o<|.dT aa3) (M.del p):=λb u e=>by
 unfold Mem.del at e
 split at e
 .cases e
 rename_i hb
 exact(r b u e).keep (Imm.upd<|by rw[h];trivial) (aw hb)
end _3
namespace _S
open PySem PySem.W PySem.Calls PyProof.Rows PyProof.V PySem.Spec _2
theorem qS:yl (.type "list") "keys"=pure none:=by rfl
abbrev Pr(h:g3)(a:cp)(aa7:abh)(n:Nat):Prop:=h.get? a=ap { cls:=.type "list",dict:=ca,data:=.seq aa7 n,slots:=(Tw []) }
theorem o6(j:Pr s.heap a aa7 n)(r:A.handled=ca)
  (h:∀h' l,(∀b o,s.heap.get? b=ap o->h'.get? b=ap o)->Q ca { s with heap:=h',toks:=l }):eg (ez prog w) A (aaf (.ref a) "keys") Q E s:=by
 obtain⟨m,g,d,l,p⟩:=s;have i:∀f,(#[m,g,d,f,p]:cb).TypeIs (.ref a) "list":=λ_=>#[_,j,rfl];have q:=sub_AttributeError;have v:=Wv.lookup;have x:=Wv.bind (.ref a);have y:=am_list_getattr_none;unfold aaf getAttrBy? getAttrBy
 repeat (any_goals (first|assumption|exact i _|((with_reducible show eg _ _ (call (Value.builtin "list.__getattribute__") _ _) _ _ _);refine mo Wv (i _) am_entry_list_getattribute (PySem.F.args_list_getattribute_2 _ _) (meets_getattribute_miss_list a aa7 n (Tw []) "keys" _ qS (by decide +kernel) (by decide +kernel)) #[j,r,λh' f e c=>?_])|wp_step))
 obtain⟨B,z,u⟩:=c.there;show eg _ _ (J' _ _ _ _ _ _ _) _ _ _;unfold J'
 repeat (any_goals (first|assumption|wp_step))
 exact h _ _ c.keeps
theorem xq{s:cb}{Ts:abb}(P:Ts.length=ps.length)(B:Pr s.heap l (Ts.map UH).toArray m)(C:∀(i:Nat)(u:i<Ts.length)(j:i<ps.length),xb s.heap Ts[i] ps[i].1 ps[i].2):
  ∀(A':fv)(f:cb)(Q:abe)(E:abe),(∀b o,s.heap.get? b=ap o->f.heap.get? b=ap o)->s.heap.objs.size<f.heap.objs.size->
   (∀h' O R St,(∀b o,f.heap.get? b=ap o->h'.get? b=ap o)->PSrc v w s.heap.objs.size O ps R St->St 0 h'->(∀b∈R,b∈[]\/s.heap.objs.size<b)->Q (.ref O) { f with heap:=h' })->eg (ez v w) A' (aad<|.ref l) Q E f:=by
 intro A' f Q E K lt k;have ne:∀{b o},s.heap.get? b=ap o->b≠s.heap.objs.size/\b≠f.heap.objs.size:=λe=>#[Uy (Ug e),Uy<|YV (Ug e) lt];have y:f.heap.IsList l (Ts.map UH).toArray:=#[_,K _ _ B,rfl,m,rfl];have J:∀{h h':g3}(b:cp),(∀c o,c≠b->h.get? c=ap o->h'.get? c=ap o)->(∀{c o},s.heap.get? c=ap o->c≠b)->h.IsList l (Ts.map UH).toArray/\(∀(i:Nat)(u:i<Ts.length)(j:i<ps.length),xb h Ts[i] ps[i].1 ps[i].2)->h'.IsList l (Ts.map UH).toArray/\∀(i:Nat)(u:i<Ts.length)(j:i<ps.length),xb h' Ts[i] ps[i].1 ps[i].2:=by
  intro h h' b k n q;obtain⟨⟨o,F,H⟩,p⟩:=q;refine#[#[o,k _ _ (n B) F,H],λi u j=>?_];obtain⟨o,x,e,r⟩:=p i u j;obtain⟨_,_,T,_⟩:=C i u j;exact#[o,x,k _ _ (n T) e,r]
 refine vw y (k _ f.heap.objs.size [f.heap.objs.size] (λi h=>h.IsListIter f.heap.objs.size l i/\h.IsList l (Ts.map UH).toArray/\∀(i:Nat)(u:i<Ts.length)(j:i<ps.length),xb h Ts[i] ps[i].1 ps[i].2) (λb o e=>Ub _ e) #[by simp;exact Uy lt,λi h h' g k=>#[g.1.at λo e=>k _ o (Wc lt) e,J _ k (λe=>(ne e).1) g.2],?_,?_] #[#[_,Ui _ rfl,rfl,rfl],?_,λi u j=>?_] λb L=>.inr (by simp at L;subst L;exact lt))
 .intro A i I U Q E M _ g G
  refine aaK (x:=.ref Ts[i]) g.1 g.2.1 (by simp[P,I]) λh' z N=>?_
  obtain⟨a,b⟩:=J _ (λc o S e=>N.extBut c o S e) (λe=>(ne e).2) g.2;exact G h' Ts[i] #[z,a,b] (b i (by lia) I) λc o n e=>N.extBut c o (by simpa using n) e
 .exact λA U Q E M g G=>aaT M g.1 g.2.1 (by simp[P]) λh' k=>G h' λc o n e=>k c o (by simpa using n) e
 .obtain⟨o,F,H⟩:=y
  exact#[o,Ub _ F,H]
 .obtain⟨o,n,e,r⟩:=C i u j
  exact#[o,n,Ub _ (K _ _ e),r]
end _S
namespace _2
open PySem PySem.Spec PyProof.Rows _S
inductive PrK(H:Hp):List V->List (aC×V)->Prop
 |nil:PrK H [] []
 |cons {T:cp} {k:aC} {x:V} {vs:List V} {aa3:List (aC×V)} (hT:H T=ap (.tup [kV k,x])) (r:PrK H vs aa3):PrK H (.ref T::vs) ((k,x)::aa3)
theorem Inv.pair(I:Inv X aa1 Z H s)(h:H T=ap (.tup [y,x])):∃k v,RelV y k/\RelV x v/\xb s.heap T k v:=by
 obtain⟨_,f,r,o,e,⟨c,n,d⟩,_⟩:=(I.hok T _ h);obtain⟨k,v,rfl,a,b⟩:=r.two;exact#[k,v,a,b,o,n,e,c,d]
theorem Inv.prK(I:Inv X aa1 Z H s):∀{vs:List V}{aa3:List (aC×V)},PrK H vs aa3->∃(Ts:abb)(rs:List (aC×ay×ay)),vs=Ts.map V.ref/\KV aa3 (rs.map λr=>(r.1,r.2.2))/\Ts.length=rs.length/\(∀r∈rs,(aT X.prog X.w).is r.1 r.2.1=true)/\∀(i:Nat)(l:i<Ts.length)(j:i<rs.length),xb s.heap Ts[i] rs[i].2.1 rs[i].2.2
 |_,_,.nil=>#[[],[],rfl,.nil,rfl,by simp,λi h=>absurd h (Yg _)]
 |_,_,.cons (T:=T) (k:=k) hT r=>by
  obtain⟨Ts,rs,rfl,q,f,g,a⟩:=I.prK r;obtain⟨c,v,b,e,p⟩:=I.pair hT;refine#[T::Ts,(k,c,v)::rs,rfl,.cons #[rfl,e] q,by simp[f],λr hr=>?_,λi l j=>?_]
  .rcases Uk.mp hr with rfl|hr
   .exact jE b
   exact g r hr
  cases i with
  |zero=>exact p
  |succ i=>exact a i _ _
theorem Inv.ls(I:Inv X aa1 Z H s)(e:Rd H l (.lst vs)):∃aa7 n,Vals vs aa7/\Pr s.heap l aa7.toArray n:=by
 obtain⟨_,aa7,n,r,q⟩:=(e.ok I.hok);exact#[_,n,r,q]
theorem xZ(B:X.calm=true):bo X (.type "dict") (λxs H Q=>∃l vs aa3,xs=[.ref l]/\Rd H l (.lst vs)/\PrK H vs aa3/\aa3.length<=1000000/\∀p,H p=ca->Q (.ref p) (upd H p<|.dK<|aa3.foldl (λa p=>fE a p.1 p.2) [])):=by
 rintro aa1 s Z H xs G Q I r ⟨l,vs,aa3,rfl,v,A,E,q⟩
 obtain⟨u,rfl,m⟩:=r.one;cases m;obtain⟨Ts,y,rfl,j,e,b,f⟩:=I.prK A;obtain⟨h,n,z,c⟩:=I.ls v;obtain rfl:h=Ts.map _:=pR z;have g:y.length<=1000000:=by have:=VM j;simp_all
 refine oY B I rfl rfl rfl (by lia) (by lia) (by simp) j b g #[_,c,rfl] (by decide) (λA' F Q' E' x w=>o6 (w _ _ c) x) (xq (by simp[e]) c λi o C=>?_) q
 simp;exact f i o _
end _2
namespace _3
open PySem _2 _S
def wt:List D->Option (List (aC×D))
 |[]=>ap []
 |.tup [k,v]::ds=>match cN k,wt ds with
  |some ks,ap r=>ap ((ks,v)::r)
  |_,_=>ca
 |_=>ca
theorem Ir:∀{ds:List D}{vs:List V}{aa3:List (aC×D)},Rps K H ds vs->wt ds=ap aa3->∃i,PrK H vs i/\Rkv K H aa3 i
 |[],vs,aa3,r,e=>by cases e;cases r;exact#[[],.nil,.nil]
 |d::ds,vs,aa3,r,e=>by
  obtain⟨v,z,rfl,a,b⟩:=r;unfold wt at e
  split at e
  .trivial
  .rename_i k x l h
   cases h
   split at e
   .rename_i y q n w
    cases e;obtain⟨i,p,m⟩:=Ir b w;obtain⟨T,E,rfl,u,o⟩:=a;obtain⟨C,s,rfl,g,c⟩:=o;obtain⟨A,j,rfl,c,f⟩:=c;cases f;have:=ia g n;subst this;exact#[_,.cons u p,.cons #[rfl,c] m]
   cases e
  cases e
theorem HC[DecidableEq c](h:Rkv K H a b):∀{a0:List (c×D)}{b0:List (c×V)},Rkv K H a0 b0->Rkv K H (a.foldl (λx p=>eD x p.1 p.2) a0) (b.foldl (λx p=>fE x p.1 p.2) b0):=by
 induction h with
 |nil=>exact λh=>h
 |@cons p q _ _ h t ih=>
  intro a0 b0 e;rw[VD,VD];refine ih ?_;rw[<- h.1];exact e.put _ h.2
theorem IJ(g:RepH K H M)(r:Rp K H d v)(e:cC M d=ap xs)(f:∀ys,d≠.ml ys):∃l vs,v=.ref l/\Rd H l (.lst vs)/\Rps K H xs vs:=by
 cases d with
 |lst ys=>
  cases e;obtain⟨p,vs,rfl,⟨o,h⟩,r⟩:=r;exact#[p,vs,rfl,.inr #[o,h],r]
 |ml ys=>exact absurd rfl (f ys)
 |ref a=>
  simp only[cC]at e
  split at e
  .rename_i ys q
   cases e;cases r;obtain⟨vs,c,b⟩:=g _ _ q;exact#[a,vs,rfl,.inl c,b]
  .cases e
 |_=>cases e
noncomputable def Fi:D->Bool
 |.ml _=>cx
 |_=>true
theorem JD(h:Fi d=true):∀ys,d≠.ml ys:=λys e=>by subst e;cases h
def gJ:oZ:=λb M Q=>one b λd=>Fi d=true/\so (cC M d) λc=>so (wt c) λaa3=>aa3.length<=1000000/\∀p,M p=ca->Q (.ref p) (M.upd p<|.dK<|aa3.foldl (λa p=>eD a p.1 p.2) [])
theorem ui(hc:X.calm=true):bo X (.type "dict") (liftC X gJ):=by
 rintro aa1 s Z H xs us Q I r ⟨ds,M,QQ,rh,rp,h,up⟩
 unfold gJ at h;obtain⟨_,rfl,h⟩:=h.inv;obtain⟨v,rfl,rv⟩:=g8 (ds:=[]) rp;obtain⟨hm,h⟩:=h;obtain⟨ys,e,h⟩:=h.inv;obtain⟨aa3,e2,h⟩:=h.inv;obtain⟨l,vs,rfl,hq,rr⟩:=IJ rh rv e (JD hm);obtain⟨ws,h1,h2⟩:=Ir rr e2;exact xZ hc _ s Z H _ us Q I r #[l,vs,ws,rfl,hq,h1,by rw[<- h2.length];exact h.1,λp hp=>up _ _ (h.2 p<|rh.fresh hp) _ _ (rh.put (by rw[hp];trivial) #[_,upd_same,(HC h2 .nil).mono<|Imm.new hp]) (Frm.put<|.inl hp) rfl]
end _3
namespace _3
open PySem _2
def ip:List D->List D->List D->List D
 |x::xs,y::ys,u::us=>.tup [x,y,u]::ip xs ys us
 |_,_,_=>[]
theorem pX:∀{xs ys us:List D}{i:Nat}{d:D},(ip xs ys us)[i]?=ap d->∃x y u,xs[i]?=ap x/\ys[i]?=ap y/\us[i]?=ap u/\d=.tup [x,y,u]
 |x::xs,y::ys,u::us,0,d,h=>by simp[ip]at h;simp_all
 |x::xs,y::ys,u::us,i+1,d,h=>by simp only[Ua]at h ⊢;exact pX h
 |[],_,_,_,_,h=>by trivial
 |_::_,[],_,_,_,h=>by trivial
 |_::_,_::_,[],_,_,h=>by trivial
theorem qM:∀{xs ys us:List D}{i:Nat},(ip xs ys us).length<=i->xs.length<=i\/ys.length<=i\/us.length<=i
 |x::xs,y::ys,u::us,0,h=>by trivial
 |x::xs,y::ys,u::us,i+1,h=>by
  have:=qM (by simpa [ip] using h)
  simp_all
 |[],_,_,_,_=>.inl (by simp)
 |_::_,[],_,_,_=>.inr (by simp_all)
 |_::_,_::_,[],_,_=>.inr (by simp_all)
def vH(t:eE):wC:=λU M R=>t U M λg M1=>cns g λd r=>two r λe f=>so (aQ M1 d) λb=>so (aQ M1 e) λa=>so (aQ M1 f) λc=>R #[ip b a c,bn d b++(bn e a++bn f c)] M1
theorem J0(v:Gl X "zip")(C:X.mg "zip"=ca)(A:DA X B [a,b,c] l)
  (E:ee [a,b,c] X.env=[(cx,ff a X.env),(cx,ff b X.env),(cx,ff c X.env)]:=by rfl) (hs2:ee [b,c] X.env=[(cx,ff b X.env),(cx,ff c X.env)]:=by rfl):
  DI X B (.Tuple g s w) (.Call (.Name "zip" p) [a,b,c] [] pos) (vH l):=by
 refine zb (λF M1 R h=>?_) v C A (by rw[E,hs2]) (by rw[hs2];rfl)
 replace h:=h.inv;obtain⟨d,r,rfl,h⟩:=h
 replace h:=h.inv;obtain⟨e,f,rfl,h⟩:=h
 obtain⟨N,m,h⟩:=h.inv;obtain⟨G,q,h⟩:=h.inv;obtain⟨M,o,h⟩:=h.inv;refine#[_,_,.inr rfl,.cons m (.cons q<|.cons o .nil),#[λi z n=>?_,λi j=>?_],by simpa [wZ] using h]
 .obtain⟨x,y,u,L,J,I,rfl⟩:=pX n
  simp_all
 simpa using (qM j)
end _3
namespace _S
open PySem PySem.W PyProof.Rows
variable{q:Array Nat}
noncomputable def Kp(ky:Nat->Nat)(p:Array Nat)(i:Nat):Nat:=ky (p.getD i 0)
def Pm(n:Nat)(p:Array Nat):Prop:=p.toList.Perm (Uu n)
def SU(ky:Nat->Nat)(p:Array Nat)(k:Nat):Prop:=∀i j,i<=j->j<k->Kp ky p i<=Kp ky p j
def SD(ky:Nat->Nat)(p:Array Nat)(k:Nat):Prop:=∀i j,i<=j->j<k->Kp ky p j<=Kp ky p i
def p9(n:Nat)(ky:Nat->Nat)(cmp:Nat->Nat->(Bool->cb->Prop)->cb->Prop)(s:cb):Prop:=∀i j,i<n->j<n->∀C:Bool->cb->Prop,C (decide (ky i<ky j)) s->cmp i j C s
section
variable{p:Array Nat}
theorem Pm.size(h:Pm n p):p.size=n:=by
 simpa using (List.Perm.length_eq h)
theorem Pm.lt(h:Pm n p)(b:i<n):p.getD i 0<n:=by
 have a:i<p.size:=by rw[Pm.size h];exact b
 have e:p.getD i 0=p[i]:=by simp[a]
 rw[e];exact UJ.mp (WR h |>.mp (by simp))
theorem Pm.of(h:Pm n p)(e:q.Perm p):Pm n q:=(Array.perm_iff_toList_perm.mp e).trans h
theorem xD(h:q[i]?=p[j]?):q.getD i 0=p.getD j 0:=by
 simp_all
theorem gr(h:q[i]?=p[j]?):Kp ky q i=Kp ky p j:=congrArg ky (xD h)
theorem nZ(a:j<=p.size)(k:Nat):Kp ky (kas_rev p i j) k=if i<=k/\k<j then Kp ky p (i+j-1-k) else Kp ky p k:=by
 have e:=getElem?_mirror_all (i:=i) a k
 by_cases h:i<=k/\k<j
 .rw[if_pos h]at e ⊢
  exact gr e
 rw[if_neg h]at e ⊢;exact gr e
theorem EC(b:src<p.size)(c:d<=src)(k:Nat):Kp ky (bubble p src d) k=if k=src-d then Kp ky p src else if src-d<k/\k<=src then Kp ky p (k-1) else Kp ky p k:=by
 have e:=getElem?_bubble b d c k
 by_cases h:k=src-d
 .rw[if_pos h]at e ⊢
  exact gr e
 rw[if_neg h]at e ⊢
 by_cases a:src-d<k/\k<=src
 .rw[if_pos a]at e ⊢
  exact gr e
 rw[if_neg a]at e ⊢;exact gr e
theorem GZ{p:Array Nat}:∀k,m+1-(0+1)<=k->k<m+1->Kp ky p k=Kp ky p (m+1-1):=λk b a=>by
 have e:k=m:=by lia
 subst e;rfl
theorem SU1:SU ky p 1:=λi j a b=>by
 have e:i=j:=by lia
 rw[e];exact Um _
theorem Pm.rev(h:Pm n p):Pm n (kas_rev p i j):=h.of (mirror_perm ..)
theorem nC(a:p9 n ky cmp s)(b:i<n)(g:j<n)(f:ky i<ky j->(k true).kasWp cmp Q s)(e:¬ky i<ky j->(k cx).kasWp cmp Q s):(KasT.ask i j k).kasWp cmp Q s:=by
 refine a i j b g _ ?_
 by_cases c:ky i<ky j
 .rw[decide_eq_true c];exact f c
 rw[decide_eq_false c];exact e c
theorem wN(l:p9 n ky cmp s)(g:Pm n p):∀(f a:Nat)(Q:Nat->cb->Prop),1<=a->a+f<=n->SU ky p a->(∀m,a<=m->m<=a+f->SU ky p m->(m<a+f->Kp ky p m<Kp ky p (m-1))->Q m s)->(kas_asc p f a).kasWp cmp Q s
 |0,a,Q,h1,h2,hs,h=>h a (by lia) (by lia) hs (by lia)
 |f+1,a,Q,h1,h2,hs,h=>by
  refine nC l (g.lt<|by lia) (g.lt<|by lia) (λc=>?_) λc=>?_
  .exact h a (by lia) (by lia) hs λ_=>c
  refine wN l g f _ Q (by lia) (by lia) (λi j b w=>?_) λm r v o u=>h m (by lia) (by lia) o (by lia)
  by_cases e:j=a
  .subst e
   by_cases x:i=j
   .simp_all
   .exact Uw (hs i _ (by lia)<|by lia) (WD c)
  exact hs i j b (by lia)
theorem lJ(v:p9 n ky cmp s):∀(f:Nat)(p:Array Nat)(m q:Nat)(Q:Array Nat×Nat×Nat->cb->Prop),Pm n p->1<=m->m+f<=n->SD ky p m->q+1<=m->(∀k,m-(q+1)<=k->k<m->Kp ky p k=Kp ky p (m-1))->
  (∀a b g,Pm n a->m<=b->b<=m+f->SD ky a b->g+1<=b->(∀k,b-(g+1)<=k->k<b->Kp ky a k=Kp ky a (b-1))->Q (a,b,g) s)->(kas_desc f p m q).kasWp cmp Q s
 |0,p,m,q,Q,hp,h1,h2,hs,hq,he,h=>h p m q hp (Um _) (by lia) hs hq he
 |f+1,p,m,q,Q,hp,h1,h2,hs,hq,he,h=>by
  have one:∀a,(∀k,Kp ky a k=Kp ky p k)->Kp ky p m<=Kp ky p (m-1)->SD ky a (m+1):=λa w c i j x F=>by
   rw[w,w]
   by_cases e:j=m
   .subst e
    by_cases I:i=j
    .simp_all
    .exact Uw c (hs i (j-1) (by lia)<|by lia)
   .exact hs i j x (by lia)
  refine nC v (hp.lt<|by lia) (hp.lt<|by lia) (λc=>?_) λc=>?_
  .have C:=Wd c
   show (if q>0 then _ else _:KasT _).kasWp cmp Q s
   split
   .have w:∀k,Kp ky (kas_rev p (m-(q+1)) m) k=Kp ky p k:=λk=>by
     rw[nZ (by rw[hp.size];lia)]
     split
     .rename_i z
      rw[he _ (by lia) (by lia),he k z.1 z.2]
     .rfl
    exact lJ v f _ (m+1) 0 Q hp.rev (by lia) (by lia) (one _ w C) (by lia) GZ λa b g l B y o u r=>h a b g l (by lia) (by lia) o u r
   .exact lJ v f p (m+1) 0 Q hp (by lia) (by lia) (one _ (λ_=>rfl) C) (by lia) GZ λa b g l B y o u r=>h a b g l (by lia) (by lia) o u r
  .refine nC v (hp.lt<|by lia) (hp.lt<|by lia) (λA=>?_) λA=>?_
   .exact h p m q hp (Um _) (by lia) hs hq he
   .have E:Kp ky p m=Kp ky p (m-1):=Nat.le_antisymm (WD A) (WD c)
    refine lJ v f p (m+1) (q+1) Q hp (by lia) (by lia) (by simp_all) (by lia) (λk H G=>?_) λa b g l B y o u r=>h a b g l (by lia) (by lia) o u r
    show Kp ky p k=Kp ky p m
    by_cases e:k=m
    .rw[e]
    .rw[he k (by lia) (by lia),E]
theorem mB{t:KasT α}{Q:b->cb->Prop}(h:t.kasWp cmp (λa s'=>(f a).kasWp cmp Q s') s):(t.bind f).kasWp cmp Q s:=by
 rw[KasT.kasWp_bind];exact h
theorem wv(g:p9 n ky cmp s)(b:Pm n p)(l:1<=m)(w:m<=n)(o:SD ky p m)(h:∀a c,Pm n c->1<=a->a<=n->SU ky c a->Q (a,c) s):(kas_tail3 m n p).kasWp cmp Q s:=by
 refine mB (wN g b.rev _ m _ l (by lia) (λi j e v=>?_) λa r u f _=>h a _ b.rev (by lia) (by lia) f)
 rw[nZ (by rw[b.size];lia),nZ (by rw[b.size];lia),if_pos (by lia),if_pos (by lia)]
 exact o _ _ (by lia) (by lia)
theorem ki(f:p9 n ky cmp s)(v:Pm n p)(C:1<=m)(B:m+1<=n)(w:SD ky p (m+1))(h:∀a b,Pm n b->1<=a->a<=n->SU ky b a->Q (a,b) s):(kas_descPart m n p).kasWp cmp Q s:=by
 refine mB (lJ f _ p _ 0 _ v (by lia) (by lia) w (by lia) GZ λb a u c y A g x o=>?_)
 dsimp only
 split
 .refine wv f c.rev (by lia) (by lia) (λi j e r=>?_) h
  have l:∀k,Kp ky (kas_rev b (a-(u+1)) a) k=Kp ky b k:=λk=>by
   rw[nZ (by rw[c.size];lia)]
   split
   .rename_i z
    rw[o _ (by lia) (by lia),o k z.1 z.2]
   rfl
  rw[l,l];exact g i j e r
 exact wv f c (by lia) (by lia) g h
theorem Hc(o:p9 n ky cmp s)(a:Pm n p)(I:1<=n)(h:∀r w,Pm n w->1<=r->r<=n->SU ky w r->Q (r,w) s):(kas_count n p).kasWp cmp Q s:=by
 refine mB (wN o a _ 1 _ (by lia) (by lia) SU1 λm l F f B=>?_)
 by_cases e:m=n
 .subst e
  rw[if_pos (by simp)]
  exact h m p a l (by lia) f
 rw[if_neg (by simpa using e)]
 have lt:=B (by lia)
 by_cases g:m>1
 .rw[if_pos g]
  refine nC o (a.lt<|by lia) (a.lt<|by lia) (λc=>?_) λc=>?_
  .exact h m p a l (by lia) f
  have eq:∀k,k<m->Kp ky p k=Kp ky p (m-1):=λk b=>by
   have H:=f k (m-1) (by lia) (by lia)
   have E:=f 0 k (by lia) b
   have G:Kp ky p (m-1)<=Kp ky p 0:=WD c;lia
  have b:∀k,Kp ky (kas_rev p 0 m) k=Kp ky p k:=λk=>by
   rw[nZ (by rw[a.size];lia)]
   split
   .rename_i z
    rw[eq _ (by lia),eq k z.2]
   .rfl
  refine ki o a.rev l (by lia) (λi j u A=>?_) h
  rw[b,b]
  by_cases C:j=m
  .subst C
   by_cases y:i=j
   .rw[y];exact Um _
   .rw[eq i (by lia)];lia
  .rw[eq i (by lia),eq j (by lia)];exact Um _
 .have:m=1:=by lia
  subst this;refine ki o a l (by lia) (λi j u A=>?_) h
  have:Kp ky p 1<Kp ky p 0:=lt;have x:i=0\/i=1:=by lia
  have v:j=0\/j=1:=by lia
  rcases x with rfl|rfl<;>rcases v with rfl|rfl<;>lia
theorem nU(v:p9 n ky cmp s)(e:Pm n p)(w:k<n)(u:SU ky p k):∀(f l r:Nat)(Q:Nat->cb->Prop),l<=r->r<=k->r-l<=f->(∀i,i<l->Kp ky p i<=Kp ky p k)->(∀i,r<=i->i<k->Kp ky p k<Kp ky p i)->
  (∀o,o<=k->(∀i,i<o->Kp ky p i<=Kp ky p k)->(∀i,o<=i->i<k->Kp ky p k<Kp ky p i)->Q o s)->(kas_place p k f l r).kasWp cmp Q s
 |0,l,r,Q,h1,h2,h3,a,b,h=>h l (by lia) a λi i1=>b i (by lia)
 |f+1,l,r,Q,h1,h2,h3,a,b,h=>by
  unfold kas_place
  by_cases c:l>=r
  .rw[if_pos c]
   exact h l (by lia) a λi i1=>b i (by lia)
  .rw[if_neg c]
   exact nC v (e.lt w) (e.lt<|by lia) (λg=>(nU v e w u f l _ Q (by lia) (by lia) (by lia) a (λi i1 i2=>Ur g (u _ i i1 i2)) h)) λg=>(nU v e w u f _ r Q (by lia) (by lia) (by lia) (λi i1=>Uw (u i _ (by lia)<|by lia) (WD g)) b h)
theorem Hj(u:p9 n ky cmp s):∀(f:Nat)(p:Array Nat)(k:Nat)(Q:Array Nat->cb->Prop),Pm n p->1<=k->k+f=n->SU ky p k->(∀o,Pm n o->SU ky o n->Q o s)->(kas_bin f p k).kasWp cmp Q s
 |0,p,k,Q,hp,h1,h2,hs,h=>h p hp (by simp_all)
 |f+1,p,k,Q,hp,h1,h2,hs,h=>by
  refine mB (nU u hp (by lia) hs k 0 k _ (by lia) (by lia) (by lia) (by lia) (by lia) λl v a b=>?_)
  refine Hj u f _ _ Q (hp.of<|bubble_perm ..) (by lia) (by lia) (λi j g w=>?_) h
  have sz:k<p.size:=by rw[hp.size];lia
  have e:k-(k-l)=l:=by lia
  rw[EC sz (by lia),EC sz (by lia),e]
  by_cases i1:i=l
  .rw[if_pos i1]
   by_cases c:j=l
   .simp_all
   .rw[if_neg c,if_pos (by lia)]
    exact Wd (b _ (by lia)<|by lia)
  rw[if_neg i1]
  by_cases i2:l<i/\i<=k
  .rw[if_pos i2,if_neg (by lia),if_pos (by lia)]
   exact hs (i-1) (j-1) (by lia) (by lia)
  .rw[if_neg i2]
   by_cases c:j=l
   .rw[if_pos c];exact a i (by lia)
   .rw[if_neg c]
    by_cases r:l<j/\j<=k
    .rw[if_pos r];exact hs i (j-1) (by lia) (by lia)
    .rw[if_neg r];exact hs i j g (by lia)
theorem nQ:Pm n (Vy<|Uu n):=by unfold Pm;simp
theorem z5(e:p9 n ky cmp s)(f:1<=n)(h:∀p,Pm n p->SU ky p n->Q p s):(kas_sort n).kasWp cmp Q s:=by
 refine mB (Hc e nQ f λm p a b g c=>?_)
 split
 .rw[Nat.max_eq_left b]
  exact Hj e _ p m Q a b (by lia) c h
 have:m=n:=by lia
 subst this;exact h p a c
end
def jJ:List Int->List Int->Bool
 |[],[]=>cx
 |[],_::_=>true
 |_::_,[]=>cx
 |x::xs,y::ys=>if x=y then jJ xs ys else decide (x<y)
theorem zw:∀x:List Int,jJ x x=cx
 |[]=>rfl
 |x::xs=>by simp[jJ,zw xs]
theorem uu:∀x y:List Int,jJ x y=cx->jJ y x=cx->x=y
 |[],[],_,_=>rfl
 |[],_::_,h,_=>by trivial
 |_::_,[],_,h=>by trivial
 |x::xs,y::ys,h1,h2=>by
  unfold jJ at h1 h2
  by_cases c:x=y
  .subst c
   rw[if_pos rfl]at h1 h2;rw[uu xs ys h1 h2]
  rw[if_neg c]at h1;rw[if_neg (by lia)]at h2
  simp at h1 h2;lia
theorem sI:∀x y z:List Int,jJ y x=cx->jJ z y=cx->jJ z x=cx
 |[],[],[],_,_=>rfl
 |[],[],_::_,_,h=>rfl
 |[],_::_,[],_,h=>by rfl
 |[],_::_,_::_,_,_=>rfl
 |_::_,[],_,h,_=>by trivial
 |_::_,_::_,[],_,h=>by assumption
 |x::xs,y::ys,z::zs,h1,h2=>by
  unfold jJ at h1 h2 ⊢
  by_cases c:y=x
  .rw[if_pos c]at h1
   subst c
   by_cases d:z=y
   .rw[if_pos d]at h2 ⊢;exact sI xs ys zs h1 h2
   simp_all
  rw[if_neg c]at h1
  by_cases d:z=y
  .simp_all
  rw[if_neg d]at h2;simp at h1 h2;rw[if_neg (by lia)]
  simp;lia
theorem nH:∀x y:List Int,jJ x y=true->jJ y x=cx
 |[],[],h=>by rfl
 |[],_::_,_=>rfl
 |_::_,[],h=>by trivial
 |x::xs,y::ys,h=>by
  unfold jJ at h ⊢
  by_cases c:x=y
  .subst c
   rw[if_pos rfl]at h ⊢;exact nH xs ys h
  rw[if_neg c]at h;rw[if_neg (by lia)]
  simp at h ⊢;lia
def dh:Ord (List Int):=#[jJ,uu,sI,nH]
theorem B9{α:Type}{p q:α->Bool}:∀{l:List α},(∀x∈l,p x=true->q x=true)->(∃y∈l,q y=true/\p y=cx)->l.countP p<l.countP q
 |[],_,⟨_,h,_⟩=>by cases h
 |x::l,h,⟨y,hy,hq,hp⟩=>by
  have mono:l.countP p<=l.countP q:=YY (by simp_all)
  rw[List.countP_cons,List.countP_cons];rcases Uk.mp hy with e|hy
  .subst e
   rw[if_pos hq,hp];simp;lia
  have:=B9 (by simp_all) #[y,hy,hq,hp]
  cases c:p x with
  |false=>simp;split<;>lia
  |true=>simp_all
def rk(ks:aa9)(i:Nat):Nat:=ks.countP λx=>jJ x (ks.getD i [])
theorem LH(g:i<ks.length):decide (rk ks i<rk ks j)=jJ (ks.getD i []) (ks.getD j []):=by
 unfold rk;have e:ks.getD i []∈ks:=by simp[g]
 generalize ks.getD i []=a at e;generalize ks.getD j []=b;cases c:jJ a b with
 |true=>
  refine decide_eq_true (B9 (λx f h=>?_) #[a,e,c,zw a]);cases d:jJ x b with
  |true=>rfl
  |false=>
   have:=sI a b x (nH a b c) d
   simp_all
 |false=>
  refine decide_eq_false (Xr.mpr (YY λx f h=>?_));cases d:jJ x a with
  |true=>rfl
  |false=>
   have:=sI b a x c d
   simp_all
end _S
namespace _3
open PySem _2 _S
theorem FV(a:Pm ks.length p)(n:SU (rk ks) p ks.length):p.toList.map (λi=>ks.getD i [])=kR dh ks:=by
 refine Ij _ ?_ ?_
 .refine W5.mpr λi j f c l=>?_
  have sz:=a.size;simp at f c;simp only[XY,Array.getElem_toList];have b:=n i j (by lia) (by lia)
  unfold Kp at b;have m:p.getD j 0=p[j]:=by simp[c]
  have h:p[j]<ks.length:=by
   have:=a.lt (i:=j) (by lia)
   rw[m]at this;exact this
  show jJ _ _=cx;rw[<- LH h]
  simp_all
 have:=List.Perm.map (λi=>ks.getD i []) a;have e:(Uu ks.length).map (λi=>ks.getD i [])=ks:=by
  refine Xl (by simp) λi b g=>?_
  simp[g]
 rw[e]at this;exact this
theorem jU(r:Vals vs aa7):∀l:List Nat,(∀i∈l,i<vs.length)->Vals (l.map λi=>vs.getD i .non) (l.map λi=>aa7.getD i Vj)
 |[],_=>.nil
 |i::l,h=>by
  have a:=h i (by simp)
  obtain⟨v,f,c⟩:=r.get (Ud a);have b:vs.getD i .non=vs[i]:=by simp[a]
  have e:aa7.getD i Vj=v:=by simp_all
  rw[Ue,Ue,b,e];exact .cons c (jU r l<|by simp_all)
end _3
namespace _3
open PySem _2
variable{x:Str}
structure GF(K:Uh)(mg:abg)(x:Str)(st:mu)(f:cp)(fd:fy)(ps:aa'):Prop where
 F:Fun K x x st f fd
 b:Binds K fd ps []
 k:VB K (.ref f)=true
 m:mg x=ap (.ref f)
structure GA(K:Uh)(mg:abg)(x y:Str)(st:mu)(f:cp)(fd:fy)(ps:aa'):Prop where
 F:Fun K y y st f fd
 b:Binds K fd ps []
 k:VB K (.ref f)=true
 m:mg x=ap (.ref f)
structure FunV(K:Uh)(x aa2:Str)(st:mu)(f:cp)(fd:fy):Prop where
 ex:∃(oc:ay)(od:Option cp)(kV doc pm:ay)(an:Option cp)(cdv ct:ay)(osl:Array (Option ay))(T:cp),
  fd=WI x aa2 (cg st) (bw st) (aP st) (.ref T) kV doc pm an cdv ct/\K.lookup f=ap #[oc,od,.func fd,osl]/\XZ K cdv aa2=true
 kp:VB K (.ref f)=true
structure GV(K:Uh)(mg:abg)(x:Str)(st:mu)(f:cp)(fd:fy)(ps:aa')(dv:Int):Prop where
 F:FunV K x x st f fd
 b:Binds K fd ps []
 d:∃t,Binds K fd ps [.int dv t]
 k:VB K (.ref f)=true
 m:mg x=ap (.ref f)
inductive GC(K:Uh)(mg:abg)(x:Str)(st:mu)(f:cp)(fd:fy)(ps:aa'):Prop
 |g (h:GF K mg x st f fd ps):GC K mg x st f fd ps
 |a {y:Str} (h:GA K mg x y st f fd ps):GC K mg x st f fd ps
 |v {dv:Int} (h:GV K mg x st f fd ps dv):GC K mg x st f fd ps
structure GM(K:Uh)(C:cp)(x aa2:Str)(st:mu)(f:cp)(fd:fy)(ps:aa'):Prop where
 F:Fun K x aa2 st f fd
 b:Binds K fd ps []
 m:Meth K C x f
structure GI(K:Uh)(C:cp)(x aa2:Str)(st:mu)(f:cp)(fd:fy)(ps:aa'):Prop where
 F:Fun K x aa2 st f fd
 b:Binds K fd ps []
 m:Mk K C f
theorem G8(h:GC X.K X.mg x st f fd ps)(F:FnOk X.prog X.w X.K X.mg X.base CX k f fd ps (bb X.K n T))(u:Room k X.A)(q:Gl X x)(j:bR CX X E)(ux:vz X.K B EE E)(s:DA X B (e::es) t)(i:(x==("__debug__":Str))=cx)(l:ee (e::es) X.env=(cx,ff e X.env)::ee es X.env)(c:(f' pos<|starEach es X.env).any (·.1)=cx):
  DE X B (.Call (.Name x p) (e::es) [] pos) (aj T EE n t):=by
 cases h with
 |g h=>exact tE F u q h.m h.k h.b j ux s i l c
 |a h=>exact tE F u q h.m h.k h.b j ux s i l c
 |v h=>exact tE F u q h.m h.k h.b j ux s i l c
def Q9(X:Cx)(B:Bd)(x:Str)(T:Sd)(EE:DX)(n:Nat):Prop:=∃(st:mu)(f:cp)(fd:fy)(ps:aa')(k:Nat)(CX:pi)(E:XK),GC X.K X.mg x st f fd ps/\FnOk X.prog X.w X.K X.mg X.base CX k f fd ps (bb X.K n T)/\Room k X.A/\bR CX X E/\vz X.K B EE E
theorem F8(h:Q9 X B x T EE n)(j:Gl X x)(l:DA X B (e::es) t)(b:(x==("__debug__":Str))=cx)(i:ee (e::es) X.env=(cx,ff e X.env)::ee es X.env)(a:(f' pos<|starEach es X.env).any (·.1)=cx):
  DE X B (.Call (.Name x p) (e::es) [] pos) (aj T EE n t):=by
 obtain⟨_,_,_,_,_,_,_,h,F,g,c,ux⟩:=h;exact G8 h F g j c ux l b i a
theorem F1(h:GI X.K C aa2 x st f fd ps)(F:FnOk X.prog X.w X.K X.mg X.base CX k f fd ps (bb X.K n T))(q:Room (k+1) X.A)(j:Gl X y)(s:X.mg y=ap (.ref C))(g:bR CX X E)(ux:vz X.K B EE E)(l:DA X B (e::es) t)(c:(y==("__debug__":Str))=cx)(i:ee (e::es) X.env=(cx,ff e X.env)::ee es X.env)(a:(f' pos<|starEach es X.env).any (·.1)=cx):
  DE X B (.Call (.Name y p) (e::es) [] pos) (ir C T EE n t):=IE h.m F q j s h.b g ux l c i a
theorem Ho(j:DE X B o ta)(c:Cls X.K C)(h:GM X.K C m aa2 st f fd ps)(F:FnOk X.prog X.w X.K X.mg X.base CX k f fd ps (bb X.K n T))(s:Room k X.A)(i:bR CX X E)(ux:vz X.K B EE E)(q:DA X B (e::es) t)(g:ee (e::es) X.env=(cx,ff e X.env)::ee es X.env)(a:(f' pos<|starEach es X.env).any (·.1)=cx)(l:ff (.Call (.Attribute o m aa6) (e::es) [] pos) X.env=(do
   let ov <- ff o X.env
   L' aa6.atName
   let (f,first) <- q0 [ov] (B' ov m pl)
   aai pos f first (f' pos<|starEach (e::es) X.env) (pb pos<|keywordEach [] X.env))):
  DE X B (.Call (.Attribute o m aa6) (e::es) [] pos) (dy C m T EE n ta t):=IV j c h.m F s h.b i ux q g a l
theorem D7(g:DE X B o ta)(c:Cls X.K C)(h:GM X.K C m aa2 st f fd ps)(F:FnOk X.prog X.w X.K X.mg X.base CX k f fd ps (bb X.K n T))(j:Room k X.A)(a:bR CX X E)(ux:vz X.K B EE E)(i:ff (.Call (.Attribute o m aa6) [] [] pos) X.env=(do
   let ov <- ff o X.env
   L' aa6.atName
   let (f,first) <- q0 [ov] (B' ov m pl)
   aai pos f first (f' pos<|starEach [] X.env) (pb pos<|keywordEach [] X.env))):
  DE X B (.Call (.Attribute o m aa6) [] [] pos) (dy C m T EE n ta ag):=Gn g c h.m F j h.b a ux i
inductive FC(X:Cx)(scope:qa):List Str->List Nat->List (Str×cp)->Prop
 |nil:FC X scope [] [] []
 |cons {x:Str} {j:Nat} {c:cp} {fs:aa'} {js:List Nat} {cl:List (Str×cp)}:X.N[j]?=ap x->X.env.cells.lookup x=ap c->(X.env.kindOf x=ap .cell\/X.env.kindOf x=ap .free)->
   ((Uf scope X.env).names.lookup x=ap .cell\/(Uf scope X.env).names.lookup x=ap .free)->FC X scope fs js cl->FC X scope (x::fs) (j::js) ((x,c)::cl)
theorem FC.ok(h:FC X g fs j cl):Frees X g fs j/\∃i:List cp,fs.length=i.length/\cl=fs.zip i/\∀p∈cl,X.env.cells.lookup p.1=ap p.2:=by
 induction h with
 |nil=>exact#[.nil,[],rfl,rfl,memZ]
 |cons a b c d _ ih=>
  obtain⟨q,i,m,s,l⟩:=ih;exact#[.cons a c d q,_::i,congrArg _ m,by rw[s];rfl,memC b l]
theorem KY(h:GF X.K X.mg x st f fd ps)(F:FnOk X.prog X.w X.K X.mg X.base (lq X.prog X.w) k f fd ps (bb X.K n T))(s:X.stack=X.env::X.outer)(G:X.env.frame=ap X.env.locals)(S:Room k X.A)(O:Gl X x)(Q:DA X.nox B (e::es) t)(EX:ExcAt X.K C)(z:Gl X l)(u:X.mg l=ap (.ref C))(H:∀R:cp,zj (X.marked<|.ref R) B (c::a) M)(v:(x==("__debug__":Str))=cx)(y:(l==("__debug__":Str))=cx)(U:ee (e::es) X.env=(cx,ff e X.env)::ee es X.env)(I:(f' q<|starEach es X.env).any (·.1)=cx)(J:py (.Call (.Name x p) (e::es) [] q) ca L.line X.env=pure cx):
  DS X B (.Try [.Expr (.Call (.Name x p) (e::es) [] q) L] [.ExceptHandler (ap<|.Name l P) ca (c::a) j] [] [] pos) (ND C T n t M):=xS s G F S O h.m h.k h.b Q EX z u H v y U I J
section
variable{id:String}
theorem cD(c:bo X (.builtin id) (liftC X r))(l:eS x=ap (.builtin id))(g:Gl X x)(i:X.mg x=ca)(h:DA X B (e::es) t)(j:x≠"__name__")(b:(x==("__debug__":Str))=cx)(f:ee (e::es) X.env=(cx,ff e X.env)::ee es X.env)(a:(f' pos<|starEach es X.env).any (·.1)=cx):DE X B (.Call (.Name x p) (e::es) [] pos) (bi r t):=F6 c g i l h j b f a
theorem fV(c:bo X (.type T) (liftC X r))(l:eS x=ap (.type T))(g:Gl X x)(i:X.mg x=ca)(h:DA X B (e::es) t)(j:x≠"__name__")(b:(x==("__debug__":Str))=cx)(f:ee (e::es) X.env=(cx,ff e X.env)::ee es X.env)(a:(f' pos<|starEach es X.env).any (·.1)=cx):DE X B (.Call (.Name x p) (e::es) [] pos) (bi r t):=E3 c g i l h j b f a
theorem o9(g:eS x=ap (.type T))(b:Gl X x)(c:X.mg x=ca)(f:x≠"__name__")(a:(x==("__debug__":Str))=cx):DE X B (.Name x pos) (dC<|.ty T):=S8 b c g f a
theorem GJ(i:V_ Ty)(g:Slot Ty name id)(h:Z' (.builtin id)=pure (.type "method_descriptor"))(l:vo X id (liftM X r))(j:Ty="list"\/Ty="str"\/Ty="int"\/Ty="dict")(n:DE X B o to)(m:DA X B (e::es) t)(c:kc o name X.env (ff o X.env)=ff o X.env)(f:((f' aa5<|starEach (e::es) X.env).all (λx=>!x.1)&&(pb aa5<|keywordEach [] X.env).all (λx=>x.1.isSome)
   && decide ((e::es).length+([]:List o4).length+(if ([]:List o4).isEmpty then 0 else 1)<30))=true)(b:(aa6.endLine==aa5.line)=true)(q:ee (e::es) X.env=(cx,ff e X.env)::ee es X.env)(a:(f' aa5<|starEach es X.env).any (·.1)=cx):
  DE X B (.Call (.Attribute o name aa6) (e::es) [] aa5) (iS Ty r to t):=Sj j i g h l n m c f b q a
theorem m8(g:V_ Ty)(c:Slot Ty name id)(f:Z' (.builtin id)=pure (.type "method_descriptor"))(i:vo X id (liftM X r))(h:Ty="list"\/Ty="str"\/Ty="int"\/Ty="dict")(j:DE X B o to)(b:kc o name X.env (ff o X.env)=ff o X.env)(a:(aa6.endLine==aa5.line)=true):DE X B (.Call (.Attribute o name aa6) [] [] aa5) (iS Ty r to ag):=Oz h g c f i j b a
theorem HZ(g:Slot "tuple" name id)(h:Z' (.builtin id)=pure (.type "method_descriptor"))(i:vo X id (liftM X r))(l:DE X B o to)(j:DA X B (e::es) t)(c:kc o name X.env (ff o X.env)=ff o X.env)(f:((f' aa5<|starEach (e::es) X.env).all (λx=>!x.1)&&(pb aa5<|keywordEach [] X.env).all (λx=>x.1.isSome)
   && decide ((e::es).length+([]:List o4).length+(if ([]:List o4).isEmpty then 0 else 1)<30))=true)(b:(aa6.endLine==aa5.line)=true)(m:ee (e::es) X.env=(cx,ff e X.env)::ee es X.env)(a:(f' aa5<|starEach es X.env).any (·.1)=cx):
  DE X B (.Call (.Attribute o name aa6) (e::es) [] aa5) (Ix r to t):=U2 g h i l j c f b m a
theorem IY(h:NJ X a (liftR2 X r))(j:X.N.Nodup)(c:X.N[i]?=ap x)(b:Ii X.env.scope x)(f:DE X B e te)(g:X.fn x=true\/X.env.scope.names.lookup x=ap .local):
  DS X B (.AugAssign (.Name x pos') a e pos) (HX i te r):=OO j c b f h g
end
structure Nf(K:Uh)(x:Str)(st:mu)(f:cp)(fd:fy):Prop where
 a:VA K eC x=ap (ap<|.ref f)
 F:Fun K x x st f fd
structure Af(K:Uh)(x y:Str)(st:mu)(f:cp)(fd:fy):Prop where
 a:VA K eC x=ap (ap<|.ref f)
 F:Fun K y y st f fd
structure Mf(K:Uh)(C:cp)(x q:Str)(st:mu)(f:cp)(fd:fy):Prop where
 a:Va K (.ref C) x=ap (ap<|.ref f)
 i:W.isFn K (.ref f)=true
 F:Fun K x q st f fd
theorem us1{α:Type}{P:List α->Prop}(h:∀a,P [a]):∀us:List α,us.length=1->P us
 |[a],_=>h a
theorem us2{α:Type}{P:List α->Prop}(h:∀a b,P [a,b]):∀us:List α,us.length=2->P us
 |[a,b],_=>h a b
theorem us3{α:Type}{P:List α->Prop}(h:∀a b c,P [a,b,c]):∀us:List α,us.length=3->P us
 |[a,b,c],_=>h a b c
theorem us4{α:Type}{P:List α->Prop}(h:∀a b c f,P [a,b,c,f]):∀us:List α,us.length=4->P us
 |[a,b,c,f],_=>h a b c f
theorem us5{α:Type}{P:List α->Prop}(h:∀f a c g b,P [f,a,c,g,b]):∀us:List α,us.length=5->P us
 |[f,a,c,g,b],_=>h f a c g b
theorem us6{α:Type}{P:List α->Prop}(h:∀g b f a c i,P [g,b,f,a,c,i]):∀us:List α,us.length=6->P us
 |[g,b,f,a,c,i],_=>h g b f a c i
abbrev Bnd(ps:aa')(x aa2:Str)(st:mu):Prop:=∀(kV doc pm:ay)(an:Option cp)(cdv ct:ay)(us:aba),us.length=ps.length->aay (WI x aa2 (cg st) (bw st) (aP st) .none kV doc pm an cdv ct) #[us,[]]=pure (ps.zip us)
section
variable{K:Uh}{f:cp}{fd:fy}{ps:aa'}{aa2:Str}{st:mu}
theorem gf(X:K.In h)(G:h.Ns eC mg)(l:Nf K x st f fd)(b:Bnd ps x x st:=by ac_rfl):GF K mg x st f fd ps:=#[l.F,l.F.binds b,l.F.kp,WZ X G l.a]
theorem ga(X:K.In h)(G:h.Ns eC mg)(l:Af K x y st f fd)(b:Bnd ps y y st:=by ac_rfl):GA K mg x y st f fd ps:=#[l.F,l.F.binds b,l.F.kp,WZ X G l.a]
theorem gm(l:Mf K C x aa2 st f fd)(b:Bnd ps x aa2 st:=by ac_rfl):GM K C x aa2 st f fd ps:=#[l.F,l.F.binds b,l.a,l.i,l.F.kp]
theorem gi(mk:Xp K C=true)(c:VB K (.ref C)=true)(l:Mf K C "__init__" aa2 st f fd)(b:Bnd ps "__init__" aa2 st:=by ac_rfl):GI K C "__init__" aa2 st f fd ps:=#[l.F,l.F.binds b,mk,l.a,l.i,c]
abbrev ck(P:eH)(w:fx)(mg:abg)(base:g3)(_:Fun K x aa2 st f fd)(_:Binds K fd ps [])(k:Nat)(S:Sd):Prop:=FnOk P w K mg base (lq P w) k f fd ps (bb K ps.length S)
theorem fnS(j:S=aF N T)(F:Fun K x aa2 st f fd)(b:Binds K fd ps [])(g:FnScope N ps (aP st))(i:FnScope N ps (aP st)->∀(c:ay)(A:fv)(a:List Env)(s:cb)(H:Hp)(E:XK)(B:Bd)(EE:DX),Room k (A.deeper<|Ww aa2 (aP st) s.heap.objs.size f c)->vz K B EE E->
   zj (eY (lq P w) P w K mg base N aa2 (aP st) f c A a s H E) B (bw st) (T EE)):ck P w mg base F b (k+1) S:=by
 subst j;exact fnD F g (i g)
end
end _3
namespace _3
open PySem _2 _S
def R0(M:Mem):D->Bool
 |.ref a=>match M a with
  |some (.dK _)=>true
  |_=>cx
 |_=>cx
def Gz(td ty:b6):b6:=λU M Q=>td U M λx M1=>R0 M1 x=true/\ty U M1 λy M2=>onR x λa=>mK (M2 a) λb=>so (cN y) λk=>so (cM b k) λv=>Q v (M2.upd a<|.dK<|pS b k)
def FJ(td ty tx:b6):b6:=λU M Q=>td U M λx M1=>R0 M1 x=true/\ty U M1 λy M2=>tx U M2 λz M3=>onR x λa=>mK (M3 a) λb=>so (cN y) λk=>oe (cM b k) (λv=>Q v (M3.upd a<|.dK<|pS b k)) (Q z M3)
theorem Eu(f:RepH K H M)(r:Rp K H x v)(e:R0 M x=true):∃a,x=.ref a/\v=.ref a/\IsD H a:=by
 cases x with
 |ref a=>
  cases r;refine#[a,rfl,rfl,?_];simp[R0]at e
  split at e
  .rename_i q;obtain⟨b,c,_⟩:=f _ _ q;exact .inl #[b,.inl c]
  cases e
 |_=>cases e
theorem La(ho:DE X B o to)(he:DE X B e te)(m:M1 X o "pop" aa6 e aa5):DE X B (.Call (.Attribute o "pop" aa6) [e] [] aa5) (Gz to te):=by
 refine aS (Eo ho he m) ?_
 rintro Z H Q ⟨U,M,QQ,s,h,u⟩
 refine#[U,M,_,s,h,λx M1 h1 v1 H1 rh1 i1 r1=>?_];obtain⟨a,rfl,rfl,hd⟩:=Eu rh1 r1 h1.1;refine#[a,rfl,hd,U,M1,_,s.go rh1 i1,h1.2,λy M2 h2 v2 H2 rh2 i2 r2=>?_];obtain⟨_,e,h2⟩:=h2.inv;cases e;obtain⟨aa3,hM,h2⟩:=h2.inv;obtain⟨k,ek,h2⟩:=h2.inv;obtain⟨ws,g1,g2⟩:=rh2 _ _ hM;have im:Imm H2 (upd H2 a<|.dK<|iq ws k):=Imm.upd (by rw[g1];trivial)
 rcases g2.val k with⟨q,_⟩|⟨d,w,q,qw,rw'⟩
 .rw[q]at h2;exact h2.elim
 rw[q]at h2;exact#[ws,k,w,g1,(ia r2 ek),qw,u _ _ h2 _ _ (rh2.put (by rw[g1];trivial) #[_,upd_same,(g2.drop k).mono im]) ((i1.trans i2).trans<|Frm.put<|.inr #[_,hM])<|rw'.mono im]
theorem IF(ho:DE X B o to)(he:DE X B e te)(hf:DE X B f tf)(m:M2 X o "pop" aa6 e f aa5):DE X B (.Call (.Attribute o "pop" aa6) [e,f] [] aa5) (FJ to te tf):=by
 refine aS (GU ho he hf m) ?_
 rintro Z H Q ⟨U,M,QQ,s,h,u⟩
 refine#[U,M,_,s,h,λx M1 h1 v1 H1 rh1 i1 r1=>?_];obtain⟨a,rfl,rfl,hd⟩:=Eu rh1 r1 h1.1;refine#[a,rfl,hd,U,M1,_,s.go rh1 i1,h1.2,λy M2 h2 v2 H2 rh2 i2 r2=>?_];refine#[U,M2,_,(s.go rh1 i1).go rh2 i2,h2,λz M3 h3 v3 H3 rh3 i3 r3=>?_];obtain⟨_,e,h3⟩:=h3.inv;cases e;obtain⟨aa3,hM,h3⟩:=h3.inv;obtain⟨k,ek,h3⟩:=h3.inv;obtain⟨ws,g1,g2⟩:=rh3 _ _ hM;have ey:=ia (r2.mf rh2 i3) ek;have im:Imm H3 (upd H3 a<|.dK<|iq ws k):=Imm.upd (by rw[g1];trivial)
 rcases g2.val k with⟨q,qn⟩|⟨d,w,q,qw,rw'⟩
 .rw[q]at h3
  exact#[ws,k,g1,ey,by lia,λ_=>u _ _ h3 _ _ rh3 ((i1.trans i2).trans i3) r3]
 rw[q]at h3;refine#[ws,k,g1,ey,λv ev=>?_,by lia]
 rw[qw]at ev;cases ev;exact u _ _ h3 _ _ (rh3.put (by rw[g1];trivial) #[_,upd_same,(g2.drop k).mono im]) (((i1.trans i2).trans i3).trans<|Frm.put<|by simp_all) (rw'.mono im)
def jW:oZ:=λe M Q=>one e λb=>onR b λa=>mK (M a) λc=>∀p,M p=ca->Q (.ref p) (M.upd p<|.dK c)
theorem vi:bo X (.type "dict") (liftC X jW):=by
 rintro aa1 s Z H xs us Q I r ⟨ds,M,QQ,rh,rp,h,up⟩
 unfold jW at h
 replace h:=h.inv;obtain⟨w24,rfl,h⟩:=h
 replace h:=h.inv;obtain⟨a,rfl,h⟩:=h
 obtain⟨v,rfl,rv⟩:=g8 (ds:=[]) rp;cases rv;obtain⟨aa3,e,h⟩:=h.inv;obtain⟨u,rfl,ru⟩:=r.one;cases ru;obtain⟨ws,h1,h2⟩:=rh _ _ e;exact FG I (.inl h1) λp s' hp I'=>#[.ref p,_,I',rfl,up _ _ (h p<|rh.fresh hp) _ _ (rh.put (by rw[hp];trivial) #[_,upd_same,h2.mono<|Imm.new hp]) (Frm.put<|.inl hp) rfl]
end _3
namespace _2
open PySem PySem.W PySem.Calls PyProof.Rows PyProof.V PySem.Spec
def isO:Option aC->ay->Bool
 |some k,v=>nB k v
 |none,.none=>true
 |none,_=>cx
theorem dY(h:isO ca v=true):v=.none:=by cases v<;>first|rfl|cases h
theorem uY(h:Q 4238894112 { s with toks:=s.toks+1 }):eg (ez prog w) A (pyHash .none) Q E s:=by
 have a:s.TypeIs .none "NoneType":=rfl;refine ax ?_;refine cT ?_;refine ax (y1 a rfl ?_);refine ax (y1 a rfl ?_)
 refine ax (wpAny_callSpecialIfBoundUnlessNone?_slot a X2
  (kr X2 a rfl
   (wpAny_ret_mkInt ?_) rfl))
 exact cT h
theorem vE(h:Q true s):eg (ez prog w) A (eqBool .none .none) Q E s:=by
 exact ax (F'<|wpAny_pure h)
def G3(prog:eH)(w:fx):PySem.KeyKind prog w (Option aC) where
 is:=isO
 hash:=λk=>match k with
  |some k=>S_ w k
  |none=>4238894112
 inj:=λv a b g j=>by
  cases a with
  |some a=>
   cases b with
   |some b=>rw[(aT prog w).inj v a b g j]
   |none=>
    cases dY j;rcases aY g with⟨i,t,_,e⟩|⟨x,t,_,e⟩<;>exact nomatch e
  |none=>
   cases dY g;cases b with
   |some b=>rcases aY j with⟨i,t,_,e⟩|⟨x,t,_,e⟩<;>exact nomatch e
   |none=>rfl
 byValue:=λk v h=>by
  cases k with
  |some k=>exact(aT prog w).byValue k v h
  |none=>cases dY h;rfl
 pyHash:=λ{A E s k v Q} c h=>by
  cases k with
  |some k=>exact(aT prog w).pyHash c h
  |none=>cases dY c;exact uY h
 eqBool:=λ{A E s a b u v Q} f c h=>by
  cases a with
  |some a=>
   cases b with
   |some b=>
    refine (aT prog w).eqBool f c ?_;have:decide (ap a=ap b)=decide (a=b):=decide_eq_decide.mpr #[λe=>by injection e,λe=>by rw[e]]
    rw[this]at h;exact h
   |none=>
    cases dY c;have e:decide (ap a=ca)=false:=decide_eq_false (λz=>nomatch z);rw[e]at h;rcases aY f with⟨i,t,rfl,rfl⟩|⟨x,t,rfl,rfl⟩
    .exact Yt i t _ _ _ _ h
    .exact Yq x t _ _ _ _ h
  |none=>
   cases dY f;cases b with
   |some b=>
    have e:decide (ca=ap b)=false:=decide_eq_false (λz=>nomatch z);rw[e]at h;rcases aY c with⟨i,t,rfl,rfl⟩|⟨x,t,rfl,rfl⟩
    .exact Ys i t _ _ _ _ h
    .exact Yr x t _ _ _ _ h
   |none=>
    cases dY c;exact vE h
 «strs»:=λk x t v h=>by
  cases k with
  |some k=>exact(aT prog w).strs k x t v h
  |none=>cases h
theorem map_none{h:g3}(m:h.MapOf (aT b w) a f):h.MapOf (G3 b w) a (λk=>match k with|some k=>f k|none=>ca):=by
 obtain⟨o,c,z,u,r,v,l,n⟩:=m;refine#[o,c,z,u,r,v,λe g=>?_,λk=>?_]
 .obtain⟨k,j,p⟩:=l e g
  exact#[ap k,j,p]
 cases k with
 |some k=>exact n k
 |none=>
  have:∀e∈c,isO ca e.key=false:=λe g=>by
   obtain⟨k,j,_⟩:=l e g;rcases aY j with⟨i,t,_,q⟩|⟨x,t,_,q⟩<;>rw[q]<;>rfl
  have e:c.find? (λe=>(G3 b w).is ca e.key)=none:=by
   rw[Array.find?_eq_none];intro x y;exact Bool.eq_false_iff.mp (this x y)
  unfold findBy;rw[e];rfl
theorem To(I:Inv X aa1 Z H s)(e:Rd H a (.dK aa3))(h:∀b,Inv X aa1 Z H b->Q (.bool cx) b):eg (ez X.prog X.w) A (hG .In .none<|.ref a) Q E s:=by
 obtain⟨z,g,i,f,c⟩:=jA I.hok e;refine wpAny_in_of (knd:=G3 X.prog X.w) (k:=ca) rfl g (map_none c.mapOf) ?_;exact h _ (I.tok _)
end _2
namespace _3
open PySem _2 _S
def yk(M:Mem)(x y:D):Option Bool:=match x,y with
 |.non,.ref a=>match M a with
  |some (.dK _)=>ap cx
  |_=>ca
 |_,_=>iG M x y
def F_:g7:=λx y M Q=>so (yk M x y) λk=>Q (.bl k) M
theorem KU(q:X.A.units+64<kB):cQ X (hG .In) (liftR2 X F_):=by
 rintro j s Z H x y v u Q I i f ⟨o,n,M,QQ,a,g,b,h,c⟩
 unfold F_ at h;obtain⟨k,e,h⟩:=h.inv;unfold yk at e
 split at e
 .cases g
  cases b;cases i;cases f
  split at e
  .rename_i m p
   cases e;obtain⟨r,l,w⟩:=a _ _ p;exact To I (.inl l) λz I'=>#[.bl _,H,I',rfl,c _ M h _ H a Frm.refl rfl]
  cases e
 refine EU q _ s Z H x y v u Q I i f #[o,n,M,QQ,a,g,b,?_,c];unfold wl;rw[e];exact h
end _3
namespace _2
open PySem PySem.Spec PyProof.Rows
theorem pI:Slot "reversed" "__init__" "object.__init__":=
 .of (owner:="object") (n:="__init__") (by rfl) (by rfl) (by rfl) (by rfl)
  (by trivial) (by kernel_rfl)
theorem iu:Slot "reversed" "__iter__" "reversed.__iter__":=
 .of (owner:="reversed") (n:="__iter__") (by rfl) (by rfl) (by rfl) (by rfl)
  (by trivial) (by kernel_rfl)
theorem c_:Slot "reversed" "__next__" "reversed.__next__":=
 .of (owner:="reversed") (n:="__next__") (by rfl) (by rfl) (by rfl) (by rfl)
  (by trivial) (by kernel_rfl)
theorem R5:Manifest.owners.lookup (String.ofList ['d','e','s','r','e','v','e','r'].reverse)=ap Manifest.sig_reversed:=by kernel_rfl
theorem gB:aag table "reversed.__next__"=ap Builtin.«reversed.__next__»:=PySem.entryFor_of_tree (by kernel_rfl)
theorem pM:aag table "reversed.__new__"=ap Builtin.«reversed.__new__»:=entryFor_of_tree (by kernel_rfl)
theorem nM:aag table "reversed.__iter__"=ap Builtin.«dict_keyiterator.__iter__»:=
 entryFor_alias (id':="dict_keyiterator.__iter__") (by kernel_rfl) (by rfl) (by decide +kernel) (by kernel_rfl)
theorem pB(a:ay):aaA "reversed.__iter__" #[[a],[]]:=by
 kernel_rfl
theorem io(a:ay):aaA "reversed.__next__" #[[a],[]]:=by
 kernel_rfl
theorem zp:mroOf (.type "reversed")=pure [.type "reversed",.type "object"]:=by rfl
theorem mH:yl (.type "reversed") "__new__"=pure (ap<|.builtin "reversed.__new__"):=by rfl
theorem wX:TypeCalled "reversed" "reversed.__new__" "object.__init__":=
 #[by rfl,by rfl,#[_,_,zp],madeBy_type zp mH (by decide +kernel),by decide +kernel,by rfl,pI]
theorem sX(a:ay):ZB "reversed" #[[a],[]]=pure ():=by kernel_rfl
theorem vh(a:ay):U_ "reversed.__new__" #[[.type "reversed",a],[]]=pure ():=by kernel_rfl
theorem ik(a b:ay):aaA "object.__init__" #[[a,b],[]]:=by
 kernel_rfl
theorem JV:isSubtype (.type "reversed") (.type "reversed")=pure true:=by rfl
theorem QZ:yl (.type "tuple") "__reversed__"=pure none:=by rfl
theorem Fj:isSubtype (.type "tuple") (.type "dict")=pure false:=by rfl
abbrev qm(h:g3)(z l:cp)(j:Int):Prop:=h.get? z=ap { cls:=.type "reversed",dict:=ca,data:=.fields (Tw [.ref l,.int j 0]),slots:=(Tw []) }
theorem HW{k:Nat}(c:qm s.heap z l k)(n:IsTup s.heap l a)(i:a[k]?=ap x)(o:(k:Int)<2 ^ 63)(hQ:∀h',qm h' z l ((k:Int)-1)->Vr z s.heap h'->Q (ap x) { s with heap:=h',toks:=s.toks+1 }):
  eg (ez prog w) A (w6<|.ref z) Q E s:=by
 have m:s.TypeIs (.ref z) _:=#[_,c,rfl]
 refine ax (pt (wpAny_callSpecial?_slot m c_
  (kr c_ m gB ?_<|io _)))
 show eg _ _ (field _ 0 >>= _) _ _ s;refine ax (kl c rfl rfl ?_);refine ax (kl c rfl rfl ?_);show eg _ _ (if (k:Int)<0 then _ else _) _ _ _
 refine ax (y1 n.typeIs rfl ?_);refine ax (wpAny_mkInt ?_);have g:k<a.size:=by
  rcases VV k _ with h|h
  .exact h
  .rw[YM h]at i;cases i
 refine ax (pt<|getItem_tuple n (by lia) o ?_ i ?_)
 .have e:¬((k:Int)<0):=by lia
  simp[aaH,g,if_neg e]
 refine ax (kl c rfl rfl ?_);refine ax (k6 c (by simp) λj f b=>?_)
 exact cT #[_,rfl,cT<|hQ _ f b]
theorem Jn(y:A.handled=ca)(i:qm s.heap z l j)(C:j<0)(B:∀h',W7 z s.heap h'->Q ca { s with heap:=h' }):eg (ez prog w) A (w6<|.ref z) Q E s:=by
 have u:s.TypeIs (.ref z) "reversed":=#[_,i,rfl];unfold w6
 refine ax (pt (wpAny_callSpecial?_slot u c_
  (kr c_ u gB ?_<|io _)))
 show eg _ _ (field (.ref z) 0 >>= _) _ _ s;refine ax (kl i rfl (x:=.ref l) rfl ?_);refine ax (kl i rfl (x:=.int j 0) rfl ?_);show eg _ _ (if j<0 then _ else _) _ _ _
 rw[if_pos C];refine ax (F' ?_);refine ax (ax (k6 i (by simp) λp n g=>?_))
 refine k6 n (by simp) λh v f=>?_
 refine ax ?_;refine ax ?_;refine ax (m:=aav _ _) (K' (a:=Vj) (by rfl) ?_)
 refine p6 ?_ (by size_fits)
 simp only[raiseNew];refine ax (aaD ?_);rw[show A.in1.handled=ca from y];refine ax (cT<|wpAny_throw ?_);refine ax (x9 (T:="StopIteration") (b:=true) #[_,Ui _ rfl,rfl] W1 ?_);refine cT (B _ ?_);have q:W7 z s.heap h:=λc o r e=>f.extBut _ _ r (g.extBut _ _ r e);exact(q.push _).push _
theorem uJ(b:qm s.heap z l j)(h:Q (.ref z) s):eg (ez prog w) A (aad<|.ref z) Q E s:=by
 have a:s.TypeIs (.ref z) _:=#[_,b,rfl];exact wpAny_pyIter_slot a iu (kr iu a nM (cT #[_,rfl,_,_,a,rfl,h])<|pB _)
theorem Il(n:IsTup s.heap l b)(j:(b.size:Int)<2 ^ 63)(h:∀f h',h'.objs.size=s.heap.objs.size+1->qm h' s.heap.objs.size l ((b.size:Int)-1)->(∀c o,s.heap.get? c=ap o->h'.get? c=ap o)->Q (.ref s.heap.objs.size) { s with heap:=h',toks:=f }):
  eg (ez prog w) A (call (.type "reversed") [.ref l]) Q E s:=by
 refine aaS (S:=λ_ R s=>IsTup s.heap l b/\∀f,R (.ok<|.ret<|.ref s.heap.objs.size) { s with heap:=s.heap.push { cls:=.type "reversed",data:=.fields (Tw [.ref l,.int ((b.size:Int)-1) 0]) },toks:=f })
  wX (by decide) (sX _) (vh _) (λobj=>ik obj _) pM ?_ #[n,λf=>?_]
 .refine .of_wp λprog w A R s h=>?_
  obtain⟨n,h⟩:=h;obtain⟨r,g,d,f,q⟩:=s;have i:=JV;have p:=n.typeIs;unfold Builtin.«reversed.__new__»;refine ax ?_;unfold Builtin.SmallTypes.newClass;refine ax (K' (a:=true) rfl ?_);rw[if_neg (by simp)]
  refine ax (K' i ?_);rw[if_neg (by simp)]
  refine cT ?_;refine ax (m:=specialOf _ _) (y1 p QZ ?_);refine ax ?_;refine ax (x9 p Fj ?_);rw[if_neg (by simp)]
  refine ax (y1 (T:="tuple") p slot_tuple_getitem.lookup ?_);show eg _ _ (if (["tuple.__getitem__","str.__getitem__","bytes.__getitem__","bytearray.__getitem__","memoryview.__getitem__","numpy.ndarray.__getitem__","sqlite3.Row.__getitem__"].contains "tuple.__getitem__")=true then _ else _) _ _ _
  rw[if_pos (by decide)]
  refine cT ?_;refine ax (len_tuple n j ?_);show eg _ _ (newObj (.type "reversed") (.fields (Tw [.ref l,.int ((b.size:Int)-1) 0])) >>= _) _ _ _;refine ax (p6 ?_<|by size_fits)
  exact cT #[_,rfl,h _]
 .exact#[#[_,Ui _ rfl,rfl],h f _ (Vc ..) (Ui _ rfl) λc o e=>Ub _ e]
noncomputable def Itv(K:Uh)(a:cp)(n:Nat):It:=
 #[λi H=>i<n/\∃xs x,kI K H a xs/\xs[n-1-i]?=ap x,λi H x H'=>H'=H/\∀xs,kI K H a xs->xs[n-1-i]?=ap x,λi _=>n<=i]
theorem ET{K:Uh}(a f:cp)(n:Nat)(hn:n<2 ^ 63):Turn P w K tg (Itv K a n) [f] f (λi h=>qm h f a ((n:Int)-1-i)) where
 mem:=by simp
 obj:=λi h c b L=>by
  simp_all
 keep:=λi h y c k=>k f (by simp) _ c
 item:=by
  intro X N F J C i g s Z H E I v c m;subst N F J;obtain⟨hi,xs,x,G,M⟩:=m;obtain⟨aa7,rv,p,hz⟩:=I.tuple G;obtain⟨u,W,O⟩:=rv.get M;obtain⟨B,r,Q,j,A,q⟩:=v f (by simp)
  have T:n-1-i=((n-1-i:Nat):Int):=by lia
  refine HW (by rw[<- T];exact c) (p) (by simpa using W) (by lia) λy e sb=>?_
  have I1:Inv X _ Z H { s with heap:=y,toks:=s.toks+1 }:=I.turned (λb o L=>(sb.2 b L).trans) B r j A q;have R:(((n-1-i:Nat):Int))-1=n-1-(i+1:Nat):=by lia
  rw[R]at e;exact#[u,rfl,ve e rfl rfl (by decide) #[x,H,I1,O,#[rfl,λys Y=>by rw[I.tuple_inj Y G];exact M],e,by simp_all]]
 done:=by
  intro X N F J C i g s Z H E I v c m;obtain⟨B,r,Q,j,A,q⟩:=v f (by simp)
  have U:n<=i:=m;exact Jn (I.ok.hd C) c (by lia) λy S=>#[rfl,I.turned (S) B r j A q]
 self:=λ_ _ _ _ _ c h=>uJ c h
def iRev(K:Uh)(t:TA):TI:=λZ H R=>t Z H λa H1=>∃l xs,a=[.ref l]/\kI K H1 l xs/\R (Itv K l xs.length) H1
theorem OM:eS "reversed"=ap (.type "reversed"):=by rfl
theorem NT(F:Gl X "reversed")(J:X.mg "reversed"=ca)(G:PA X [a] o)(L:ee [a] X.env=[(cx,ff a X.env)]:=by rfl):
  PI X tg (.Call (.Name "reversed" p) [a] [] pos) (iRev X.K o):=by
 intro m s Z H R I h;refine Call_ (dk I F J OM<|UU (bu (G _ _ s Z H _ I h) λQ r A=>?_) L rfl);obtain⟨M,H1,I1,y,g⟩:=A;obtain⟨l,n,e,g,q⟩:=g;subst e;obtain⟨P,rfl,f⟩:=y.one;cases f;obtain⟨i,B,v,u⟩:=I1.tuple g;have j:=B.length;have x:n.length<2 ^ 63:=Nat.lt_of_le_of_lt u (by decide)
 refine Il v (by simp;lia) λw O C c E=>?_
 have I2:Inv X _ Z H1 _:=I1.kept (t':=w) E;refine uJ c ?_;refine#[_,_,_,_,H1,rfl,I2,ET l _ _ (by lia),?_,λb N=>?_,q]
 .have e:i.toArray.size-1=n.length-1-(0:Int):=by simp;lia
  rw[e]at c;exact c
 have e:b=r.heap.objs.size:=by simp_all
 subst e;exact I1.fpOk (Um _) (I1.hok.fresh<|Um _)
end _2
namespace _3
open PySem _2 _S
def Pj(t:eE):wC:=λU M R=>t U M λb M1=>one b λa=>onT a λc=>R #[c.reverse,[]] M1
theorem QC(G:Gl X "reversed")(J:X.mg "reversed"=ca)(I:DA X B [a] o)(L:ee [a] X.env=[(cx,ff a X.env)]:=by rfl):
  DI X B tg (.Call (.Name "reversed" p) [a] [] pos) (Pj o):=by
 refine ib (NT G J I L) ?_
 rintro Z H R ⟨U,M,RR,s,h,A⟩
 refine#[U,M,_,s,h,λds M1 b N H1 e i1 r=>?_]
 replace b:=b.inv;obtain⟨u,rfl,b⟩:=b
 replace b:=b.inv;obtain⟨E,rfl,b⟩:=b
 obtain⟨v,rfl,q,c,rfl,g,n⟩:=g8 (ds:=[]) r;have z:=n.length;refine#[q,c,rfl,g.sq,A _ M1 b _ H1 e i1 λi H2 M2 i2 l _=>#[λd m=>?_,λF=>?_]]
 .have y:i<E.length:=by
   rcases VV i _ with h|h
   .exact h
   simp_all
  rw[List.getElem?_reverse y]at m;obtain⟨w,f,j⟩:=(n.mono i2).get m;rw[z]at f;refine#[#[by simp_all,c,w,(g.mono i2).sq,f],?_]
  rintro x H3 ⟨rfl,C⟩
  have:=C c (g.mono i2).sq;rw[f]at this;cases this;exact#[Frm.refl,l,j]
 show c.length<=i
 simp_all
end _3
namespace _3
open PySem _2
def rQ(C:cp)(ta tv:b6)(f:Str):ar:=λD U M=>ta U M λx M1=>onR x λa=>mN (M1 a) λC' fs=>C'=C/\fs.length<1000/\so (fs.lookup f) λb=>onI b λi=>tv U M1 λy M2=>onI y λj=>M2 a=ap (.ins C fs)/\D.nx U (M2.upd a<|.ins C<|bV f (.int (i-j)) fs)
theorem CQ(c:Cls X.K C)(n:NoAttr X.K C f)(ha:DE X B o ta)(hv:DE X B value tv):DS X B (.AugAssign (.Attribute o f tpos) .Sub value pos) (rQ C ta tv f):=by
 refine ce (qu ha hv Ob) ?_
 rintro D Z H ⟨U,M,DD,s,h,up⟩
 refine#[U,M,_,s,h,λx M1 h1 v1 H1 rh1 i1 r1=>?_]
 replace h1:=h1.inv;obtain⟨a,rfl,h1⟩:=h1
 cases r1;obtain⟨C',fs,hM,h1⟩:=h1.inv;obtain⟨rfl,hl,h1⟩:=h1;obtain⟨w26,hf,h1⟩:=h1.inv
 replace h1:=h1.inv;obtain⟨i,rfl,h1⟩:=h1
 obtain⟨dx,ws,e1,e2⟩:=rh1 _ _ hM;obtain⟨z,_⟩|⟨d,w,hd,hw,rw1⟩:=e2.lookup f
 .simp_all
 rw[hf]at hd;cases hd;cases rw1;refine#[a,C',dx,ws,_,rfl,e1,c,n,hw,U,M1,_,s.go rh1 i1,h1,λy M2 h2 v2 H2 rh2 i2 r2=>?_]
 replace h2:=h2.inv;obtain⟨j,rfl,h2⟩:=h2
 cases r2;obtain⟨hM2,h2⟩:=h2;obtain⟨dx2,ws2,e3,e4⟩:=rh2 _ _ hM2;have i3:Frm M2 H2 (M2.upd a<|.ins C'<|bV f (.int (i-j)) fs) (upd H2 a<|.ins C' dx2<|_2.dA f (.int (i-j)) ws2):=Frm.put (by simp_all)
 exact#[i,j,rfl,rfl,_,_,e3,by rw[<- e4.length];exact hl,up.nx _ _ h2 Z _ ((i1.trans i2).trans i3)<|s.go (rh2.put (by rw[e3];trivial) #[_,_,upd_same,(jH (by trivial) e4).mono<|i3.imm rh2])<|(i1.trans i2).trans i3]
def rU:wB:=λx a M Q=>onI x λi=>nil0 a (Q (.int ((Vz i:Nat):Int)) M)
theorem y9:vo X "int.bit_length" (liftM X rU):=by
 rintro a s Z H x l v m Q I c g ⟨d,j,M,QQ,f,r,e,h,b⟩
 unfold rU at h
 replace h:=h.inv;obtain⟨i,rfl,h⟩:=h
 replace h:=h.inv;obtain⟨rfl,h⟩:=h
 cases r;cases e;obtain⟨t,rfl⟩:=c;cases g;exact PyProof.Rows.call_int_bit_length #[.int _,H,I.tok _,#[_,rfl],b _ M h _ H f Frm.refl rfl]
end _3
namespace _2
open PySem PySem.Spec PyProof.Rows
theorem FY:∀(names:List (Str×W'))(h:g3)(aa4:List (Str×cp)),(ot h.objs.size names aa4).lookup x=ap c->
  aa4.lookup x=ap c\/(h.objs.size<=c/\(y' h names).IsCell c ca/\(x,Xt)∈names)
 |[],_,_,e=>.inl e
 |(n,k)::r,h,aa4,e=>by
  unfold ot at e;unfold y'
  by_cases a:(k==.cell)=true
  .rw[if_pos a]at e ⊢
   have f:(h.push { cls:=.type "cell",data:=.cell ca }).objs.size=h.objs.size+1:=Vc ..;rw[<- f]at e;rcases FY r _ _ e with z|⟨z1,z2,z3⟩
   .rw[V7]at z
    cases b:x==n with
    |true=>
     rw[b]at z;cases z;exact .inr #[by lia,#[_,Wp _ _ _ _ (Ui _ rfl),rfl],by simp_all]
    |false=>simp_all
   exact .inr #[by lia,z2,by simp_all]
  rw[if_neg a]at e ⊢;rcases FY r _ _ e with z|⟨z1,z2,z3⟩
  .exact .inl z
  simp_all
theorem xc:∀(names:List (Str×W'))(n:Nat)(aa4:List (Str×cp)),(∀x y c,aa4.lookup x=ap c->aa4.lookup y=ap c->x=y)->(∀x c,aa4.lookup x=ap c->c<n)->
  ∀x y c,(ot n names aa4).lookup x=ap c->(ot n names aa4).lookup y=ap c->x=y
 |[],_,_,h,_=>h
 |(z,k)::r,n,aa4,h,hl=>by
  unfold ot
  split
  .refine xc r _ _ (λx y c a b=>?_) λx c e=>?_
   .rw[V7]at a b
    cases f:x==z<;>cases g:y==z<;>rw[f]at a<;>rw[g]at b
    .exact h x y c a b
    .exact absurd (hl _ _ a) (by lia)
    .exact absurd (hl _ _ b) (by lia)
    simp_all
   rw[V7]at e;cases f:x==z<;>rw[f]at e
   .exact Wz (hl _ _ e)
   simp_all
  exact xc r _ _ h hl
theorem wd(h:Q (newEnv scope s.heap.objs.size g (ot (s.heap.objs.size+1) scope.names cl) a ca .none (ap env) aax) { s with heap:=y' (s.heap.push { cls:=.type "dict",data:=.dict (Tw []) }) scope.names }):
  eg M A (newFunctionEnv scope g cl [] a ca .none<|some env) Q E s:=by
 refine ax (wpAny_alloc ?_);refine ax (wpAny_layCells _ (by lia) _ _ _ _ ?_)
 rw[Vc ..];exact ax (by exact cT (cT h))
abbrev bf(X:Cx)(N:aa')(scope:qa)(cl:List (Str×cp))(C:cp)(s₀:cb)(H₀:Hp)(fp:abb)(pl:abf):Cx:=
 { O5 X N scope (ot (C+1) scope.names cl) C s₀ H₀ fp pl with fn:=λx=>scope.names.lookup x==ap .cell }
structure CompOkC(X:Cx)(scope:qa)(cl:List (Str×cp))(ls fs:aa')(js:List Nat):Prop where
 kind:scope.kind=.function
 locs:∀x∈scope.names,x.2=.local->scope.names.lookup x.1=ap .local
 clos:aaw scope X.env=pure cl
 cells:∀x c,cl.lookup x=ap c->X.env.cells.lookup x=ap c
 has:∀x,((Uf scope X.env).names.lookup x=ap .cell\/(Uf scope X.env).names.lookup x=ap .free)->scope.names.lookup x=ap .cell\/∃c,cl.lookup x=ap c
 frees:Frees X scope fs js
 own:∀x∈fs,(x,Xt)∉scope.names
 once:∀x∈scope.names,x.2=.cell->∀c,cl.lookup x.1=ap c->False
theorem CG(I:Inv X a Z H s)(co:CompOkC X scope cl ls fs B)(m:∀b∈fp,jN X a H b/\b<s.heap.objs.size):
  Inv (bf X (ls++fs) scope cl s.heap.objs.size s H fp a) [] (dw ls B Z) H { s with heap:=y' (s.heap.push { cls:=.type "dict",data:=.dict (Tw []) }) scope.names,toks:=t' }:=by
 have A:∀b o,s.heap.get? b=ap o->(y' (s.heap.push { cls:=.type "dict",data:=.dict (Tw []) }) scope.names).get? b=ap o:=λb o e=>Wp _ _ _ _ (Ub _ e);have lk:∀b o,s.heap.get? b=ap o->b≠s.heap.objs.size:=λb o e=>Uy (Ug e);have g:∀{x:Str}{c:cp},(ot (s.heap.objs.size+1) scope.names cl).lookup x=ap c->cl.lookup x=ap c\/(s.heap.objs.size+1<=c/\(y' _ scope.names).IsCell c ca/\(x,Xt)∈scope.names):=λ{x c} e=>by
  have hs:(s.heap.push { cls:=.type "dict",data:=.dict (Tw []) }).objs.size=s.heap.objs.size+1:=Vc ..;rw[<- hs]at e ⊢;exact FY _ _ _ e
 have M:∀{x:Str}{c:cp},cl.lookup x=ap c->c<s.heap.objs.size:=λ{x c} e=>by
  obtain⟨v,z⟩:=I.cell x c (co.cells x c e);exact z.lt
 refine#[#[I.ok.mod,co.kind,I.ok.glob,I.ok.blt,Um _,λx y c L C=>?_,λx O=>?_,λx c h e=>?_,I.ok.hd,I.ok.frames,.inl rfl,λb l=>#[Uy (m b l).2,λx c e=>?_],
   λb o e=>I.bs b o e,Uw I.ok.bsz I.sz,λb o e l=>?_,λb l hf=>?_,I.stack,λb l=>I.stkFree b l],
  rfl,I.bare,Un.kept A,#[λ_=>ca,(Heap.Ns.new s.heap<|.type "dict").keeps (Wp _ _),λi x v L C h3=>?_],λx c e=>?_,I.hok.fresh (Um _),λx c e=>?_,λp hp=>?_,I.hok.kept A,?_]
 .refine xc scope.names _ cl (λx y c e1 e2=>I.ok.inj x y c (co.cells x c e1) (co.cells y c e2)) (λx c e=>Wz (M e)) x y c L C
 .rcases co.has x O with z|⟨c,z⟩
  .exact VN.mp (WJ _ _ _<|.inl z)
  .exact VN.mp (WJ _ _ _<|.inr<|by rw[z];rfl)
 .rcases g e with z|⟨z,_,_⟩
  .exact(co.once _ (Vd<|beq_iff_eq.mp h) rfl c z).elim
  .exact XW z
 .rcases g e with z|⟨z,_,_⟩
  .exact(m b l).1.2.2.2.2.1 x c (co.cells x c z)
  .exact Wc (Ur (m b l).2<|XW z)
 .obtain⟨f0,Y,W,R,_⟩:=(m b l).1
  rcases R with z|z
  .exact I.ok.noex b o e z
  .exact absurd (Ur (Ug (I.ok.bs b o e).1) z) (U8 _)
 .obtain⟨f0,Y,W,R,_⟩:=(m b l).1
  rcases Uk.mp (I.stkSub b hf) with z|z
  .exact Y z
  .exact W z
 .have E:¬i<ls.length:=λE=>by
   have f:(dw ls B Z)[i]?=ap (ap v):=C;unfold dw at f;rw[Wf (by simpa using E),Uo,Ud E]at f
   cases f
  have U:fs[i-ls.length]?=ap x:=by
   have J:(ls++fs)[i]?=ap x:=L
   rwa [Vs (by lia)]at J
  obtain⟨j,hj,O,S,hl⟩:=co.frees.get U;have G:Z[j]?=ap (ap v):=by
   have f:(dw ls B Z)[i]?=ap (ap v):=C;unfold dw at f;rw[Vs (by simpa using E),Uc,Uo,hj]at f
   have q:(Z[j]?).join=ap v:=by simpa using f
   cases e:Z[j]? with
   |none=>rw[e]at q;cases q
   |some o=>rw[e]at q;have q':o=ap v:=q;rw[q']
  obtain⟨mX,_,Q⟩:=I.loc;have F:R7 X.env.scope x:=by
   rcases S with z|z
   .exact .inr (.inl z)
   .exact .inr (.inr z)
  obtain⟨u,ru,lo⟩:=Q j x v O G F;refine#[u,ru,.inr #[hl,?_]];have w:x∈fs:=Vk U;have r:∃c,(ot (s.heap.objs.size+1) scope.names cl).lookup x=ap c:=by
   rcases co.has x hl with z|⟨c,z⟩
   .exact absurd (Vd z) (co.own x w)
   .exact VN.mp (WJ _ _ _<|.inr<|by rw[z];rfl)
  obtain⟨c,ec⟩:=r;refine#[c,ec,?_];have K:cl.lookup x=ap c:=by
   rcases g ec with z|⟨_,_,z⟩
   .exact z
   .exact absurd z (co.own x w)
  rcases lo with⟨T,_⟩|⟨_,c',e',z⟩
  .rcases S with q|q<;>(rw[q]at T;cases T)
  .rw[co.cells x c K]at e'
   cases e';obtain⟨o,N,hd⟩:=z;exact#[o,A _ _ N,hd]
 .rcases g e with z|⟨_,z,_⟩
  .obtain⟨v,o,N,hd⟩:=I.cell x c (co.cells x c z)
   exact#[v,o,A _ _ N,hd]
  .exact#[_,z]
 .rcases g e with z|⟨z,_,_⟩
  .exact I.freeC x c (co.cells x c z)
  .exact I.hok.fresh (XW z)
 .have P:p∈X.pn++a:=by
   have q:p∈(X.pn++a)++[]:=hp;simpa using q
  obtain⟨e,n,ne,nf,d⟩:=I.pin p P;refine#[A _ _ e,n,lk _ _ e,λl=>?_,d];rcases Uk.mp (I.stkSub p.1 l) with z|z
  .exact ne z
  .exact nf z
 .show (dw ls B Z).length=(ls++fs).length
  unfold dw;rw[UG,Uc,Uc,UG,co.frees.length]
theorem qH{R:ay->cp->aaB->cb->Prop}{Q:VK}(hc:X.calm=true)(co:CompOkC X scope cl ls fs js)(hY:∀(C:cp)(s₀:cb)(H₀:Hp)(h:abb)(pl:abf),PG (bf X (ls++fs) scope cl C s₀ H₀ h pl) tg g/\Pc (bf X (ls++fs) scope cl C s₀ H₀ h pl) ifs tt/\PE (bf X (ls++fs) scope cl C s₀ H₀ h pl) elt te)(I:Inv X a Z H1 s2)(T:Turn X.prog X.w X.K tg J h it tn)(st:tn 0 s2.heap)(M:∀b∈h,jN X a H1 b)(q:∀p,H1 p=ca->∃W:Nat->Nat->St->Hp->Prop,(∃m,W 0 m (dw ls js Z) (upd H1 p<|.lst []))/\∀i m j H',W i m j H'->
   (J.stop i H'/\Q (.ref p) H')\/(J.go i H'/\∃N:St->Hp->Prop,(∀σ2 H2,N σ2 H2->∃m',m'<m/\W (i+1) m' σ2 H2)/\∀x H2,J.yld i H' x H2->g x j H2 λσ3 H3=>tt σ3 H3 λc H4=>
    if c=true then te σ3 H4 λy H5=>∃ys,H5 p=ap (.lst ys)/\ys.length<sizeLine/\N σ3 (upd H5 p<|.lst (ys++[y])) else N σ3 H4))(hR:∀(p C:cp)(H':Hp)(S:cb)(m:abg),S.heap.Ns C m->Inv X a Z H' S->H' C=ca->C≠X.env.locals->X.s₀.heap.objs.size<=C->(∀x c,X.env.cells.lookup x=ap c->c≠C)->(∀pp∈X.pn++a,pp.1≠C)->Q (.ref p) H'->R (.ref p) C (.ok .next) S):
  eg (ez X.prog X.w) X.A (newList []) (λaa4 s₃=>eg (ez X.prog X.w) X.A (newFunctionEnv scope X.env.globals cl [] X.env.qual ca .none<|some X.env) (λcenv s₄=>
   y2 (ez X.prog X.w) X.A (.compStart (.ListComp elt [#[tg,iter,ifs,0]] scope pos) 0 (.ref it) aa4 { cenv with scope:=Uf scope X.env }) (R aa4 cenv.locals) s₄) E s₃) E s2:=by
 have hp0:H1 s2.heap.objs.size=none:=I.hok.fresh (Um _);obtain⟨W,⟨m0,w0⟩,U⟩:=q s2.heap.objs.size hp0;refine p6 (wd ?_);dsimp only;have I3:Inv X a Z (upd H1 s2.heap.objs.size<|.lst []) _:=
  I.lnew (aa7:=[]) (t':=s2.toks) .nil (Vg _)
 generalize hs3:({ s2 with heap:=s2.heap.push { cls:=.type "list",dict:=ca,data:=.seq ([]:aba).toArray } }:cb)=s3 at I3;have H:s2.heap.push { cls:=.type "list",dict:=ca,data:=.seq ([]:aba).toArray }=s3.heap:=by rw[<- hs3]
 rw[H];have hsz3:s3.heap.objs.size=s2.heap.objs.size+1:=by rw[<- H,Vc]
 have hk3:∀b o,s2.heap.get? b=ap o->s3.heap.get? b=ap o:=λb o e=>by rw[<- H];exact Ub _ e
 have hlt:∀b∈h,b<s2.heap.objs.size:=λb f=>by
  obtain⟨o,e,_⟩:=T.obj _ _ st b f;exact Ug e
 have hnp:∀b∈h,upd H1 s2.heap.objs.size (.lst []) b=none:=λb f=>by
  rw[aw (Uy<|hlt b f)];exact(M b f).1
 have hf3:∀b∈h,jN X a (upd H1 s2.heap.objs.size<|.lst []) b/\b<s3.heap.objs.size:=λb f=>#[#[hnp b f,(M b f).2],by rw[hsz3];exact Wz (hlt b f)]
 have hk4:∀b o,s3.heap.get? b=ap o->(y' (s3.heap.push { cls:=.type "dict",data:=.dict (Tw []) }) scope.names).get? b=ap o:=λb o e=>Wp _ _ _ _ (Ub _ e);have I4:=CG (t':=s3.toks) I3 co hf3;generalize y' (s3.heap.push { cls:=.type "dict",data:=.dict (Tw []) }) scope.names=h₁ at hk4 I4;have st4:tn 0 h₁:=T.keep _ _ _ st λb f o e=>hk4 b o (hk3 b o e);obtain⟨hg,ht,he⟩:=hY s3.heap.objs.size s3 (upd H1 s2.heap.objs.size<|.lst []) h a;have B:∀{H':Hp},(∀b∈h,H' b=ca)->∀b∈h,jN _ [] H' b:=λ{H'} hn b f=>by
  obtain⟨f0,f1,f2,f3,f4,f5⟩:=M b f;refine#[hn b f,Uy (hf3 b f).2,λz=>?_,.inl f,λx c e=>(I4.ok.exf b f).2 x c e,λpp P=>f5 pp ?_]
  .rcases Uk.mp (I3.stkSub b z) with y|y
   .exact f1 y
   .exact f2 y
  .have q:pp∈(X.pn++a)++[]:=P
   simpa using q
 have loop:∀s₄:cb,s₄={ s3 with heap:=h₁,toks:=s3.toks }->
   y2 (ez X.prog X.w) X.A (.compLoop (.ListComp elt [#[tg,iter,ifs,0]] scope pos) 0 (.ref it) (.ref s2.heap.objs.size)<|compEnvC scope (ot (s3.heap.objs.size+1) scope.names cl) s3.heap.objs.size X.env) (R (.ref s2.heap.objs.size) s3.heap.objs.size) s₄:=by
  rintro s₄ rfl
  refine rl (λn S=>∃i j H',Inv _ [] j H' S/\tn i S.heap/\(∀b∈h,H' b=ca)/\W i n j H') ?_ m0 #[0,_,_,I4,st4,hnp,w0]
  rintro n s5 ⟨i,G,H5,I5,st5,fr5,w5⟩
  rcases U i n G H5 w5 with⟨stop,qn⟩|⟨go,N,hN,step⟩
  .refine bu (T.done (bf X (ls++fs) scope cl s3.heap.objs.size s3 (upd H1 s2.heap.objs.size<|.lst []) h a) rfl rfl rfl hc i [] s5 G H5 _ I5 (B fr5) st5 stop) λr s6 l=>?_
   obtain⟨hr,I6⟩:=l;subst hr;obtain⟨m6,hn6,_⟩:=I6.loc;have IX:Inv X a Z H5 s6:=I3.call' I6.os I6.base I6.hok I6.bare λb f=>#[(M b f).2.2.2.1,(M b f).2.1,(M b f).2.2.2.2.1,(M b f).2.2.2.2.2];refine hR _ _ H5 s6 m6 hn6 IX I6.free (Wc I3.lt) I3.sz (λx c e z=>?_) (λpp P z=>?_) qn
   .obtain⟨v,l⟩:=I3.cell x c e
    have zl:=l.lt;rw[z]at zl;exact U8 _ zl
   .have zl:=Ug (I3.pin pp P).1
    rw[z]at zl;exact U8 _ zl
  .refine bu (T.item (bf X (ls++fs) scope cl s3.heap.objs.size s3 (upd H1 s2.heap.objs.size<|.lst []) h a) rfl rfl rfl hc i [] s5 G H5 _ I5 (B fr5) st5 go) λr s6 l=>?_
   obtain⟨u,hr,h6⟩:=l;subst hr;refine bu h6 λ_ s7 l=>?_;obtain⟨x,H7,I7,r7,y7,L,fr7⟩:=l;have I7':=I7.pinned (B fr7) (T.obj _ _ L);refine bu (hg _ s7 G H7 x u _ I7' r7<|step x H7 y7) λ_ s8 l=>?_;obtain⟨Y,H8,I8,q8⟩:=l
   have again:∀{s:St}{H9:Hp}{O:cb},Inv _ ([]++nG h s7.heap) s H9 O->N s H9->
     ∃m,m<n/\∃i j H',Inv (bf X (ls++fs) scope cl s3.heap.objs.size s3 (upd H1 s2.heap.objs.size<|.lst []) h a) [] j H' O/\tn i O.heap/\(∀b∈h,H' b=ca)/\W i m j H':=λ{s H9 O} I9 n9=>by
    obtain⟨m',hm,w9⟩:=hN s H9 n9;refine#[m',hm,i+1,s,H9,I9.unpinned,T.keep _ _ _ L λb f o e=>(I9.pin (b,o)<|UR _<|UR _<|fO f e).1,λb f=>?_,w9];obtain⟨o,e,d⟩:=T.obj _ _ L b f;exact(I9.pin (b,o)<|UR _<|UR _<|fO f e).2.1
   refine bu (ht _ s8 Y H8 _ I8 q8) λok O l=>?_;obtain⟨H9,I9,q9⟩:=l;cases ok with
   |false=>exact again I9 q9
   |true=>
    refine bu (he _ O Y H9 _ I9 q9) λxv s10 l=>?_;obtain⟨y,H10,I10,r10,ys,P,hl,n10⟩:=l;obtain⟨z,aa7,n',r,hl',e⟩:=I10.lstM P;refine mo Xw #[_,e,rfl] F.entry_list_append (F.args_list_append_2 _ _) (Zf s2.heap.objs.size aa7.toArray n' xv<|by rw[Uq];lia) #[e,?_]
    refine again (I10.lset (its':=aa7++[xv]) P e (by simp) (r.append<|.cons r10 .nil) ?_) n10
    rw[UG,VH];lia
 have se:({ s2 with heap:=h₁ }:cb)={ s3 with heap:=h₁,toks:=s3.toks }:=by rw[<- hs3]
 exact codeAny_compStart_list (loop _ se) (T.self _ 0 _ _ _ st4<|loop _ se)
theorem EG(B:X.calm=true)(co:CompOkC X scope cl ls fs js)(E:PI X tg iter wi)(F:∀(C:cp)(a:cb)(H₀:Hp)(f:abb)(pl:abf),PG (bf X (ls++fs) scope cl C a H₀ f pl) tg g/\Pc (bf X (ls++fs) scope cl C a H₀ f pl) ifs tt/\PE (bf X (ls++fs) scope cl C a H₀ f pl) elt te)(G:∀x,p7 iter X.env x=pure x):PE X (.ListComp elt [#[tg,iter,ifs,0]] scope pos) (Ft wi ls js g tt te):=by
 intro l s Z H Q I h;refine aaE rfl G co.clos co.kind co.locs (bu (E _ s Z H _ I h) λM L y=>bu y λw s2 n=>?_);obtain⟨N,f,P,J,H2,e,I2,T,j,v,q⟩:=n;subst e;refine qH B co F I2 T j v q ?_;intro p C H' K m r IX A u i b c o;exact#[m,r,λO z=>#[.ref p,H',IX.turned z.extBut A u (.inr i) b c,rfl,o]]
end _2
namespace _3
open PySem _2
theorem T1(h:N.Nodup):(bf X N scope cl C a H₀ b pl).N.Nodup:=h
theorem C3(h:FC X scope fs js cl)(r:scope.kind=.function)(f:∀y∈scope.names,(y.2=.free->y.1∈fs)/\(y.2=.cell->y.1∉fs/\scope.names.lookup y.1=ap .cell))(q:∀x∈scope.names,x.2=.local->scope.names.lookup x.1=ap .local)
  (l:aaw scope X.env=pure cl):CompOkC X scope cl ls fs js:=by
 obtain⟨b,s,a,n,m⟩:=h.ok;subst n;refine#[r,q,l,λy d h=>m _ (Vd h),λy h=>?_,b,λx j i=>((f _ i).2 rfl).1 j,λx j i c e=>((f _ j).2 i).1 (Wj<|Vd e).1];have o:scope.names.lookup y=ap .cell\/y∈fs:=by
  rcases h with h|h
  .obtain⟨p,b,a|⟨a,_⟩⟩:=gC h
   .exact .inl ((f _ b).2 a.symm).2
   exact .inr ((f _ b).1 a)
  obtain⟨p,b,a|⟨a,_⟩⟩:=gC h
  .exact .inr ((f _ b).1 a.symm)
  trivial
 exact o.imp id (kK a)
theorem Fu(e:X.calm=true)(h:FC X scope fs js cl)(j:scope.kind=.function)(n:∀y∈scope.names,(y.2=.free->y.1∈fs)/\(y.2=.cell->y.1∉fs/\scope.names.lookup y.1=ap .cell))(m:∀x∈scope.names,x.2=.local->scope.names.lookup x.1=ap .local)
  (c:aaw scope X.env=pure cl) (f:DI X B tg iter wi)
  (i:∀(C:cp)(a:cb)(H₀:Hp)(b:abb)(pl:abf),DG (bf X (ls++fs) scope cl C a H₀ b pl) L6 tg g)
  (l:∀(C:cp)(a:cb)(H₀:Hp)(b:abb)(pl:abf),Ta (bf X (ls++fs) scope cl C a H₀ b pl) L6 ifs tt)
  (hE:∀(C:cp)(a:cb)(H₀:Hp)(b:abb)(pl:abf),DE (bf X (ls++fs) scope cl C a H₀ b pl) L6 elt te)
  (o:∀x,p7 iter X.env x=pure x):DE X B (.ListComp elt [#[tg,iter,ifs,0]] scope pos) (aO wi ls js g tt te):=
 aS (EG e (C3 h j n m c) f (λC a H₀ b pl=>#[Gp (i C _ _ b pl),AZ (l C _ _ b pl),Hm<|hE C _ _ b pl]) o) λ_ _ _ h=>qj h
section
variable{K:Uh}{f:cp}{fd:fy}{ps:aa'}{x aa2:Str}{st:mu}{dv:Int}
theorem fnDV(F:FunV K x aa2 st f fd)(S:FnScope N ps (aP st))
  (p:∀(b:ay)(A:fv)(a:List Env)(s:cb)(H:Hp)(E:XK)(B:Bd)(EE:DX),Room k (A.deeper<|Ww aa2 (aP st) s.heap.objs.size f b)->vz K B EE E->
   zj (eY (lq P w) P w K mg base N aa2 (aP st) f b A a s H E) B (bw st) (T EE)):
  FnOk P w K mg base (lq P w) (k+1) f fd ps (bb K ps.length<|aF N T):=by
 obtain⟨v,G,kV,j,z,L,b,J,g,_,rfl,lk,c⟩:=F.ex;refine Ml lk c S (λl H Q E h=>h.1) λA a s H l Q E m e=>?_;obtain⟨I,y,M,QQ,EE,rh,r,o,u,ux⟩:=e;exact#[_,p _ A _ s H E (Bd.of M H) _ m ux.drp,_,M,_,#[Frm.refl,rh,.startN N r],o,#[λU M' q Z H' f i=>u.drp _ M' q _ H' i.rh f rfl,u.drp,λU M' q=>q.elim,λU M' q=>q.elim]]
abbrev OkV(P:eH)(w:fx)(mg:abg)(base:g3)(_:FunV K x aa2 st f fd)(_:Binds K fd ps [])(k:Nat)(S:Sd):Prop:=FnOk P w K mg base (lq P w) k f fd ps (bb K ps.length S)
theorem Si(i:S=aF N T)(F:FunV K x aa2 st f fd)(b:Binds K fd ps [])(e:FnScope N ps (aP st))
  (g:FnScope N ps (aP st)->∀(c:ay)(A:fv)(a:List Env)(s:cb)(H:Hp)(E:XK)(B:Bd)(EE:DX),Room k (A.deeper<|Ww aa2 (aP st) s.heap.objs.size f c)->vz K B EE E->
   zj (eY (lq P w) P w K mg base N aa2 (aP st) f c A a s H E) B (bw st) (T EE)):OkV P w mg base F b (k+1) S:=by
 subst i;exact fnDV F e (g e)
structure NV(K:Uh)(x:Str)(st:mu)(f:cp)(fd:fy)(dv:Int):Prop where
 a:VA K eC x=ap (ap<|.ref f)
 F:∃(oc:ay)(od:Option cp)(kV doc pm:ay)(an:Option cp)(cdv ct:ay)(osl:Array (Option ay))(T:cp)(ob:Obj)(m:Nat)(t:Tok),
  fd=WI x x (cg st) (bw st) (aP st) (.ref T) kV doc pm an cdv ct/\K.lookup f=ap #[oc,od,.func fd,osl]/\XZ K cdv x=true/\K.lookup T=ap ob/\ob.data=.seq (Tw [.int dv t]) m
 kp:VB K (.ref f)=true
theorem RL{kV:ay}(a:VA K eC x=ap (ap<|.ref f))
  (l:K.lookup f=ap #[s,u,.func (WI x x (cg st) (bw st) (aP st) (.ref T) kV e q r b i),o]) (c:XZ K b x=true) (k:VB K (.ref f)=true)
  (lt:K.lookup T=ap #[p,j,.seq (Tw [.int dv t]) m,g]):NV K x st f (WI x x (cg st) (bw st) (aP st) (.ref T) kV e q r b i) dv:=
 #[a,#[s,u,kV,_,q,r,_,i,_,T,_,m,t,rfl,l,c,lt,rfl],k]
abbrev BndV(ps:aa')(x:Str)(st:mu)(dv:Int):Prop:=∀(kV doc pm:ay)(an:Option cp)(cdv ct:ay)(T:cp)(t:Tok),
 (∀u:ay,∃k,aay (WI x x (cg st) (bw st) (aP st) (.ref T) kV doc pm an cdv ct) #[[u],[]]=seqItems? (.ref T) >>= k/\k (ap (Tw [.int dv t]))=pure (ps.zip [u,.int dv t]))/\
 ∀u v:ay,∃k,aay (WI x x (cg st) (bw st) (aP st) (.ref T) kV doc pm an cdv ct) #[[u,v],[]]=seqItems? (.ref T) >>= k/\k (ap (Tw [.int dv t]))=pure (ps.zip [u,v])
theorem gv(X:K.In h)(G:h.Ns eC mg)(l:NV K x st f fd dv)(H:ps.length=2)(r:BndV ps x st dv):GV K mg x st f fd ps dv:=by
 obtain⟨a,⟨y,A,kV,z,o,p,E,i,F,T,I,m,t,rfl,B,c,lt,q⟩,kp⟩:=l;refine#[#[#[y,A,kV,_,o,p,_,i,_,T,rfl,B,c],kp],λs j KX g=>?_,#[t,λs j KX g=>?_],kp,WZ X G a]
 .rcases j with _|⟨u,_|⟨v,_|_⟩⟩<;>try simp_all
  obtain⟨k,e,b⟩:=(r kV _ o p _ i T t).2 u v;exact W.binds_K KX rfl lt q e b
 rw[UG,H]at g;rcases j with _|⟨u,_|_⟩<;>try cases g
 obtain⟨k,e,b⟩:=(r kV _ o p _ i T t).1 u;exact W.binds_K KX rfl lt q e b
end
section
variable{dv:Int}
def xR(T:Sd)(EE:DX)(n:Nat)(dv:Int)(t:eE):b6:=λU M Q=>t U M λa M1=>a.length+1=n/\calls T EE (a++[.int dv]) M1 Q #[]
def Km(X:Cx)(B:Bd)(x:Str)(T:Sd)(EE:DX)(n:Nat)(dv:Int):Prop:=∃(st:mu)(f:cp)(fd:fy)(ps:aa')(k:Nat)(CX:pi)(E:XK),GV X.K X.mg x st f fd ps dv/\FnOk X.prog X.w X.K X.mg X.base CX k f fd ps (bb X.K n T)/\Room k X.A/\bR CX X E/\vz X.K B EE E
theorem Hv(h:Km X B x T EE n dv)(v:Gl X x)(w:DA X B (e::es) t)(c:(x==("__debug__":Str))=cx)(r:ee (e::es) X.env=(cx,ff e X.env)::ee es X.env)(b:(f' pos<|starEach es X.env).any (·.1)=cx):
  DE X B (.Call (.Name x p) (e::es) [] pos) (xR T EE n dv t):=by
 obtain⟨_,_,_,_,_,_,_,h,F,l,o,ux⟩:=h;obtain⟨j,q⟩:=h.d;refine aS (yL F l v h.m h.k q (dvs:=[.int dv]) (.cons #[j,rfl] .nil) o w c r b) ?_
 rintro Z H Q ⟨U,M,QQ,s,h,u⟩
 exact#[U,M,_,s,h,λy M1 g z H1 a i1 i=>cA g.2 a (i.append<|.cons rfl .nil) (by rw[UG,<- i.length];exact g.1) (u.go i1) ((s.ux ux).go i1)]
end
end _3
namespace _2
open PySem PySem.Spec PyProof.Rows
def MQ(X:Cx)(f:ay)(kn:Str)(k:ay)(r:List V->Hp->VK->Prop):Prop:=
 ∀(aa1:abf)(s:cb)(Z:St)(H:Hp)(xs:List V)(us:aba)(Q:VK),Inv X aa1 Z H s->Vals xs us->r xs H Q->
  eg (ez X.prog X.w) X.A (call f us [(kn,k)]) (EP X aa1 Z Q) X.xe s
end _2
namespace _S
open PySem PySem.W PySem.Calls PyProof.Rows PyProof.V PySem.Spec
theorem CV(b:s.TypeIs (.ref d) "dict")(e:(d==n7)=cx)(c:s.heap.get? d=ap od)(a:od.data=.dict es ep)
  (f:Q (.ref s.heap.objs.size) { s with heap:=s.heap.push { cls:=.type "dict_keyiterator",data:=.fields (Tw [.ref d,.int 0 0,.int es.size 0,.int ep 0]) } }):eg (ez prog w) A (aad<|.ref d) Q E s:=by
 refine wpAny_pyIter_slot b F.slot_dict_iter (kr F.slot_dict_iter b F.entry_dict_iter ?_<|F.args_dict_iter_1 _);refine ax ?_;refine ax (wpAny_notOrdered_dict b ?_);refine cT ?_;show eg _ _ (X4 d >>= _) _ _ s;unfold X4;rw[if_neg (by rw[e];exact XG)]
 refine ax (cT ?_);refine ax (wpAny_dictEntries c a ?_);refine ax (wpAny_dictEpoch c a ?_);refine ax (p6<|wpAny_pure #[_,rfl,_,_,#[_,Ui _ rfl,rfl],rfl,?_])
 assumption
theorem CK(a:s.heap.IsKeyIter it d i n ep)(c:s.heap.get? d=ap od)(e:od.data=.dict es ep)(l:es.size=n)(h:i<es.size)
  (hQ:∀h',h'.IsKeyIter it d (i+1) n ep->Vr it s.heap h'->Q (ap es[i].key) { s with heap:=h' }):eg (ez prog w) A (w6<|.ref it) Q E s:=by
 obtain⟨o,g,j,f⟩:=id a;unfold w6;refine ax (pt<|wpAny_callSpecial?_slot a.typeIs VZ<|wpAny_call_entry VZ a.typeIs Yi (ax<|wpAny_pure<|wpAny_bind<|wpAny_bind ?_)<|Yc _);refine ax (aap a.typeIs<|wpAny_pure<|wpAny_bind<|wpAny_fieldsOf g f ?_);refine ax (cT<|wpAny_bind<|wpAny_dictEntries c e ?_);rw[if_neg (by rw[l];simp)]
 refine ax (cT<|wpAny_bind<|wpAny_dictEpoch c e ?_);rw[if_neg (by simp)]
 refine cT ?_;simp only[if_false,UL,Yp h];refine ax (ax<|wpAny_typeNameOfWhole_keyiter a.typeIs<|wpAny_pure ?_);refine ax (aaU a.typeIs ?_);show eg _ _ (setField (.ref it) 1 (p4 ((i:Int)+1)) >>= _) _ _ s;refine ax (aat g f (by simp) ?_)
 have b:(s.heap.update it<|Obj.mapFields (·.setIfInBounds 1 (p4 ((i:Int)+1)))).IsKeyIter it d (i+1) n ep:=
  #[_,WA _ g (Y0<|W0 f _),(Obj.cls_mapFields ..).trans j,by rw[W0 f];simp[p4]]
 refine ax (j0 ?_);refine ax (aaU b.typeIs ?_);exact cT (cT #[_,rfl,cT<|hQ _ b<|U7 ..])
theorem Hx(l:A.handled=ca)(c:s.heap.IsKeyIter it d i n ep)(e:s.heap.get? d=ap od)(f:od.data=.dict es ep)(p:es.size=n)(g:es.size<=i)
  (q:∀h',W7 it s.heap h'->Q ca { s with heap:=h' }):eg (ez prog w) A (w6<|.ref it) Q E s:=by
 obtain⟨o,h,r,j⟩:=id c;unfold w6;refine ax (pt<|wpAny_callSpecial?_slot (name:=WT "__next__") c.typeIs VZ<|wpAny_call_entry VZ c.typeIs Yi (ax<|wpAny_pure<|wpAny_bind<|wpAny_bind ?_)<|Yc _);refine ax (aap c.typeIs<|wpAny_pure<|wpAny_bind<|wpAny_fieldsOf h j ?_);refine ax (cT<|wpAny_bind<|wpAny_dictEntries e f ?_);rw[if_neg (by rw[p];simp)]
 refine ax (cT<|wpAny_bind<|wpAny_dictEpoch e f ?_);rw[if_neg (by simp)]
 refine cT ?_;simp only[show ¬((i:Int)<0) from by lia,if_false,UL,YM g]
 refine ax (ax<|wpAny_typeNameOfWhole_keyiter c.typeIs<|wpAny_pure ?_);show eg _ _ (setField (.ref it) 0 .none >>= _) _ _ s;refine ax (aat h j (by simp) ?_)
 simp only[newExc,newTuple];refine ax (ax<|wpAny_newObj_type ?_<|by size_fits)
 refine ax (m:=aav _ _) (K' (a:=Vj) (by rfl)<|wpAny_newObj_type ?_<|by size_fits)
 simp only[raiseNew];refine ax (aaD ?_);rw[show A.in1.handled=ca from l];refine ax (cT<|wpAny_throw<|wpAny_bind ?_);refine x9 (T:="StopIteration") (b:=true) #[_,Ui _ rfl,rfl] W1 (cT ?_);exact q _ (((U7 ..).extBut.push _).push _)
end _S
namespace _2
open PySem PySem.Spec PyProof.Rows _S
noncomputable def Itf(d:cp)(od:Obj)(aa3:List (List aC×V)):It:=
 #[λi H=>H d=ap (.frz od<|.dT aa3)/\i<aa3.length,
  λi H v H'=>H'=H/\∃ks x b,aa3[i]?=ap (ks,x)/\H b=ap (.tup<|ks.map kV)/\v=.ref b,
  λi H=>H d=ap (.frz od<|.dT aa3)/\aa3.length<=i]
theorem CZ{K:Uh}(d f:cp)(hd:L.data=.dict es M)(J:es.size=aa3.length):
  Turn P w K tg (Itf d L aa3) [f] f (λi h=>h.IsKeyIter f d i aa3.length M) where
 mem:=by simp
 obj:=λi h a b B=>by
  have e:b=f:=by simp_all
  obtain⟨o,e,c,d⟩:=a
  simp_all
 keep:=λi h G a k=>a.at λo e=>k f (by simp) o e
 item:=by
  intro X hP O Q A i g s Z H E I x a n;obtain⟨e,T⟩:=n;obtain⟨v,xs,r,C⟩:=I.frzT e hd;have F:aa3[i]?=ap (aa3[i].1,aa3[i].2):=by simp_all
  obtain⟨b,u,e1,S,e3⟩:=r.at F;have l:i<es.size:=by simp_all
  have N:es[i]=entryOfKey (aal<|aT X.prog X.w) (aa3[i].1,b,u):=by
   have:=entry_at C i;rw[Yp l]at this
   simp_all
  have W:es[i].key=.ref b:=by rw[N];rfl
  obtain⟨z,q,R,m,y,p⟩:=x f (by simp)
  refine CK a v hd J l λG j Y=>?_;rw[W];have I1:Inv X _ Z H _:=I.turned (t':=s.toks) (λb o B=>(Y.2 b B).trans) z q m y p;obtain⟨o,e,c,d⟩:=id j;exact#[_,rfl,ve e c d (by decide) #[.ref b,H,I1,rfl,#[rfl,_,_,b,F,S,rfl],j,by simp_all]]
 done:=by
  intro X hP O Q A i g s Z H E I x a n;obtain⟨e,T⟩:=n;obtain⟨v,xs,r,C⟩:=I.frzT e hd;obtain⟨z,q,R,m,y,p⟩:=x f (by simp)
  exact Hx (I.ok.hd A) a v hd J (by simp_all) λG U=>#[rfl,I.turned (U) z q m y p]
 self:=λ_ _ _ _ _ a h=>wpAny_pyIter_keyiter a h
def RU(to:TE):TI:=λZ H R=>to Z H λx H1=>∃a od aa3,x=.ref a/\H1 a=ap (.frz od<|.dT aa3)/\R (Itf a od aa3) H1
theorem Ks(C:PE X o to):PI X E o (RU to):=by
 intro l s Z H R I h;refine bu (C _ s Z H _ I h) λv n B=>?_;obtain⟨x,H1,I1,A,a,G,f,p,e,q⟩:=B;subst p;cases A;obtain⟨c,z,y,M,r,F,u,L,i,w,g,m,J⟩:=(I1.hok a _ e);rw[c]at i;cases i;have j:u.size=f.length:=by rw[<- Vp,m,Uc,<- VM r]
 refine CV #[_,c,w.1] y c g ?_;refine#[_,_,_,_,H1,rfl,I1.kept λb o=>Ub _,CZ a _ g j,#[_,Ui _ rfl,rfl,by rw[j];rfl],λb K=>?_,q]
 have e:b=n.heap.objs.size:=by simp_all
 exact I1.fpOk (by lia) (I1.hok.fresh<|by lia)
end _2
namespace _3
open PySem _2 _S
noncomputable def He(ks:List aC):D:=.tup (ks.map λk=>match k with|.inl i=>D.int i|.inr x=>D.str x)
def Aj(to:b6):wC:=λU M R=>to U M λd M1=>onF d λa _=>R #[a.map He,[]] M1
theorem Ju(E:DE X B o to):DI X B F o (Aj to):=by
 refine ib (Ks E) ?_
 rintro Z H R ⟨U,M,RR,s,h,A⟩
 refine#[U,M,_,s,h,λd M1 l v H1 f i1 w=>?_];obtain⟨g,K,rfl,l⟩:=l.inv;obtain⟨a,z,rfl,⟨G,x,e⟩,I⟩:=w;have q:(g.zip z).length=g.length:=by simp_all
 refine#[a,x,_,rfl,e,A _ _ l _ _ f i1 λi H2 M2 i2 m _=>#[λd p=>?_,λn=>?_]]
 .rw[Uo]at p
  obtain⟨k,r,rfl⟩:=Vo.mp p;refine#[#[i2.frz _ _ _ e,by rw[q];exact(UQ.mp r).1],?_]
  rintro y H3 ⟨rfl,j,J,b,C,u,rfl⟩
  have c:g[i]?=ap j:=(We.mp C).1;rw[r]at c;cases c;exact#[Frm.refl,m,b,_,rfl,u,t8 k]
 exact#[i2.frz _ _ _ e,by rw[q];simpa using n]
def Fw(d:D)(M:Mem)(Q:DK):Prop:=onR d λa=>mT (M a) λaa3=>Q (.fd (aa3.map (·.1))<|aa3.map (·.2)) (M.del a)
def GP(t:b6):b6:=λU M Q=>t U M λd M'=>Fw d M' Q
theorem zO:∀{aa3:List (List aC×D)}{ws:List (List aC×V)},Rkv K H aa3 ws->ws=(aa3.map (·.1)).zip (ws.map (·.2))/\Rps K H (aa3.map (·.2)) (ws.map (·.2))/\aa3.length=ws.length
 |_,_,.nil=>#[rfl,rfl,rfl]
 |_,_,.cons h t=>by
  obtain⟨b,a,c⟩:=zO t;refine#[?_,.cons h.2 a,by simp[c]]
  simp only[Ue,Zh];rw[<- b,h.1]
theorem BG:∀{ks:List (List aC)}{xs:List D}{vs:List V},Rps K H xs vs->Rkv K H (ks.zip xs) (ks.zip vs)
 |[],_,_,_=>by exact .nil
 |k::ks,[],_,h=>by cases h;exact .nil
 |k::ks,x::xs,_,h=>by
  obtain⟨v,r,rfl,a,b⟩:=h;exact .cons #[rfl,a] (BG b)
theorem Jz(h:DE X B e te):DE X B e (GP te):=by
 rintro f s Z H Q I ⟨U,M,QQ,l,y,u⟩
 refine bu (h _ s Z H (λv H'=>∃d M',RepH _ H' M'/\Frm M H M' H'/\Rp _ H' d v/\Fw d M' QQ) I #[U,M,_,l,y,λd M' q v H' b i r=>#[d,M',b,i,r,q]]) ?_
 rintro w E ⟨v,H',I',x,d,M',b,i,r,q⟩
 unfold Fw at q
 replace q:=q.inv;obtain⟨a,rfl,q⟩:=q
 obtain⟨p,e,q⟩:=q.inv;obtain⟨z,c,g⟩:=b _ _ e;obtain⟨o,A,C,_,_,_,_,I2⟩:=I'.freezeT c;refine#[v,_,I2,x,u _ _ q v _ (b.freezeT c) (i.trans<|Frm.del #[_,e]) ?_];obtain⟨j,n,m⟩:=zO g;exact#[a,_,r,#[by simp[m],o,by rw[<- j];exact upd_same],n.mono<|Imm.upd<|by rw[c];trivial]
def Eh:g7:=λx y M Q=>onF x λa b=>so (Da y) λk=>so (cM (a.zip b) k) λd=>Q d M
theorem TF(G:X.A.units+1<kB):IxR X (liftR2 X Eh):=by
 intro c g i s Z H x y v u Q I o z h q;obtain⟨N,L,M,QQ,E,n,j,h,r⟩:=h;unfold Eh at h
 replace h:=h.inv;obtain⟨ks,O,rfl,h⟩:=h
 obtain⟨k,l,h⟩:=h.inv;obtain⟨d,m,h⟩:=h.inv;obtain⟨a,K,rfl,⟨J,p,e⟩,F⟩:=n;obtain⟨b,rfl,C⟩:=n8 j l;rcases (BG (ks:=ks) F).val k with⟨f,_⟩|⟨d',w,f,e2,r'⟩
 .simp_all
 rw[m]at f;cases f;exact z8 G _ _ _ s Z H _ _ v u Q I o z #[a,w,rfl,.inr #[_,k,b,.inr #[p,e],rfl,C,e2.symm],r _ M h _ H E Frm.refl r'] q
end _3
namespace _2
open PySem PySem.Spec PyProof.Rows
theorem Ic(hN:X.N.Nodup)(A:X.N[i]?=ap x)(hx:Ii X.env.scope x)(hc:X.calm=true)(co:CompOkC X scope cl ls fs js)(hi:PI X tg iter wi)
  (hY:∀(C:cp)(c:cb)(H₀:Hp)(l:abb)(pl:abf),PG (bf X (ls++fs) scope cl C c H₀ l pl) tg g/\Pc (bf X (ls++fs) scope cl C c H₀ l pl) ifs tt/\PE (bf X (ls++fs) scope cl C c H₀ l pl) elt te)
  (B:py (.ListComp elt [#[tg,iter,ifs,0]] scope pos) (ap<|.Name x F) f.line X.env=pure true)
  (hs:∀x,p7 iter X.env x=pure x) (hf:X.fn x=true\/X.env.scope.names.lookup x=ap .local):
  PS X (.Assign [.Name x F] (.ListComp elt [#[tg,iter,ifs,0]] scope pos) f) (PZ i<|Ft wi ls js g tt te):=by
 intro E s Z H D I h;rw[exec_Assign_Name_used _ _ _ _ B];refine ax (Y_<|wpAny_bind ?_)
 refine ax (hW (aaE rfl hs co.clos co.kind co.locs
  (bu (hi _ s Z H _ I h) λxv s1 U=>bu U λR s2 K=>?_)) (λ_ S o=>cT (cT o)) λ_ _ e=>e)
 obtain⟨it,l,tn,J,H2,e,I2,T,r,P,q⟩:=K;subst e;refine qH (Q:=λv=>D.nx (Z.set i<|some v)) hc co hY I2 T r P q ?_;intro p C H' S m M IX hC O n b j o;refine wpAny_assign_Name (qL IX hN A hx (v:=.ref p) rfl (λG I'' W=>?_) hf);obtain⟨a,Y,L⟩:=W;have w:C≠a:=by
  rcases L with z|z
  .simp_all
  exact λy=>b x a z y.symm
 refine#[m,M.sameBut Y w,λh3 u=>?_];exact#[_,H',I''.turned (u.extBut) hC O (.inr n) b j,o]
end _2
namespace _3
open PySem _2
theorem GB(p:X.N.Nodup)(e:X.N[i]?=ap x)(K:Ii X.env.scope x)(m:X.calm=true)(h:FC X scope fs js cl)(w:scope.kind=.function)(u:∀y∈scope.names,(y.2=.free->y.1∈fs)/\(y.2=.cell->y.1∉fs/\scope.names.lookup y.1=ap .cell))(G:∀x∈scope.names,x.2=.local->scope.names.lookup x.1=ap .local)
  (c:aaw scope X.env=pure cl) (z:DI X B tg iter wi)
  (I:∀(C:cp)(a:cb)(H₀:Hp)(b:abb)(pl:abf),DG (bf X (ls++fs) scope cl C a H₀ b pl) L6 tg g)
  (O:∀(C:cp)(a:cb)(H₀:Hp)(b:abb)(pl:abf),Ta (bf X (ls++fs) scope cl C a H₀ b pl) L6 ifs tt)
  (hE:∀(C:cp)(a:cb)(H₀:Hp)(b:abb)(pl:abf),DE (bf X (ls++fs) scope cl C a H₀ b pl) L6 elt te)
  (E:X.env.blockKind=.function) (o:X.env.scope.names.lookup x=ap .local) (F:px.line=pos.line) (A:(scope.names.any λ(n,k)=>n==x&&(k==.local||k==.cell))=cx) (J:∀x,p7 iter X.env x=pure x) (L:X.fn x=true\/X.env.scope.names.lookup x=ap .local):
  DS X B (.Assign [.Name x px] (.ListComp elt [#[tg,iter,ifs,0]] scope pos) spos) (dj i<|aO wi ls js g tt te):=by
 refine ce (Ic (g:=liftG0 _ g) (tt:=liftT0 _ tt) (te:=liftE0 _ te) p e K m (C3 h w u G c) z (λC a H₀ b pl=>#[Gp (I C _ _ b pl),AZ (O C _ _ b pl),Hm<|hE C _ _ b pl]) (Lr E o F A) J L) ?_
 rintro D Z H ⟨U,M,DD,s,h,j⟩
 exact qj #[U,M,_,s,h,λd M' q v H' l f r=>j.nx _ M' q _ H' f ((s.go l f).set r)]
theorem dH:∀{e:aa_}{aa7:aba},Vals (e.map V.int) aa7->∀(m:Nat)(c:m<aa7.length),∃i t,e[m]?=ap i/\aa7[m]=.int i t
 |[],_,r,m,c=>by cases r;simp at c
 |i::e,_,r,m,c=>by
  cases r with
  |cons a b=>
   obtain⟨t,rfl⟩:=a;cases m with
   |zero=>simp_all
   |succ m=>
    obtain⟨j,h,g,f⟩:=dH b m (by simp_all)
    simp_all
def jo:wB:=λx c M Q=>onT x λe=>one c λa=>onI a λz=>so (dS e) λb=>b.length<=1000/\so (b.findIdx? λy=>decide (y=z)) λj=>Q (.int (j:Nat)) M
theorem xy:vo X "tuple.index" (liftM X jo):=by
 rintro i s Z H x vs v us Q I E R ⟨d,ds,M,QQ,P,r,O,h,N⟩
 unfold jo at h
 replace h:=h.inv;obtain⟨xs,rfl,h⟩:=h
 replace h:=h.inv;obtain⟨T,rfl,h⟩:=h
 replace h:=h.inv;obtain⟨z,rfl,h⟩:=h
 obtain⟨p,W,rfl,F,r⟩:=r;obtain⟨w,rfl,c⟩:=g8 (ds:=[]) O;cases c;obtain⟨is,S,h⟩:=h.inv;obtain⟨o,h⟩:=h;obtain⟨j,A,h⟩:=h.inv;have:=jz r S;subst this;rw[XI]at A;obtain⟨L,Y,G⟩:=A;cases E;obtain⟨u,rfl,C⟩:=R.one;obtain⟨t,rfl⟩:=C;obtain⟨U,n,J,r,e⟩:=I.tupD F;have o:=r.length;rw[Uc]at o
 refine mo Wb #[_,e,rfl] X5 (X3 _ _)
  (kN p _ n _ J _ (λv=>match v with|.int y _=>y==z|_=>cx) (λy K=>?_) j (by rw[Uq];lia) ?_ λm f g=>?_) #[e,?_]
 .obtain⟨m,f,rfl⟩:=WM (by simpa using K)
  obtain⟨q,l,a,b⟩:=dH r m f;rw[b];exact Y1 _ _ _ _
 .obtain⟨q,l,a,b⟩:=dH r j (by lia)
  rw[Ud L]at a
  simp_all
 .obtain⟨q,l,a,b⟩:=dH r m (by exact f)
  have h3:=G m g;rw[Ud (by lia)]at a
  simp_all
 exact#[.int j,H,I.tok _,#[_,rfl],N _ M h _ H P Frm.refl rfl]
end _3
namespace _S
open PySem PySem.W PyProof.Rows
open PySem.AutoSeq1 (wpAny_loadPart')
open PySem.MeetsSeq PySem.MeetsSeq2 PySem.MeetsSeq3
variable{h:g3}{vs:aba}
theorem hZ{us:aba}(h:s9 (us.drop i) (x::xs)):∃(hi:i<us.length)(t:Tok),us[i]=.int x t/\s9 (us.drop (i+1)) xs:=by
 have hi:i<us.length:=by
  rcases VV i _ with z|z
  .exact z
  rw[Wu z]at h;cases h
 rw[VJ hi]at h;generalize a:us[i]=v at h;cases h with
 |cons _ t r=>exact#[hi,t,a,r]
theorem ka{us:aba}(h:s9 (us.drop i) []):us.length<=i:=by
 generalize e:us.drop i=l at h;cases h
 simp_all
theorem Cs(l b:cp)(us vs:aba)(n F:Nat)(dd p:Option cp)(G q:Array (Option ay)):∀(xs ys:aa_)(i:Nat),i<=us.length->i<=vs.length->s9 (us.drop i) xs->s9 (vs.drop i) ys->aaq (Builtin.«list.__eq__.loop» #[[.ref l,.ref b,p4 i,p4 0],[]])
   (λA R s=>s.heap.get? l=ap { cls:=.type "list",dict:=dd,data:=.seq us.toArray n,slots:=G }/\s.heap.get? b=ap { cls:=.type "list",dict:=p,data:=.seq vs.toArray F,slots:=q }/\R (.ok<|.ret<|.bool<|jJ xs ys) s)
 |[],ys,i,hi,hj,h1,h2=>by
  intro f w A R s h;obtain⟨B,g,d,v,E⟩:=s;obtain⟨j,m,h⟩:=h;have K:=ka h1
  wp_walk using eX j,eX m
  have a:us.toArray[((i:Nat):Int).toNat]?=none:=by simp;lia
  rw[a]
  wp_walk using eX j,eX m
  show R (.ok<|.ret<|.bool<|decide (us.toArray.size<vs.toArray.size)) _;have e:decide (us.toArray.size<vs.toArray.size)=jJ [] ys:=by
   cases ys with
   |nil=>
    have:=ka h2;simp[jJ];lia
   |cons y ys=>
    obtain⟨u,_⟩:=hZ h2;simp[jJ];lia
  rw[e];exact h
 |x::xs,[],i,hi,hj,h1,h2=>by
  intro f w A R s h;obtain⟨B,g,d,v,E⟩:=s;obtain⟨j,m,h⟩:=h;have L:=ka h2;obtain⟨r,t,z,C⟩:=hZ h1
  wp_walk using eX j,eX m
  have a:us.toArray[((i:Nat):Int).toNat]?=ap us[i]:=by simp[r]
  have o:vs.toArray[((i:Nat):Int).toNat]?=none:=by simp;lia
  rw[a,o]
  wp_walk using eX j,eX m
  show R (.ok<|.ret<|.bool<|decide (us.toArray.size<vs.toArray.size)) _;have e:decide (us.toArray.size<vs.toArray.size)=jJ (x::xs) []:=by simp[jJ];lia
  rw[e];exact h
 |x::xs,y::ys,i,hi,hj,h1,h2=>by
  intro f w A R s h;obtain⟨B,g,d,v,E⟩:=s;obtain⟨j,m,h⟩:=h;obtain⟨r,t,z,C⟩:=hZ h1;obtain⟨u,t2,I,J⟩:=hZ h2
  wp_walk using eX j,eX m
  have a:us.toArray[((i:Nat):Int).toNat]?=ap (.int x t):=by simp[r,z]
  have o:vs.toArray[((i:Nat):Int).toNat]?=ap (.int y t2):=by simp[u,I]
  have H:((i:Int)+1)=((i+1:Nat):Int):=by push_cast;rfl
  rw[a,o];refine ax (wpAny_eqBool_int ?_);unfold jJ at h
  by_cases c:x=y
  .rw[if_pos c]at h
   rw[show (x==y)=true from by simp[c]]
   wp_walk
   rw[H];exact#[Y' plain_eq_loop _,WP entry_eq_loop (by
    rw[Xs plain_eq_loop _];exact Cs l b us vs n F dd p G q xs ys (i+1) r u C J f w A R _ #[j,m,h])]
  .rw[if_neg c]at h
   rw[show (x==y)=cx from by simp[c]]
   wp_walk using eX j,eX m
   rw[a,o];refine ax (wpAny_lt_int ?_)
   wp_walk
   exact h
theorem KH(l b:cp)(us vs:aba)(n i:Nat)(dd c:Option cp)(j e:Array (Option ay))(xs ys:aa_)(o:s9 us xs)(m:s9 vs ys):aaq (Builtin.«list.__lt__» #[[.ref l,.ref b],[]])
   (λA R s=>s.heap.get? l=ap { cls:=.type "list",dict:=dd,data:=.seq us.toArray n,slots:=j }/\s.heap.get? b=ap { cls:=.type "list",dict:=c,data:=.seq vs.toArray i,slots:=e }/\R (.ok<|.ret<|.bool<|jJ xs ys) s):=by
 intro a w A R s h;obtain⟨g,f,h⟩:=h;have p:=PySem.AutoSeq1.sub_list_list
 wp_walk using eX g,eX f
 exact#[Y' plain_eq_loop _,WP entry_eq_loop (by
  exact Cs l b us vs n i dd c j e xs ys 0 (Vg _) (Vg _) o m a w A R _ #[g,f,h])]
inductive LstsAt(h:g3):List ay->List (List Int)->Prop
 |nil:LstsAt h [] []
 |cons {a:cp} {o:Obj} {us:aba} {n:Nat} {k:aa_} {vs:aba} {ks:aa9} (ho:h.get? a=ap o) (hc:o.cls=.type "list") (hd:o.data=.seq us.toArray n) (hi:s9 us k) (r:LstsAt h vs ks):LstsAt h (.ref a::vs) (k::ks)
theorem LstsAt.keep(t:LstsAt h vs ks)(k:∀b o,.ref b∈vs->h.get? b=ap o->h'.get? b=ap o):LstsAt h' vs ks:=by
 induction t with
 |nil=>exact .nil
 |cons ho hc hd hi r ih=>exact .cons (k _ _ (by simp) ho) hc hd hi (ih λb o a=>k b o (Uj _ a))
theorem LstsAt.len(t:LstsAt h vs ks):ks.length=vs.length:=by
 induction t<;>simp_all
theorem LstsAt.at{h:g3}{vs:aba}(t:LstsAt h vs ks):∀i,i<vs.length->∃a o us n,vs.getD i Vj=.ref a/\h.get? a=ap o/\o.cls=.type "list"/\o.data=.seq (Vy us) n/\s9 us (ks.getD i []):=by
 induction t with
 |nil=>intro i b;simp at b
 |@cons a o us n k vs ks ho hc hd b r ih=>
  intro i l;cases i with
  |zero=>exact#[a,o,us,n,rfl,ho,hc,hd,b]
  |succ i=>
   obtain⟨j,c,g,f,e,q⟩:=ih i (by simp_all)
   exact#[j,c,_,f,by simpa using e,by simpa using q]
theorem LstsAt.there(t:LstsAt h vs ks):∀v∈vs,∃a o,v=.ref a/\h.get? a=ap o/\o.cls=.type "list":=by
 induction t with
 |nil=>simp_all
 |cons ho hc hd hi r ih=>
  intro v hv;rcases Uk.mp hv with rfl|hv
  .exact#[_,_,rfl,ho,hc]
  exact ih v hv
theorem pV(L:A.units<kB)(t:LstsAt s.heap vs ks):p9 vs.length (rk ks) (kas_ask prog w A oneType' vs) s:=by
 intro i j g x C h;obtain⟨a,o,J,n,v,c,l,p,G⟩:=t.at i g;obtain⟨B,q,K,r,z,f,b,e,u⟩:=t.at j x;rw[LH (by rw[t.len];exact g)]at h
 unfold kas_ask;rw[v,z];obtain⟨M,N,P,O⟩:=o;obtain⟨m,H,y,I⟩:=q;subst l p b e;refine ax (wpAny_cRoomFor L ?_);refine ax (wpAny_callSpecialIfBound?_slot #[_,c,rfl] YJ<|call_meets YJ #[_,c,rfl] PySem.F.entry_list_lt (PySem.F.args_list_lt_2 _ _) (KH a B J _ n r _ _ _ _ _ _ G u) #[c,f,?_]);exact ol h
theorem mV(H:s.heap.get? a=ap (wh "list" vs.toArray n))(Y:A.units<kB)(X:LstsAt s.heap vs ks)(F:∀b,UH b∈vs->b≠a)(I:vs.length<64)(h:∀p:Array Nat,Pm vs.length p->SU (rk ks) p vs.length->P (.done<|.ret .none) { s with heap:=sortedHeap s.heap a vs (Vy (p.toList.map λi=>vs.getD i Vj)) }):
  eg (ez prog w) A (Builtin.«list.sort» #[[.ref a],[]]) P E s:=by
 rw[list_sort_plain];refine ax (aaO H rfl ?_);refine ax (UV H rfl ?_ (by rw[Uq,kL];lia)<|Vg _)
 obtain⟨x,m⟩:∃x,(s.heap.update a (UY λ_=>(Tw []))).get? a=ap (wh "list" (Tw []) x):=#[_,get?_update_seq H λ_=>(Tw [])];refine ax (seqEpoch_at m rfl ?_);refine ax (vx ?_<|by show vs.length<=_;rw[kL];lia)
 refine ax (aaC ?_<|Vg _);refine j0 ?_;have W:∀b o,b≠a->s.heap.get? b=ap o->(((s.heap.update a (UY λ_=>(Tw []))).push<|seqObj "tuple" vs.toArray 0).push<|seqObj "list" (Tw []) 0).get? b=ap o:=λb o z e=>
  Ub _ (Ub _<|(U7 ..).extBut b o z e)
 have c:(((s.heap.update a (UY λ_=>(Tw []))).push<|seqObj "tuple" vs.toArray 0).push<|seqObj "list" (Tw []) 0).get? a=ap (wh "list" (Tw []) x):=Ub _ (Ub _ m);have q:=X.keep λb o z e=>W b o (F b z) e;show eg (ez prog w) A _ P E { s with heap:=((s.heap.update a (UY λ_=>(Tw []))).push<|seqObj "tuple" vs.toArray 0).push (wh "list" (Tw []) 0) };dsimp only;have U:vs.toArray.size=vs.length:=by simp
 by_cases g:vs.toArray.size<2
 .rw[if_pos g,if_pos g]
  refine ax (cT ?_);rw[StateT.run_pure];refine ax (cT ?_);dsimp only;refine ax (seqEpoch_at c rfl ?_);have K:(arrOf<|SortSt.mk' general' (vs.toArray.zip vs.toArray) (Tw []) 7 ca).map (·.2)=Vy ((Vy<|Uu vs.length).toList.map λi=>vs.getD i Vj):=by
   apply Array.toList_inj.mp;rw[Array.toList_map,Array.toList_zip,List.map_snd_zip (Um _)];refine Xl (by simp) λi J g=>?_
   simp at J;simp[J]
  refine ax (UV c rfl ?_ (Vg _)<|by rw[K];simp;rw[kL];lia)
  simp only[bne_self_eq_false,UW,if_false];refine cT ?_;rw[K];refine h _ nQ λi j S hj=>?_;have:i=j:=by lia
  rw[this];exact Um _
 .rw[if_neg g,if_neg g]
  refine ax (kas_kind (T:=.type "list") (by simpa using g) (λv R=>?_) (by decide) rfl ?_)
  .obtain⟨a',o,rfl,C,M⟩:=q.there v R
   rw[<- M];exact(Looks.ld C).andThen .now
  refine ax (hW (kat_run (Q:=λf r=>∃p:Array Nat,arrOf f=p.map _/\failedOf f=ca/\r={ s with heap:=((s.heap.update a (UY λ_=>(Tw []))).push<|seqObj "tuple" vs.toArray 0).push (wh "list" (Tw []) 0) }/\Pm vs.length p/\SU (rk ks) p vs.length)
   (G:=λp r=>r={ s with heap:=((s.heap.update a (UY λ_=>(Tw []))).push<|seqObj "tuple" vs.toArray 0).push (wh "list" (Tw []) 0) }/\Pm vs.length p/\SU (rk ks) p vs.length) rfl (by lia) I
   (λN f r Z O L B=>#[N,O,L,B.1,B.2.1,B.2.2]) (z5 (pV Y q) (by lia) λp u y=>#[rfl,u,y])) ?_ λ_ _ e=>e)
  rintro⟨⟨⟩,f⟩ r ⟨p,har,hf,rfl,u,y⟩
  dsimp only;have l:=kat_snds rfl har;rw[l];refine ax (seqEpoch_at c rfl ?_);refine ax (UV c rfl ?_ (Vg _)<|by have:=u.size;simp;rw[this,kL];lia)
  rw[hf];simp only[bne_self_eq_false,UW,if_false];exact cT (h p u y)
theorem vP(v:s.heap.IsList l vs.toArray)(y:A.units+2<kB)(m:LstsAt s.heap vs ks)(j:vs.length<64)(h:∀p:Array Nat,Pm vs.length p->SU (rk ks) p vs.length->Q (.ref (s.heap.objs.size+1)) { s with heap:=sortedAll s.heap vs (Vy (p.toList.map λi=>vs.getD i Vj)) }):
  eg (ez prog w) A (call (.builtin "sorted") [.ref l]) Q E s:=by
 refine Calls.call_function_entry kind_sorted plain_sorted entry_sorted (args_sorted1 _) ?_;refine ax (cT ?_);refine ax (collect_list v ?_<|by rw[kL];lia)
 refine ax (aaC ?_<|by rw[kL];lia)
 have c:((s.heap.push<|seqObj "list" (Tw []) 0).update s.heap.objs.size<|UY (·++vs.toArray)).objs.size=s.heap.objs.size+1:=by
  simp_all
 have a:(((s.heap.push<|seqObj "list" (Tw []) 0).update s.heap.objs.size<|UY (·++vs.toArray)).push<|seqObj "list" vs.toArray 0).get? (s.heap.objs.size+1)=ap (wh "list" vs.toArray 0):=by
  rw[<- c];exact Ui _ rfl
 have r:LstsAt (((s.heap.push<|seqObj "list" (Tw []) 0).update _<|UY (·++vs.toArray)).push<|seqObj "list" vs.toArray 0) vs ks:=m.keep λb o _ e=>
  Ub _ ((U7 ..).extBut b o (Uy<|Ug e)<|Ub _ e)
 rw[c];have f:∀b,UH b∈vs->b≠s.heap.objs.size+1:=λb n=>by
  obtain⟨x,o,e,g,_⟩:=m.there _ n;cases e;exact Uy (Wz<|Ug g)
 exact ax (j0<|wpAny_call_entry slot_list_sort #[_,a,rfl] entry_list_sort (mV a (by lia) r f j λp q u=>#[_,rfl,cT #[_,rfl,h p q u]])<|args_list_sort _)
end _S
namespace _3
open PySem _2 _S
def iz(M:Mem):List D->Option (List<|List Int)
 |[]=>ap []
 |d::ds=>match cC M d with
  |some xs=>match dS xs,iz M ds with
   |some k,ap ks=>ap (k::ks)
   |_,_=>ca
  |none=>ca
theorem rX(I:Inv X c Z H s)(g:RepH X.K H M):∀{ds:List D}{ks:aa9}{vs:List V}{aa7:aba},iz M ds=ap ks->Rps X.K H ds vs->Vals vs aa7->LstsAt s.heap aa7 ks
 |[],_,_,_,e,r,v=>by
  cases e;cases r;cases v;exact .nil
 |d::ds,ks,_,_,e,r,v=>by
  obtain⟨x,F,rfl,a,b⟩:=r;simp[iz]at e
  split at e
  .rename_i A j
   split at e
   .rename_i k l m w
    cases e;cases v with
    |cons rx v=>
     obtain⟨p,z,rfl,u,f⟩:=da g a j;cases rx;obtain⟨E,q,pl,C⟩:=I.list (.inl u);obtain⟨o,e,h,n,i⟩:=pl.isList;have y:=jz f m;subst y;exact .cons e h i (vM q) (rX I g w b v)
   cases e
  cases e
theorem jQ(r:Rps K H ds vs):∀l:List Nat,(∀i∈l,i<ds.length)->Rps K H (l.map λi=>ds.getD i .non) (l.map λi=>vs.getD i .non)
 |[],_=>rfl
 |i::l,h=>by
  have e:ds[i]?=ap (ds.getD i .non):=by simp_all
  obtain⟨v,c,a⟩:=r.get e;have b:vs.getD i .non=v:=by simp_all
  rw[Ue,Ue,b];exact .cons a (jQ r l<|by simp_all)
def dI:oZ:=λc M Q=>one c λd=>so (cC M d) λb=>so (iz M b) λa=>a.length<64/\∀l:List Nat,l.Perm (Uu a.length)->l.map (λi=>a.getD i [])=kR dh a->∀p,M p=ca->Q (.ref p) (M.upd p<|.lst (l.map λi=>b.getD i .non))
theorem pG(hu:X.A.units+2<kB):bo X (.builtin "sorted") (liftC X dI):=by
 rintro aa1 s Z H xs us Q I r ⟨ds,M,QQ,rh,rp,h,up⟩
 unfold dI at h
 replace h:=h.inv;obtain⟨_,rfl,h⟩:=h
 obtain⟨v,rfl,rv⟩:=g8 (ds:=[]) rp;obtain⟨ys,e,h⟩:=h.inv;obtain⟨q,vs,rfl,hq,rr⟩:=da rh rv e;obtain⟨ks,es,h⟩:=h.inv;obtain⟨h64,h⟩:=h;obtain⟨u,rfl,ru⟩:=jC r;cases ru;obtain⟨aa7,r',pl,hz⟩:=I.list (.inl hq);have hlen:=r'.length;have hl2:=rr.length;have ta:=rX I rh es rr r';have tl:=ta.len;refine vP pl.isList hu ta (by lia) λp hp hs=>?_
 rw[<- tl]at hp hs;have ea:=FV hp hs;obtain⟨k,hk⟩:=XH _ _ _;have hn:=I.hok.fresh (V5 _);have hin:∀i∈p.toList,i<ks.length:=λi hi=>UJ.mp ((WR hp).mp hi);refine#[.ref _,_,I.laid (λb o=>XE) (V5 _) (show ObjOk _ _ _ _ _ (.lst _) from #[?_,_,k,(jU r' _ λi hi=>by have:=hin i hi;lia),hk]),rfl,?_]
 .rw[Uc,Vp,hp.size];exact Uw (Wd h64) (by decide)
 exact up _ _ (h _ hp ea _<|rh.fresh hn) _ _ (rh.put (by rw[hn];trivial) #[_,upd_same,(jQ rr _ λi hi=>by have:=hin i hi;lia).mono<|Imm.new hn]) (Frm.put<|.inl hn) rfl
theorem kg:∀ks:List (List Int),iz M (ks.map λk=>D.lst (k.map D.int))=ap ks
 |[]=>rfl
 |k::ks=>by
  rw[Ue,iz];simp only[cC,fP,kg ks]
theorem kT(e:cC M d=ap (ks.map λk=>D.lst (k.map D.int)))(a:ks.length<64)
  (h:∀p,M p=ca->Q (.ref p) (M.upd p<|.lst ((kR dh ks).map λk=>D.lst (k.map D.int)))):dI [d] M Q:=by
 unfold dI;simp only[mz,vd,e,kg];refine#[a,λl f g p b=>?_];have:(l.map λi=>(ks.map λk=>D.lst (k.map D.int)).getD i .non)=(kR dh ks).map λk=>D.lst (k.map D.int):=by
  rw[<- g,Us];refine UE λi c=>?_;simp[(UJ.mp<|(WR f).mp c)]
 rw[this];exact h p b
end _3
namespace _3
open PySem _2 _S PyProof.Rows
theorem mF(a:X.A.units+64<kB):bo X (.builtin "sorted") (liftC X dI):=pG (by lia)
end _3
namespace _2
open PySem PySem.Spec PyProof.Rows
section
variable{id:String}
theorem Dd(hc:MQ X (.builtin id) kn (.ref f) r)(v:Gl X x)(z:X.mg x=ca)(B:eS x=ap (.builtin id))(j:Gl X y)(i:X.mg y=ap (.ref f))(w:PA X (e::es) t)(A:x≠"__name__")(g:(x==("__debug__":Str))=cx)
  (b:(y==("__debug__":Str))=cx)
  (u:f' pos (ee (e::es) X.env)=(cx,ff e X.env)::f' pos (ee es X.env)) (c:(f' pos<|starEach (e::es) X.env).any (·.1)=cx):PE X (.Call (.Name x p) (e::es) [#[ap kn,.Name y yp,kp]] pos) (tCB r t):=by
 intro a s Z H Q I h;refine k' (dk I v z B ?_ A g);refine callWith_kw (bu (w pos a s Z H _ I h) λo l ⟨q,H1,I1,m,n⟩=>?_) u c;exact kws_cons (ic I1 j i (kws_nil<|hc a l Z H1 q o Q I1 m n) b)
end
end _2
namespace _S
open PySem PySem.W PyProof.Rows
section
variable{vs kA:aba}{st:SortSt}
theorem qA(i:s.heap.get? kS=ap (wh "list" kA.toArray e))(j:s.heap.get? a=ap (wh "list" (Tw []) e1))(c:a≠kS)(l:kA.length<64)(b:(arrOf st).map (·.2)=Vy out)(m:out.length<64)(g:failedOf st=ca)
  (h:P (.done<|.ret .none) { s with heap:=(s.heap.update kS (UY λ_=>(Tw []))).update a (UY λ_=>Vy out) }):eg (ez prog w) A (ksk_tail a cx e1 (.ref kS) st) P E s:=by
 have f:=((U7 s.heap kS (UY λ_=>((Tw []):abh))).2 a c).trans j;unfold ksk_tail;dsimp only;rw[b,g];refine ax (UV i rfl (ax<|wpAny_letGo<|wpAny_bind<|seqEpoch_at f rfl<|wpAny_bind<|listUpdate_at f rfl ?_ (Vg _) ?_) ?_<|Vg _)
 .simp only[bne_self_eq_false,UW,if_false]
  exact cT h
 .simp
  rw[kL];lia
 .rw[Uq,kL];lia
theorem Gm(r:s.heap.get? kS=ap (wh "list" kA.toArray e))(x:s.heap.get? a=ap (wh "list" (Tw []) e1))(g:a≠kS)(I:A.units<kB)(u:LstsAt s.heap kA ks)(q:kA.length=vs.length)(l:vs.length<64)
  (h:∀p:Array Nat,Pm vs.length p->SU (rk ks) p vs.length->P (.done<|.ret .none) { s with heap:=(s.heap.update kS (UY λ_=>(Tw []))).update a (UY λ_=>Vy (p.toList.map λi=>vs.getD i Vj)) }):
  eg (ez prog w) A (ksk_end a cx vs.toArray e1 (.ref kS) kA.toArray) P E s:=by
 unfold ksk_end;simp only[UW,if_false]
 by_cases b:vs.toArray.size<2
 .rw[if_pos b,if_pos b]
  refine ax (cT<|qA r x g (by lia) ?_ (by simp_all) rfl (h _ nQ λi j H L=>?_))
  .apply Array.toList_inj.mp
   rw[Array.toList_map,Array.toList_zip,List.map_snd_zip (by lia)]
   refine Xl (by simp) λi K b=>?_
   simp_all
  rw[Uq]at b;have:i=j:=by lia
  simp_all
 rw[if_neg b,if_neg b];rw[Uq]at b;refine ax (kas_kind (T:=.type "list") (by lia) (λv F=>?_) (by decide) rfl ?_)
 .obtain⟨M,o,rfl,n,z⟩:=u.there v F
  rw[<- z];exact(Looks.ld n).andThen .now
 refine ax (hW (kat_run (Q:=λf c=>∃p:Array _,arrOf _=p.map _/\failedOf _=ca/\c=s/\Pm _ p/\SU (rk ks) p _)
  (G:=λp c=>c=s/\Pm vs.length p/\SU _ p vs.length) q (by lia) l
  (λB f c J C y m=>#[B,C,y,m.1,m.2.1,m.2.2]) (z5 (q▸pV I u) (by lia)<|by lia)) ?_ λ_ _ e=>e)
 rintro⟨⟨⟩,f⟩ c ⟨p,har,hf,rfl,hp,hs⟩
 exact qA r x g (by lia) (kat_snds q har) (by rw[Uc,Vp,hp.size];exact l) hf (h p hp hs)
theorem Dz(p:s.heap.IsList l vs.toArray)(n:vs.length<64)
  (h:∀i a,s.heap.objs.size<=a->(∀b o,s.heap.get? b=ap o->i.get? b=ap o)->i.get? a=ap (wh "list" vs.toArray 0)->eg (ez prog w) A.in1.in1 (ksk_tree a (.ref f) cx) (λfin s'=>fin=.done (.ret .none)/\Q (.ref a) s') E { s with heap:=i }):
  eg (ez prog w) A (call (.builtin "sorted") [.ref l] [("key",.ref f)]) Q E s:=by
 refine call_function_entry_kw kind_sorted plain_sorted entry_sorted (ksk_s1 _ _) ?_;unfold Builtin.«sorted»;refine ax (m:=checkCount "sorted" 1 1 _) (cT ?_);refine ax (collect_list p ?_<|by rw[kL];lia)
 refine ax (aaC ?_<|by rw[kL];lia)
 have g:((s.heap.push<|seqObj "list" (Tw []) 0).update s.heap.objs.size<|UY (·++vs.toArray)).objs.size=s.heap.objs.size+1:=by
  rw[Heap.size_update,size_push']
 have c:(((s.heap.push<|seqObj "list" (Tw []) 0).update s.heap.objs.size<|UY (·++vs.toArray)).push<|seqObj "list" vs.toArray 0).get? (s.heap.objs.size+1)=ap (wh "list" vs.toArray 0):=by
  rw[<- g];exact Ui _ rfl
 show eg _ _ _ _ _ { s with heap:=((s.heap.push<|seqObj "list" (Tw []) 0).update s.heap.objs.size<|UY (·++vs.toArray)).push (wh "list" vs.toArray 0) };rw[g];refine ax (j0<|wpAny_call_entry_kw slot_list_sort #[_,c,rfl] entry_list_sort (hW (h _ _ (V5 _) (λb o e=>
  Ub _ ((U7 ..).extBut b o (Uy<|Ug e)<|Ub _ e)) c) (λfin s' j=>?_) λ_ _ e=>e)<|ksk_l1 _ _)
 obtain⟨rfl,q⟩:=j;exact#[_,rfl,cT #[_,rfl,q]]
end
end _S
namespace _3
open PySem _2 _S PyProof.Rows
def oW(T:Sd):List D->List D->Mem->(List D->Mem->Prop)->Prop
 |[],ks,M,Q=>Q ks M
 |d::ds,ks,M,Q=>calls T iD [d] M (λk M1=>oW T ds (ks++[k]) M1 Q) #[]
def Fb(xs:List D)(Q:DK)(kd:List D)(M:Mem):Prop:=so (iz M kd) λa=>∀l:List Nat,l.Perm (Uu a.length)->l.map (λi=>a.getD i [])=kR dh a->∀p,M p=ca->Q (.ref p) (M.upd p<|.lst (l.map λi=>xs.getD i .non))
def gg(T:Sd):oZ:=λc M Q=>one c λd=>so (cC M d) λa=>a.length<64/\oW T a [] M (Fb a Q)
def JA(X:Cx)(x:Str)(T:Sd):Prop:=∃(st:mu)(f:cp)(fd:fy)(ps:aa')(k:Nat),GF X.K X.mg x st f fd ps/\FnOk X.prog X.w X.K X.mg X.base (lq X.prog X.w) k f fd ps (bb X.K 1 T)/\Room (k+2) X.A
theorem K0(F:FnOk X.prog X.w X.K X.mg X.base (lq X.prog X.w) k f fd ps (bb X.K 1 T))(x:Room k X.A.in1.in1)(n:Binds X.K fd ps [])(I:Inv X aa1 Z H s)(p:RepH X.K H M)(l:Rp X.K H d v)(o:RelV v u)(h:calls T iD [d] M QQ #[])(m:Up X.K M H QQ Q):eg (ez X.prog X.w) X.A.in1.in1 (call (.ref f) [u]) (EP X aa1 Z Q) E s:=by
 have c:bb X.K 1 T [v] H Q (λ_ _ _=>False):=cA h p (.cons l .nil) rfl m λC M' q=>q.elim;have j:=F.len _ _ _ _ c;refine aau (rc (F.run X.A.in1.in1 X.stack s H #[[u],[]] [u] [v] Q _ x I.env0.in1.in1 (n s [u] I.kIn j) (.cons o .nil) c) λr y a=>?_);cases r with
 |error e=>
  obtain⟨C,g⟩:=a;obtain⟨_,_,_,_,_,_,_,_,_,_,_,_,i⟩:=g;exact(show False from i).elim
 |ok fl=>
  cases fl with
  |ret u=>exact I.after a
  |next=>exact Vv a
  |brk=>exact Vv a
  |cont=>exact Vv a
theorem Frm.upd(g:Frm M H M' H')(h:H b=ca):Frm M H M' (_2.upd H' b u):=#[λc v e n=>#[by rw[aw (aX e h)];exact(g.keep c v e n).1,(g.keep c v e n).2]]
theorem Frm.mine(g:Frm M H M' H')(h:H b=ca):Frm M H (M'.upd b o) (_2.upd H' b u):=#[λc v e n=>#[by rw[aw (aX e h)];exact(g.keep c v e n).1,by rw[ae (aX e h)];exact(g.keep c v e n).2]]
theorem RepH.upd{K:Uh}(r:RepH K H M)(h:um (H b))(n:M b=ca):RepH K (_2.upd H b u) M:=r.keep (.upd h) λc o e=>aw (by rintro rfl;rw[n]at e;cases e)
theorem EJ(F:FnOk X.prog X.w X.K X.mg X.base (lq X.prog X.w) k f fd ps (bb X.K 1 T))(hr:Room k X.A.in1.in1)(hb:Binds X.K fd ps [])(I:Inv X aa1 Z H4 s)(rh:RepH X.K H4 M)(fm:Frm M H M H4)(h0:H a=ca)(h1:H kS=ca)(n0:M a=ca)(n1:M kS=ca)(ha:H4 a=ap (.ext λh=>h.get? a=ap (wh "list" (Tw []) e1)))(hk:H4 kS=ap (.lst []))(hne:a≠kS)(rr:Rps X.K H4 ys vs)(r':Vals vs aa7)(h64:aa7.length<64)(h:oW T ys [] M (Fb ys QQ))(up:Up X.K M H QQ Q):eg (ez X.prog X.w) X.A.in1.in1 (ksk_rest a (.ref f) cx aa7.toArray e1<|.ref kS) (λfin s'=>fin=.done (.ret .none)/\EP X aa1 Z Q (.ref a) s') X.xe s:=by
 have l1:=r'.length;have l2:=rr.length;refine ax (F' ?_);rw[<- Zd]
 refine ax (ksk_fold (λi s'=>∃(H':Hp)(M':Mem)(kd:List D)(kv:List V),Inv X aa1 Z H' s'/\RepH X.K H' M'/\Frm M H M' H'/\H' a=ap _/\M' a=ca/\H' kS=ap (.lst kv)/\M' kS=ca/\Rps X.K H' kd kv/\kv.length=i/\Rps X.K H' ys vs/\oW T (ys.drop i) kd M' _) aa7 0 s
  #[H4,M,[],[],I,rh,fm,ha,n0,hk,n1,rfl,rfl,rr,h] ?step ?done)
 case step=>
  rintro j x s' hx ⟨H',M',kd,kv,I',rh',fm',ha',n0',hk',n1',rk,lk,rr',h'⟩
  simp only[Wx]at lk h' ⊢;have hj:=(UQ.mp hx).1;have hjy:j<ys.length:=by lia
  obtain⟨v,hv,rv⟩:=rr'.get (Ud hjy);obtain⟨u,hu,ru⟩:=r'.get hv;rw[hx]at hu;cases hu;rw[VJ hjy]at h';refine ax (pt (hW (K0 (E:=λ_ _=>False) (Q:=λw H2=>∃d M2,RepH X.K H2 M2/\Frm M' H' M2 H2/\Rp X.K H2 d w/\oW T _ (kd++[d]) M2 _) F hr hb I' rh' rv ru h' λd M2 q w H2 a1 a2 a3=>#[d,M2,a1,a2,a3,q]) (λu2 s2 hq=>?_) λ_ _ z=>z.elim));obtain⟨w,H2,I2,ru2,d,M2,rh2,f2,rw2,q2⟩:=hq;obtain⟨ha2,n02⟩:=f2.keep _ _ ha' n0';obtain⟨hk2,n12⟩:=f2.keep _ _ hk' n1';obtain⟨_,kA,e,rA,lA,hg⟩:=I2.lstM hk2;refine ax (UV hg rfl ?_ (by rw[Uq];lia)<|by rw[Array.size_push,Uq];lia)
  have im:=f2.imm rh';have im2:Imm H2 (_2.upd H2 kS<|.lst (kv++[w])):=.upd (by rw[hk2];trivial)
  exact cT #[rfl,_,M2,kd++[d],kv++[w],I2.lset hk2 hg (by simp) (rA.append<|.cons ru2 .nil) (by rw[UG,VH,kL];lia),rh2.upd (by rw[hk2];trivial) n12,(fm'.trans f2).upd h1,
   by rw[aw hne];exact ha2,n02,upd_same,n12,((rk.mono im).mono im2).append (.cons (rw2.mono im2) .nil),by rw[UG,lk];rfl,(rr'.mono im).mono im2,q2]
 case done=>
  rintro s' ⟨H',M',kd,kv,I',rh',fm',ha',n0',hk',n1',rk,lk,rr',h'⟩
  rw[List.drop_of_length_le (by lia)]at h'
  obtain⟨_,kA,e,rA,lA,hg⟩:=I'.lstM hk';obtain⟨hga,_⟩:=I'.hok a _ ha';have h':Fb ys QQ kd M':=h';unfold Fb at h'
  replace h':=h'.inv;obtain⟨ks,es,h'⟩:=h'
  have ta:=rX I' rh' es rk rA;have tl:=ta.len;refine ax (aaO hg rfl (Gm hg hga hne hr.units0 ta (by lia) h64 λp hp hs=>#[rfl,?_]))
  have e0:aa7.length=ks.length:=by lia
  rw[e0]at hp hs;have hin:∀i∈p.toList,i<ks.length:=λi hi=>UJ.mp ((WR hp).mp hi);have J1:=I'.lset (t':=s'.toks) (f:=λ_=>(Tw [])) hk' hg rfl .nil (Vg _);have na:=((U7 s'.heap kS (UY λ_=>(Tw []))).2 a hne).trans hga;have q:=get?_update_seq na λ_=>Vy (p.toList.map λi=>aa7.getD i Vj);have vq:=jU r' p.toList λi hi=>by simp_all
  have rq:=jQ rr' p.toList λi hi=>by have:=hin i hi;lia
  have J2:=J1.write (x:=a) (e:=a) (o:=.lst _) (t':=s'.toks) (by rw[aw hne,ha'];trivial) (.inl rfl) (λb u hb hu=>(Xn _ _<|UO hb).trans hu) #[_,q]
   #[by rw[Uc,Vp,hp.size];lia,_,_,vq,q]
  have im:Imm H' (_2.upd (_2.upd H' kS<|.lst []) a<|.lst (p.toList.map λi=>vs.getD i .non)):=(Imm.upd<|by rw[hk'];trivial).trans (.upd<|by rw[aw hne,ha'];trivial)
  exact#[.ref a,_,J2,rfl,up _ _ (h' _ hp (FV hp hs) a n0') _ _ ((rh'.upd (by rw[hk'];trivial) n1').put (by rw[aw hne,ha'];trivial) #[_,upd_same,rq.mono im]) ((fm'.upd h1).mine h0) rfl]
theorem tT(F:FnOk X.prog X.w X.K X.mg X.base (lq X.prog X.w) k f fd ps (bb X.K 1 T))(hr:Room (k+2) X.A)(hb:Binds X.K fd ps []):MQ X (.builtin "sorted") "key" (.ref f) (liftC X<|gg T):=by
 rintro aa1 s Z H xs us Q I r ⟨ds,M,QQ,rh,rp,h,up⟩
 unfold gg at h
 replace h:=h.inv;obtain⟨_,rfl,h⟩:=h
 obtain⟨v,rfl,rv⟩:=g8 (ds:=[]) rp
 replace h:=h.inv;obtain⟨ys,e,h⟩:=h
 obtain⟨h64,h⟩:=h;obtain⟨q,vs,rfl,hq,rr⟩:=da rh rv e;obtain⟨u,rfl,ru⟩:=jC r;cases ru;obtain⟨aa7,r',pl,hz⟩:=I.list (.inl hq);have l1:=r'.length;have l2:=rr.length;refine Dz pl.isList (by lia) λh1 a ha keep ho=>?_
 obtain⟨e1,ho1⟩:∃e1,(h1.update a _).get? a=ap (wh _ _ e1):=#[_,get?_update_seq ho _];refine ax (aaO ho rfl<|wpAny_bind<|listUpdate_at ho rfl (ax<|seqEpoch_at ho1 rfl<|wpAny_bind<|wpAny_newTuple (ax<|wpAny_newList (j0 ?_)<|by trivial) ?_) ?_<|by trivial)
 .have hn:=I.hok.fresh ha
  have k2:∀b o,s.heap.get? b=ap o->((h1.update a (UY λ_=>(Tw []))).push<|seqObj "tuple" aa7.toArray 0).get? b=ap o:=λb o e=>
   Ub _ ((U7 ..).extBut b o (Uy<|Ur (Ug e) ha)<|keep b o e)
  have ho2:((h1.update a _).push<|seqObj "tuple" aa7.toArray 0).get? a=ap _:=Ub _ ho1;have I1:=I.laid (t':=s.toks) (o:=.ext _) k2 ha #[ho2,#[_,ho2],λh h' p k=>k _ p];have hk0:=I1.fresh;have hk1:=aX upd_same hk0;have hk2:=(aw hk1.symm).symm.trans hk0;exact EJ F (Room.in1<|Room.in1 hr) hb (I1.lnew (t':=s.toks) .nil<|by trivial) ((rh.new hn).new hk0) ((Frm.new hn).upd hk2) hn hk2 (rh.fresh hn) (rh.fresh hk2) (by rw[aw hk1];exact upd_same) upd_same hk1 ((rr.mono<|Imm.new hn).mono<|Imm.new hk0) r' (by lia) h up
 .simp_all
 simp_all
theorem yc(v:eS x=ap (.builtin "sorted"))(h:JA X y T)(o:Gl X x)(r:X.mg x=ca)(j:Gl X y)(q:DA X B (e::es) t)(s:x≠"__name__")(i:(x==("__debug__":Str))=cx)(a:(y==("__debug__":Str))=cx)(n:f' pos (ee (e::es) X.env)=(cx,ff e X.env)::f' pos (ee es X.env))(c:(f' pos<|starEach (e::es) X.env).any (·.1)=cx):
  DE X B (.Call (.Name x p) (e::es) [#[ap "key",.Name y yp,kp]] pos) (bi (gg T) t):=by
 obtain⟨w,f,fd,ps,k,g,F,l⟩:=h;exact aS (Dd (tT F l g.b) o r v j g.m q s i a n c) λ_ _ _ h=>tD h
end _3
namespace _T
open PySem _2 _3
noncomputable def top(i:Nat):Stmt:=PySem.Challenge.pw_twinstride_k42_all_least_remedies.main.body.getD i (.Pass #[0,0,0,0])
abbrev Nc:Stmt:=eM (top 6) 0
abbrev T5:Stmt:=eM (top 6) 1
abbrev MV:Stmt:=eM (top 6) 2
abbrev Nq:Stmt:=top 7
abbrev N7:Stmt:=top 8
abbrev Nt:Stmt:=top 9
abbrev LW:Stmt:=top 10
abbrev LV:Stmt:=top 12
abbrev N9:Stmt:=top 13
abbrev LJ:Stmt:=top 14
abbrev MG:Stmt:=top 15
abbrev LY:Stmt:=top 16
abbrev LN:Stmt:=top 18
abbrev Me:Stmt:=top 19
abbrev Mz:Stmt:=top 20
abbrev MF:Stmt:=top 22
abbrev LZ:Stmt:=top 24
abbrev Ms:Stmt:=top 26
abbrev Mo:Stmt:=top 27
abbrev Nr:Stmt:=top 28
abbrev T4:Stmt:=eM (top 30) 0
abbrev SQ:Stmt:=eM (top 30) 1
abbrev Sc:Stmt:=eM (top 31) 0
abbrev RN:Stmt:=eM (top 31) 1
abbrev N0:Stmt:=top 32
abbrev N8:Stmt:=top 33
abbrev Mb:Stmt:=top 34
abbrev Nw:Stmt:=top 35
abbrev Mr:Stmt:=top 36
abbrev MX:Stmt:=top 38
abbrev Nk:Stmt:=top 39
abbrev Mh:Stmt:=top 40
abbrev LO:Stmt:=top 41
abbrev RZ:Stmt:=eM (top 43) 0
abbrev ME:Stmt:=top 44
abbrev MH:Stmt:=top 45
abbrev No:Stmt:=top 46
abbrev RV:Stmt:=top 48
abbrev LP:Stmt:=top 49
abbrev RB:Stmt:=top 50
abbrev LL:Stmt:=top 52
abbrev L_:Stmt:=top 53
abbrev Md:Stmt:=top 54
abbrev LG:Stmt:=top 55
abbrev Mq:Stmt:=top 56
abbrev Mw:Stmt:=top 57
abbrev LR:Stmt:=top 58
abbrev MJ:Stmt:=top 59
abbrev Mp:Stmt:=top 60
abbrev Nb:Stmt:=top 61
abbrev Nj:Stmt:=top 62
abbrev Na:Stmt:=top 63
abbrev MY:Stmt:=top 64
abbrev MW:Stmt:=top 65
abbrev Nu:Stmt:=top 66
abbrev LM:Stmt:=top 67
abbrev MZ:Stmt:=top 68
abbrev N5:Stmt:=top 69
abbrev Sm:Stmt:=top 70
abbrev Nv:Stmt:=top 71
abbrev MM:Stmt:=top 72
abbrev Mm:Stmt:=top 73
abbrev LC:Stmt:=top 74
abbrev Rh:Stmt:=top 75
abbrev LU:Stmt:=top 76
abbrev Mj:Stmt:=top 77
abbrev M_:Stmt:=top 78
abbrev Mg:Stmt:=top 79
abbrev kt:Stmt:=top 80
set_option genInjectivity false in
structure Ad where
 C_Ends:cp
 C_Going:cp
 C_Outcome:cp
 C_Walk:cp
 C_Dry:cp
 C_NoCase:cp
 C_TooMany:cp
 (a1 a2 a3 a4 a5 a6 a7 a8 a9 a10 a11 a12 a13 a14 a15 a16 a17 a18 a19 a20 a21 a22 a23 a24 a25 a26 a27 a28 a29 a30 a31 a32 a33 a34 a35 a36 a37 a38 a39 a40 a41 a42 a43 a44 a45 a46 a47 a48 a49 a50 a51 a52 a53 a54 a55 a56 a57 a58 a59 a60 a61 a62 a63 a64 a65 a66 a67 a68 a69:cp)
 (d1 d2 d3 d4 d5 d6 d7 d8 d9 d10 d11 d12 d13 d14 d15 d16 d17 d18 d19 d20 d21 d22 d23 d24 d25 d26 d27 d28 d29 d30 d31 d32 d33 d34 d35 d36 d37 d38 d39 d40 d41 d42 d43 d44 d45 d46 d47 d48 d49 d50 d51 d52 d53 d54 d55 d56 d57 d58 d59 d60 d61 d62 d63 d64 d65 d66 d67 d68 d69:fy)
section
variable{ad:Ad}{M:Mem}{Q:DK}{E:DX}{a b c e f g:D}
local macro_rules|`($q⁻¹)=>`({ nx:=λ_ x=>drp $q .non x,rt:=drp $q })
local macro_rules|`(¬$k:num)=>`(dC (.int $k))|`(¬$k:str)=>`(dC (.str $k))
def B0(w:Ad)(y:DX):ar:=ai (cE w.C_Walk (ac 0) (ac 3) "most") (cE w.C_Walk (ac 0) (bv ag) "steps")
def Bg(w:Ad)(y:DX):ar:=ai (cE w.C_Walk (ac 0) (ah av (ac 2) ¬1) "pieces") (B0 w y)
def Bq(w:Ad)(y:DX):ar:=ai (cE w.C_Walk (ac 0) (gQ<|aa (ah av (ac 1) ¬1)<|aa (ah av (ac 2) ¬0) ag) "numbers") (Bg w y)
def zV(w:Ad)(y:DX):ar:=ai (cE w.C_Walk (ac 0) (ac 1) "plan") (Bq w y)
def Bb(ad:Ad):Sd:=aF ["self","plan","stand","most"] (zV ad)
theorem RF:Bb ad [a,c,b,e] M Q E=zV ad (aG E) Q⁻¹ [ap a,ap c,ap b,ap e] M:=rfl
def FF(w:Ad)(y:DX):ar:=a_ (iS "list" bj (aV w.C_Walk (ac 0) "steps")<|aa (aU<|aa (ac 1)<|aa (ac 2) ag) ag)
def Ja(w:Ad)(y:DX):ar:=ai (aE (al<|ah oGe (bi cu<|aa (aV w.C_Walk (ac 0) "steps") ag)<|aV w.C_Walk (ac 0) "most") (o8 w.C_Dry y) aB) (FF w y)
def wQ(ad:Ad):Sd:=aF ["self","place","number"] (Ja ad)
theorem u_q2:wQ ad [a,c,b] M Q E=Ja ad (aG E) Q⁻¹ [ap a,ap c,ap b] M:=rfl
def B5(w:Ad)(y:DX):ar:=ai (a_<|dy w.C_Walk "note_step" (wQ w) y 3 (ac 0)<|aa (ac 1)<|aa (ac 3) ag) (az<|ac 3)
def By(w:Ad)(y:DX):ar:=ai (aq (oH (al<|ah bW (ah av (aV w.C_Walk (ac 0) "numbers")<|ac 2) ¬0) (¬0) ¬1)<|af 3) (B5 w y)
def qE(ad:Ad):Sd:=aF ["self","place","name","seen"] (By ad)
theorem T8:qE ad [a,c,b] M Q E=By ad (aG E) Q⁻¹ [ap a,ap c,ap b,ca] M:=rfl
def B2(w:Ad)(y:DX):ar:=az (ah gb (ao<|ah ba (ac 1)<|ac 2)<|ac 3)
def C9(w:Ad)(y:DX):ar:=az (oH (al<|ah E6 (ac 1)<|ac 2) (¬1) ¬0)
def BN(w:Ad)(y:DX):ar:=az (oH (al<|ah bW (ac 1)<|ac 2) (¬1) ¬0)
def z4(w:Ad)(y:DX):ar:=ai (aE (al<|ah bW (ac 0) ¬"less") (C9 w y) aB) (BN w y)
def BF(w:Ad)(y:DX):ar:=ai (aE (al<|ah bW (ac 0) ¬"by") (az<|ah gb (ah jg (ac 1)<|ac 2)<|ac 3) aB) (z4 w y)
def zA(w:Ad)(y:DX):ar:=ai (aE (al<|ah bW (ac 0) ¬"sum") (B2 w y) aB) (BF w y)
def AT(ad:Ad):Sd:=aF ["word","y","z","wheel"] (zA ad)
theorem Td:AT ad [a,c,b,e] M Q E=zA ad (aG E) Q⁻¹ [ap a,ap c,ap b,ap e] M:=rfl
def Be(w:Ad)(y:DX):ar:=az (ah gb (ah av (ac 1)<|ah av (ac 2) ¬2)<|ah av (ac 0) ¬2)
def BC(w:Ad)(y:DX):ar:=ai (aE (al<|ah bW (ah av (ac 2) ¬0) ¬"pick") (Be w y) aB) (az<|dC .non)
def jm(w:Ad)(y:DX):ar:=ai (aE (al<|ah bW (ah av (ac 2) ¬0) ¬"take") (az<|ah av (ac 2) ¬2) aB) (BC w y)
def oS(ad:Ad):Sd:=aF ["plan","numbers","row"] (jm ad)
theorem qg:oS ad [a,c,b] M Q E=jm ad (aG E) Q⁻¹ [ap a,ap c,ap b] M:=rfl
def Ba(w:Ad)(y:DX):ar:=az (aj (AT w) y 4<|aa (ah av (ac 3) ¬0)<|aa (ah av (ac 1)<|ah av (ac 3) ¬2)<|aa (ah av (ac 1)<|ah av (ac 3) ¬3)<|aa (ah av (ac 0) ¬0) ag)
def zK(w:Ad)(y:DX):ar:=ai (aE (al<|ah fc (ac 4)<|dC .non) (az<|ah av (ac 2)<|ac 4) aB) (Ba w y)
def BA(w:Ad)(y:DX):ar:=ai (aq (ao<|aj (oS w) y 3<|aa (ac 0)<|aa (ac 1)<|aa (ac 3) ag)<|af 4) (zK w y)
def gj(w:Ad)(y:DX):ar:=ai (aE (al<|ah bW (ah av (ac 3) ¬0) ¬"put") (az<|ah av (ac 3) ¬2) aB) (BA w y)
def nq(ad:Ad):Sd:=aF ["plan","numbers","pieces","row","piece"] (gj ad)
theorem kO:nq ad [a,c,b,e] M Q E=gj ad (aG E) Q⁻¹ [ap a,ap c,ap b,ap e,ca] M:=rfl
def yO(w:Ad)(Zn Zp Zq Zr:Sd)(y:DX):ar:=a_ (aj Zp y 3<|aa (ac 0)<|aa (ac 4)<|aa (ah ba (ac 2)<|aU<|aa (ac 3) ag) ag)
def AV(w:Ad)(Zn Zp Zq Zr:Sd)(y:DX):ar:=cW (vT<|aa (ac 1) ag) (dm 2<|aM (af 3)<|aM (af 4) dg) (yO w Zn Zp Zq Zr y)
def Bn(w:Ad)(Zn Zp Zq Zr:Sd)(y:DX):ar:=a_ (aj Zq y 3<|aa (ac 0)<|aa (ac 1)<|aa (ac 2) ag)
def zr(w:Ad)(Zn Zp Zq Zr:Sd)(y:DX):ar:=a_ (aj Zr y 3<|aa (ac 0)<|aa (ac 1)<|aa (ac 2) ag)
def yo(w:Ad)(Zn Zp Zq Zr:Sd)(y:DX):ar:=aq (ac 3) (cY (aV w.C_Walk (ac 0) "numbers")<|ah av (ac 1) ¬1)
def AR(w:Ad)(Zn Zp Zq Zr:Sd)(y:DX):ar:=ai (a_<|dy w.C_Walk "note_step" (wQ w) y 3 (ac 0)<|aa (ac 2)<|aa (ac 3) ag) (yo w Zn Zp Zq Zr y)
def yN(w:Ad)(Zn Zp Zq Zr:Sd)(y:DX):ar:=ai (aq (ao<|aj (nq w) y 4<|aa (aV w.C_Walk (ac 0) "plan")<|aa (aV w.C_Walk (ac 0) "numbers")<|aa (aV w.C_Walk (ac 0) "pieces")<|aa (ac 1) ag)<|af 3) (AR w Zn Zp Zq Zr y)
def A5(w:Ad)(Zn Zp Zq Zr:Sd)(y:DX):ar:=aE (al<|ah bW (ah av (ac 1) ¬0) ¬"again") (zr w Zn Zp Zq Zr y) (yN w Zn Zp Zq Zr y)
def qi(w:Ad)(Zn Zp Zq Zr:Sd)(y:DX):ar:=aE (al<|ah bW (ah av (ac 1) ¬0) ¬"if") (Bn w Zn Zp Zq Zr y) (A5 w Zn Zp Zq Zr y)
def yQ(w:Ad)(Zn Zp Zq Zr:Sd)(y:DX):ar:=a_ (aj Zn y 3<|aa (ac 0)<|aa (oH (al<|ah bW (ac 3) ¬1) (ah av (ac 1) ¬2)<|ah av (ac 1) ¬3)<|aa (ah ba (ac 2)<|aU<|aa (ac 3) ag) ag)
def zk(w:Ad)(Zn Zp Zq Zr:Sd)(y:DX):ar:=ai (aq (ao<|dy w.C_Walk "look" (qE w) y 3 (ac 0)<|aa (ac 2)<|aa (ah av (ac 1) ¬1) ag)<|af 3) (yQ w Zn Zp Zq Zr y)
def zN(w:Ad)(Zn Zp Zq Zr:Sd)(y:DX):ar:=ai (a_<|aj Zn y 3<|aa (ac 0)<|aa (ah av (ac 1) ¬2)<|aa (ah ba (ac 2)<|aU<|aa (ac 3) ag) ag) (HX 3 (¬1) Fg)
def Ci(w:Ad)(Zn Zp Zq Zr:Sd)(y:DX):ar:=sD (al<|ah bW (ao<|dy w.C_Walk "look" (qE w) y 3 (ac 0)<|aa (ah ba (ac 2)<|aU<|aa (ac 3) ag)<|aa (ah av (ac 1) ¬1) ag) ¬1) (zN w Zn Zp Zq Zr y)
def HU(w:Ad)(Zn Zp Zq Zr:Sd)(y:DX):ar:=ai (aq (¬0)<|af 3) (Ci w Zn Zp Zq Zr y)
mutual
noncomputable def Zn(ad:Ad):Nat->Sd
 |0=>λ_ _ _ _=>False
 |n+1=>aF ["walk","rows","place","j","row"] (AV ad (Zn ad n) (Zp ad n) (Zq ad n)<|Zr ad n)
noncomputable def Zp(ad:Ad):Nat->Sd
 |0=>λ_ _ _ _=>False
 |n+1=>aF ["walk","row","place","number"] (qi ad (Zn ad n) (Zp ad n) (Zq ad n)<|Zr ad n)
noncomputable def Zq(ad:Ad):Nat->Sd
 |0=>λ_ _ _ _=>False
 |n+1=>aF ["walk","row","place","seen"] (zk ad (Zn ad n) (Zp ad n) (Zq ad n)<|Zr ad n)
noncomputable def Zr(ad:Ad):Nat->Sd
 |0=>λ_ _ _ _=>False
 |n+1=>aF ["walk","row","place","turn"] (HU ad (Zn ad n) (Zp ad n) (Zq ad n)<|Zr ad n)
end
theorem RA{n:Nat}:Zn ad (n+1) [a,c,b] M Q E=AV ad (Zn ad n) (Zp ad n) (Zq ad n) (Zr ad n) (aG E) Q⁻¹ [ap a,ap c,ap b,ca,ca] M:=rfl
theorem HL{n:Nat}:Zp ad (n+1) [a,c,b] M Q E=qi ad (Zn ad n) (Zp ad n) (Zq ad n) (Zr ad n) (aG E) Q⁻¹ [ap a,ap c,ap b,ca] M:=rfl
theorem Sq{n:Nat}:Zq ad (n+1) [a,c,b] M Q E=zk ad (Zn ad n) (Zp ad n) (Zq ad n) (Zr ad n) (aG E) Q⁻¹ [ap a,ap c,ap b,ca] M:=rfl
theorem u_q52{n:Nat}:Zr ad (n+1) [a,c,b] M Q E=HU ad (Zn ad n) (Zp ad n) (Zq ad n) (Zr ad n) (aG E) Q⁻¹ [ap a,ap c,ap b,ca] M:=rfl
def BL(w:Ad)(y:DX):ar:=az (aU<|aa (aV w.C_Walk (ac 3) "steps")<|aa (bi bP<|aa (ao<|aO (bz<|ah av (ac 0) ¬1) ["name"] [3] (af 0) cS<|ah av (aV w.C_Walk (ac 1) "numbers")<|ac 0) ag) ag)
def B8(w:Ad)(y:DX):ar:=ai (ND w.C_Dry (Zn w 24) 3 (aa (ac 3)<|aa (ah av (ac 0) ¬3)<|aa (aU ag) ag)<|az<|aU<|aa (aV w.C_Walk (ac 3) "steps")<|aa (dC .non) ag) (BL w y)
def yE(w:Ad)(y:DX):ar:=ai (aq (ir w.C_Walk (Bb w) y 4<|aa (ac 0)<|aa (ac 1)<|aa (ac 2) ag)<|af 3) (B8 w y)
def uV(ad:Ad):Sd:=aF ["plan","stand","most","walk"] (yE ad)
theorem RD:uV ad [a,c,b] M Q E=yE ad (aG E) Q⁻¹ [ap a,ap c,ap b,ca] M:=rfl
def Ca(w:Ad)(y:DX):ar:=az (ah av (ac 3)<|Ix iJ (ah av (ac 0) ¬1)<|aa (ah av (ac 0) ¬4) ag)
def yt(w:Ad)(y:DX):ar:=ai (aE (al<|ah kU (ac 3)<|dC .non) (az<|dC .non) aB) (Ca w y)
def AS(w:Ad)(y:DX):ar:=ai (aq (ah av (qp<|aj (uV w) y 3<|aa (ac 0)<|aa (ac 1)<|aa (ac 2) ag) ¬1)<|af 3) (yt w y)
def pU(ad:Ad):Sd:=aF ["plan","stand","most","end"] (AS ad)
theorem U3:pU ad [a,c,b] M Q E=AS ad (aG E) Q⁻¹ [ap a,ap c,ap b,ca] M:=rfl
def zC(w:Ad)(y:DX):ar:=az (ah ba (ao<|bi eJ<|aa (ah av (ac 0) ¬1) ag)<|ao<|uO<|aa (ah av (ac 0) ¬2) ag)
def vI(ad:Ad):Sd:=aF ["plan"] (zC ad)
theorem T7:vI ad [a] M Q E=zC ad (aG E) Q⁻¹ [ap a] M:=rfl
def la(w:Ad)(y:DX):ar:=az (aO (bz<|ao<|aj (vI w) y 1<|aa (ac 0) ag) ["thing"] [2] (af 0) (al<|ah wl (ac 0)<|ac 1)<|ac 0)
def Cb(w:Ad)(y:DX):ar:=ai (aq (bi gJ<|aa (ao<|aO (bz<|ac 1) ["thing"] [] (af 0) cS<|aU<|aa (ac 0)<|aa (dC<|.bl true) ag) ag)<|af 2) (la w y)
def A9(ad:Ad):Sd:=aF ["plan","things","wanted"] (Cb ad)
theorem Th:A9 ad [a,b] M Q E=Cb ad (aG E) Q⁻¹ [ap a,ap b,ca] M:=rfl
def Av(w:Ad)(y:DX):ar:=az (ah av (ah av (ac 1) ¬0)<|Ix iJ (ah av (ac 0) ¬1)<|aa (ac 2) ag)
def vZ(w:Ad)(y:DX):ar:=ai (aE (cm<|bi dM<|aa (ac 2)<|aa (dC<|.ty "str") ag) (Av w y) aB) (az<|ah av (ah av (ac 1) ¬1)<|ac 2)
def oh(ad:Ad):Sd:=aF ["plan","stand","thing"] (vZ ad)
theorem Nm:oh ad [a,c,b] M Q E=vZ ad (aG E) Q⁻¹ [ap a,ap c,ap b] M:=rfl
def C1(w:Ad)(y:DX):ar:=az (bi eJ<|aa (ao<|Ee (ac 0) (fk ¬2) cI) ag)
def B3(w:Ad)(y:DX):ar:=ai (aE (P9 (al<|ah bW (ah av (ac 0) ¬0) ¬"put")<|al<|ah bW (ah av (ac 0) ¬0) ¬"take") (az<|bv ag) aB) (C1 w y)
def jr(w:Ad)(y:DX):ar:=ai (aE (P9 (al<|ah bW (ah av (ac 0) ¬0) ¬"if")<|al<|ah bW (ah av (ac 0) ¬0) ¬"again") (az<|bv<|aa (ah av (ac 0) ¬1) ag) aB) (B3 w y)
def A7(ad:Ad):Sd:=aF ["row"] (jr ad)
theorem pQ:A7 ad [a] M Q E=jr ad (aG E) Q⁻¹ [ap a] M:=rfl
def GN(w:Ad)(y:DX):ar:=az (aO (bz<|ao<|aj (vI w) y 1<|aa (ac 0) ag) ["thing"] [0,2,1] (af 0) (al<|ah pO (ao<|aj (oh w) iD 3<|aa (ac 1)<|aa (ac 3)<|aa (ac 0) ag)<|ao<|aj (oh w) iD 3<|aa (ac 1)<|aa (ac 2)<|aa (ac 0) ag)<|ac 0)
def zq(ad:Ad):Sd:=aF ["plan","one","other"] (GN ad)
theorem u_q59:zq ad [a,c,b] M Q E=GN ad (aG E) Q⁻¹ [ap a,ap c,ap b] M:=rfl
def ze(w:Ad)(y:DX):ar:=ai (aE (al<|ah bW (ac 1)<|ac 2) (o8 w.C_NoCase y) aB) (az<|aU<|aa (ac 1)<|aa (ac 2) ag)
def tJ(w:Ad)(y:DX):ar:=ai (aE (P9 (al<|ah kU (ac 1)<|dC .non)<|al<|ah kU (ac 2)<|dC .non) (o8 w.C_NoCase y) aB) (ze w y)
def tG(w:Ad)(y:DX):ar:=ai (aq (ao<|aj (pU w) y 3<|aa (ah av (ac 0) ¬0)<|aa (ah av (ac 0) ¬2)<|aa (ah av (ac 0) ¬3) ag)<|af 2) (tJ w y)
def Ck(w:Ad)(y:DX):ar:=ai (aq (ao<|aj (pU w) y 3<|aa (ah av (ac 0) ¬0)<|aa (ah av (ac 0) ¬1)<|aa (ah av (ac 0) ¬3) ag)<|af 1) (tG w y)
def vA(ad:Ad):Sd:=aF ["case","sound","faulty"] (Ck ad)
theorem RH:vA ad [a] M Q E=Ck ad (aG E) Q⁻¹ [ap a,ca,ca] M:=rfl
def Hw(w:Ad)(y:DX):ar:=az (aj (zq w) y 3<|aa (ah av (ac 0) ¬0)<|aa (ah av (ac 0) ¬1)<|aa (ah av (ac 0) ¬2) ag)
def qv(ad:Ad):Sd:=aF ["case"] (Hw ad)
theorem u_q35:qv ad [a] M Q E=Hw ad (aG E) Q⁻¹ [ap a] M:=rfl
def z6(w:Ad)(y:DX):ar:=ai (aE (al<|ah bW (ac 1)<|ah av (ac 0) ¬1) (az ¬"faulty") aB) (az ¬"other")
def uf(w:Ad)(y:DX):ar:=ai (aE (al<|ah bW (ac 1)<|ah av (ac 0) ¬0) (az ¬"sound") aB) (z6 w y)
def Cj(ad:Ad):Sd:=aF ["two","one"] (uf ad)
theorem LQ:Cj ad [a,b] M Q E=uf ad (aG E) Q⁻¹ [ap a,ap b] M:=rfl
def Hy(w:Ad)(y:DX):ar:=ai (cE w.C_Going (ac 0) (ac 4) "todo") (cE w.C_Going (ac 0) (ac 5) "left")
def G2(w:Ad)(y:DX):ar:=ai (cE w.C_Going (ac 0) (ac 3) "unsettled") (Hy w y)
def HY(w:Ad)(y:DX):ar:=ai (cE w.C_Going (ac 0) (ac 2) "pieces") (G2 w y)
def Kh(w:Ad)(y:DX):ar:=ai (cE w.C_Going (ac 0) (ac 1) "numbers") (HY w y)
def FL(ad:Ad):Sd:=aF ["self","numbers","pieces","unsettled","todo","left"] (Kh ad)
theorem u_q1:FL ad [b,f,a,e,g,c] M Q E=Kh ad (aG E) Q⁻¹ [ap b,ap f,ap a,ap e,ap g,ap c] M:=rfl
def ED(w:Ad)(y:DX):ar:=aq (ac 2) (cY (aV w.C_Going (ac 3) "numbers")<|ac 1)
def Fl(w:Ad)(y:DX):ar:=aq (ac 2) (cY (aV w.C_Going (ac 3) "pieces")<|ac 1)
def Ez(w:Ad)(y:DX):ar:=ai (aE (cm<|bi dM<|aa (ac 1)<|aa (dC<|.ty "str") ag) (ED w y)<|Fl w y) (az<|ac 3)
def xw(w:Ad)(y:DX):ar:=ai (a_<|Gz (aV w.C_Going (ac 3) "unsettled")<|ac 1) (Ez w y)
def IC(w:Ad)(y:DX):ar:=ai (aq (ir w.C_Going (FL w) y 6<|aa (bi jW<|aa (aV w.C_Going (ac 0) "numbers") ag)<|aa (bi eJ<|aa (aV w.C_Going (ac 0) "pieces") ag)<|aa (bi jW<|aa (aV w.C_Going (ac 0) "unsettled") ag)<|aa (aV w.C_Going (ac 0) "todo")<|aa (aV w.C_Going (ac 0) "left") ag)<|af 3) (xw w y)
def EA(ad:Ad):Sd:=aF ["self","thing","number","other"] (IC ad)
theorem u_q5:EA ad [a,c,b] M Q E=IC ad (aG E) Q⁻¹ [ap a,ap c,ap b,ca] M:=rfl
def Lo(w:Ad)(y:DX):ar:=ai (cE w.C_Ends (ac 0) (ac 1) "limit") (cE w.C_Ends (ac 0) (¬0) "count")
def OP(ad:Ad):Sd:=aF ["self","limit"] (Lo ad)
theorem u_q7:OP ad [a,b] M Q E=Lo ad (aG E) Q⁻¹ [ap a,ap b] M:=rfl
def wO(w:Ad)(y:DX):ar:=aE (al<|ah K_ (aV w.C_Ends (ac 0) "count")<|aV w.C_Ends (ac 0) "limit") (o8 w.C_TooMany y) aB
def Jg(w:Ad)(y:DX):ar:=ai (rP w.C_Ends (ac 0) (¬1) "count") (wO w y)
def Ei(ad:Ad):Sd:=aF ["self"] (Jg ad)
theorem u_q8:Ei ad [a] M Q E=Jg ad (aG E) Q⁻¹ [ap a] M:=rfl
def tV(w:Ad)(y:DX):ar:=aq (aU<|aa (ac 2)<|aa (ac 1) ag) (af 1)
def C8(w:Ad)(y:DX):ar:=ai (cW (Pj<|aa (ac 0) ag) (af 2)<|tV w y) (az<|ac 1)
def oO(ad:Ad):Sd:=aF ["rows","todo","row"] (C8 ad)
theorem Sw:oO ad [a,b] M Q E=C8 ad (aG E) Q⁻¹ [ap a,ap b,ca] M:=rfl
def sh(w:Ad)(y:DX):ar:=az (ir w.C_Going (FL w) y 6<|aa (gQ<|aa (ah av (ac 1) ¬1)<|aa (ah av (ac 2) ¬0) ag)<|aa (bi eJ<|aa (ah av (ac 2) ¬1) ag)<|aa (ac 3)<|aa (ao<|aj (oO w) y 2<|aa (ah av (ac 1) ¬3)<|aa (dC .non) ag)<|aa (ah av (ac 0) ¬3) ag)
def y_(w:Ad)(y:DX):ar:=ai (aq (bi gJ<|aa (ao<|aO (bz<|ao<|aj (qv w) y 1<|aa (ac 0) ag) ["thing"] [] (af 0) cS<|aU<|aa (ac 0)<|aa (dC<|.bl true) ag) ag)<|af 3) (sh w y)
def C2(w:Ad)(y:DX):ar:=ai (aq (ah av (ac 0) ¬1)<|af 2) (y_ w y)
def Fx(w:Ad)(y:DX):ar:=ai (aq (ah av (ac 0) ¬0)<|af 1) (C2 w y)
def zL(ad:Ad):Sd:=aF ["case","plan","sound","unsettled"] (Fx ad)
theorem SF:zL ad [a] M Q E=Fx ad (aG E) Q⁻¹ [ap a,ca,ca,ca] M:=rfl
def Cz(w:Ad)(y:DX):ar:=az (ah av (ao<|aj (A9 w) y 2<|aa (ac 0)<|aa (ac 3) ag) ¬0)
def rS(w:Ad)(y:DX):ar:=az (oH (al<|ah F_ (ac 4)<|aV w.C_Going (ac 1) "unsettled") (ac 4)<|dC .non)
def r8(w:Ad)(y:DX):ar:=ai (aq (ao<|aj (oS w) y 3<|aa (ac 0)<|aa (aV w.C_Going (ac 1) "numbers")<|aa (ac 2) ag)<|af 4) (rS w y)
def mv(w:Ad)(y:DX):ar:=ai (aE (cm<|ac 3) (Cz w y) aB) (r8 w y)
def zD(w:Ad)(y:DX):ar:=ai (cq (dj 3<|aO (bz<|ao<|aj (A7 w) y 1<|aa (ac 2) ag) ["name"] [1] (af 0) (al<|ah wl (ac 0)<|aV w.C_Going (ac 1) "unsettled")<|ac 0) 3) (mv w y)
def AO(w:Ad)(y:DX):ar:=ai (aE (fU<|cm<|aV w.C_Going (ac 1) "unsettled") (az<|dC .non) aB) (zD w y)
def Bo(ad:Ad):Sd:=aF ["plan","going","row","found","piece"] (AO ad)
theorem RW:Bo ad [a,c,b] M Q E=AO ad (aG E) Q⁻¹ [ap a,ap c,ap b,ca,ca] M:=rfl
def yu(w:Ad)(y:DX):ar:=cE w.C_Going (ac 1) (ao<|aj (oO w) y 2<|aa (oH (al<|ah bW (ah av (aV w.C_Going (ac 1) "numbers")<|ah av (ac 2) ¬1) ¬0) (ah av (ac 2) ¬3)<|ah av (ac 2) ¬2)<|aa (aV w.C_Going (ac 1) "todo") ag) "todo"
def AF(w:Ad)(y:DX):ar:=cE w.C_Going (ac 1) (ao<|aj (oO w) y 2<|aa (ah av (ac 2) ¬2)<|aa (aU<|aa (ac 2)<|aa (aV w.C_Going (ac 1) "todo") ag) ag) "todo"
def Bl(w:Ad)(y:DX):ar:=aE (al<|ah pO (ah av (aV w.C_Going (ac 1) "numbers")<|ah av (ac 2) ¬1) ¬0) (AF w y) aB
def rF(w:Ad)(y:DX):ar:=a_ (FJ (aV w.C_Going (ac 1) "unsettled") (ah av (ac 2) ¬1)<|dC .non)
def gT(w:Ad)(y:DX):ar:=ai (aq (ao<|aj (nq w) y 4<|aa (ac 0)<|aa (aV w.C_Going (ac 1) "numbers")<|aa (aV w.C_Going (ac 1) "pieces")<|aa (ac 2) ag)<|cY (aV w.C_Going (ac 1) "numbers")<|ah av (ac 2) ¬1) (rF w y)
def zh(w:Ad)(y:DX):ar:=aE (al<|ah bW (ah av (ac 2) ¬0) ¬"again") (Bl w y) (gT w y)
def zB(w:Ad)(y:DX):ar:=aE (al<|ah bW (ah av (ac 2) ¬0) ¬"if") (yu w y) (zh w y)
def tR(w:Ad)(y:DX):ar:=ai (cE w.C_Going (ac 1) (ah av (aV w.C_Going (ac 1) "todo") ¬1) "todo") (zB w y)
def Au(w:Ad)(y:DX):ar:=ai (rQ w.C_Going (ac 1) (¬1) "left") (tR w y)
def BS(ad:Ad):Sd:=aF ["plan","going","row"] (Au ad)
theorem Ro:BS ad [a,c,b] M Q E=Au ad (aG E) Q⁻¹ [ap a,ap c,ap b] M:=rfl
def uc(w:Ad)(y:DX):ar:=a_ (aj (BS w) y 3<|aa (ac 0)<|aa (ac 1)<|aa (ac 2) ag)
def qP(w:Ad)(y:DX):ar:=ai (aE (al<|ah fc (ac 3)<|dC .non) (az<|ac 3) aB) (uc w y)
def tM(w:Ad)(y:DX):ar:=ai (aq (ao<|aj (Bo w) y 3<|aa (ac 0)<|aa (ac 1)<|aa (ac 2) ag)<|af 3) (qP w y)
def sY(w:Ad)(y:DX):ar:=ai (aq (ah av (aV w.C_Going (ac 1) "todo") ¬0)<|af 2) (tM w y)
def gW(w:Ad)(y:DX):ar:=ai (aE (al<|ah oLe (aV w.C_Going (ac 1) "left") ¬0) (az<|dC .non) aB) (sY w y)
def tu(w:Ad)(y:DX):ar:=az (oH (al<|ah wl (ah av (ac 0) ¬4)<|aV w.C_Going (ac 1) "unsettled") (ah av (ac 0) ¬4)<|dC .non)
def Fq(w:Ad)(y:DX):ar:=ai (sD (al<|ah fc (aV w.C_Going (ac 1) "todo")<|dC .non)<|gW w y) (tu w y)
def Ab(ad:Ad):Sd:=aF ["plan","going","row","asked"] (Fq ad)
theorem u_q60:Ab ad [a,b] M Q E=Fq ad (aG E) Q⁻¹ [ap a,ap b,ca,ca] M:=rfl
def C7(w:Ad)(y:DX):ar:=az (oH (al<|ah kU (aV w.C_Going (ac 1) "todo")<|dC .non) (ah av (aV w.C_Going (ac 1) "numbers")<|ah av (ac 0) ¬4)<|dC .non)
def Cu(ad:Ad):Sd:=aF ["plan","going"] (C7 ad)
theorem Sy:Cu ad [a,b] M Q E=C7 ad (aG E) Q⁻¹ [ap a,ap b] M:=rfl
def zU(w:Ad)(y:DX):ar:=az (aO (bz<|ao<|Ee (ac 0) (fk ¬1)<|fk ¬3) ["stand"] [2,1,0] (af 0) cS<|ao<|dy w.C_Going "settled" (EA w) iD 3 (ac 2)<|aa (ac 1)<|aa (ao<|aj (oh w) iD 3<|aa (ah av (ac 3) ¬0)<|aa (ac 0)<|aa (ac 1) ag) ag)
def yh(ad:Ad):Sd:=aF ["case","going","thing"] (zU ad)
theorem Rg:yh ad [a,c,b] M Q E=zU ad (aG E) Q⁻¹ [ap a,ap c,ap b] M:=rfl
def zZ(w:Ad)(Zt:Sd)(y:DX):ar:=az (aU<|aa (¬"end")<|aa (aj (Cu w) y 2<|aa (ah av (ac 0) ¬0)<|aa (ac 1) ag) ag)
def yZ(w:Ad)(Zt:Sd)(y:DX):ar:=az (aU<|aa (¬"ask")<|aa (ac 3)<|aa (aj Zt y 3<|aa (ac 0)<|aa (ah av (ac 4) ¬0)<|aa (ac 2) ag)<|aa (aj Zt y 3<|aa (ac 0)<|aa (ah av (ac 4) ¬1)<|aa (ac 2) ag) ag)
def Ax(w:Ad)(Zt:Sd)(y:DX):ar:=ai (aq (ao<|aj (yh w) y 3<|aa (ac 0)<|aa (ac 1)<|aa (ac 3) ag)<|af 4) (yZ w Zt y)
def zY(w:Ad)(Zt:Sd)(y:DX):ar:=ai (a_<|dy w.C_Ends "one_more" (Ei w) y 1 (ac 2) ag) (Ax w Zt y)
def rj(w:Ad)(Zt:Sd)(y:DX):ar:=ai (aE (al<|ah kU (ac 3)<|dC .non) (zZ w Zt y) aB) (zY w Zt y)
def A8(w:Ad)(Zt:Sd)(y:DX):ar:=ai (aq (ao<|aj (Ab w) y 2<|aa (ah av (ac 0) ¬0)<|aa (ac 1) ag)<|af 3) (rj w Zt y)
def Zt(ad:Ad):Nat->Sd
 |0=>λ_ _ _ _=>False
 |n+1=>aF ["case","going","ends","asked","ways"] (A8 ad<|Zt ad n)
theorem Rx{n:Nat}:Zt ad (n+1) [a,c,b] M Q E=A8 ad (Zt ad n) (aG E) Q⁻¹ [ap a,ap c,ap b,ca,ca] M:=rfl
def A0(w:Ad)(y:DX):ar:=az (aj (Zt w 24) y 3<|aa (ac 0)<|aa (ao<|aj (zL w) y 1<|aa (ac 0) ag)<|aa (ac 2) ag)
def zf(w:Ad)(y:DX):ar:=ai (a_<|dy w.C_Ends "one_more" (Ei w) y 1 (ac 2) ag) (A0 w y)
def zu(w:Ad)(y:DX):ar:=ai (aq (ir w.C_Ends (OP w) y 2<|aa (ac 1) ag)<|af 2) (zf w y)
def HD(w:Ad)(y:DX):ar:=ai (a_<|aj (vA w) y 1<|aa (ac 0) ag) (zu w y)
def BP(ad:Ad):Sd:=aF ["case","limit","ends"] (HD ad)
theorem u_q66:BP ad [a,b] M Q E=HD ad (aG E) Q⁻¹ [ap a,ap b,ca] M:=rfl
def ER(w:Ad)(y:DX):ar:=ai (cE w.C_Outcome (ac 0) (ac 2) "sound") (cE w.C_Outcome (ac 0) (ac 3) "faulty")
def Jj(w:Ad)(y:DX):ar:=ai (cE w.C_Outcome (ac 0) (ac 1) "verdict") (ER w y)
def JM(ad:Ad):Sd:=aF ["self","verdict","sound","faulty"] (Jj ad)
theorem u_q0:JM ad [a,c,b,e] M Q E=Jj ad (aG E) Q⁻¹ [ap a,ap c,ap b,ap e] M:=rfl
def tz(w:Ad)(y:DX):ar:=a_ (iS "list" bj (ac 4)<|aa (ir w.C_Outcome (JM w) y 4<|aa (ao<|aj (Cj w) y 2<|aa (ac 2)<|aa (ah av (ah av (ac 6) ¬0) ¬1) ag)<|aa (ac 7)<|aa (ac 8) ag) ag)
def tq(w:Ad)(y:DX):ar:=a_ (iS "list" bj (ac 5)<|aa (aU<|aa (ah av (ah av (ac 6) ¬0) ¬3)<|aa (ac 7)<|aa (ah oOr (ac 8)<|ac 9) ag) ag)
def tI(w:Ad)(y:DX):ar:=ai (a_<|iS "list" bj (ac 5)<|aa (aU<|aa (ah av (ah av (ac 6) ¬0) ¬2)<|aa (ah oOr (ac 7)<|ac 9)<|aa (ac 8) ag) ag) (tq w y)
def rg(w:Ad)(y:DX):ar:=ai (aq (ah av (ac 3)<|ah av (ah av (ac 6) ¬0) ¬1)<|af 9) (tI w y)
def ra(w:Ad)(y:DX):ar:=aE (al<|ah bW (ah av (ah av (ac 6) ¬0) ¬0) ¬"end") (tz w y) (rg w y)
def r9(w:Ad)(y:DX):ar:=ai (aq (ah av (ac 6) ¬2)<|af 8) (ra w y)
def sJ(w:Ad)(y:DX):ar:=ai (aq (ah av (ac 6) ¬1)<|af 7) (r9 w y)
def ie(w:Ad)(y:DX):ar:=ai (aq (iS "list" DM (ac 5) ag)<|af 6) (sJ w y)
def yK(w:Ad)(y:DX):ar:=ai (sD (cm<|ac 5)<|ie w y) (az<|ac 4)
def uj(w:Ad)(y:DX):ar:=ai (aq (bv<|aa (aU<|aa (aj (BP w) y 2<|aa (ac 0)<|aa (ac 1) ag)<|aa (¬0)<|aa (¬0) ag) ag)<|af 5) (yK w y)
def uy(w:Ad)(y:DX):ar:=ai (aq (bi gJ<|aa (ao<|aO (vT<|aa (ao<|aj (qv w) y 1<|aa (ac 0) ag) ag) ["number","thing"] [] (dm 2<|aM (af 0)<|aM (af 1) dg) cS<|aU<|aa (ac 1)<|aa (ah Ru (¬1)<|ac 0) ag) ag)<|af 3) (ai (aq (bv ag)<|af 4)<|uj w y)
def HF(w:Ad)(y:DX):ar:=ai (aq (ao<|aj (vA w) y 1<|aa (ac 0) ag)<|af 2) (uy w y)
def BU(ad:Ad):Sd:=aF ["case","limit","two","bit_of","found","waiting","here","sound","faulty","bit"] (HF ad)
theorem u_q53:BU ad [a,b] M Q E=HF ad (aG E) Q⁻¹ [ap a,ap b,ca,ca,ca,ca,ca,ca,ca,ca] M:=rfl
def yG(w:Ad)(y:DX):ar:=az (aO (dR<|aa (iS "int" rU (ac 0) ag) ag) ["number"] [0] (af 0) (al<|ah bW (ah Ig (ah S6 (ac 1)<|ac 0) ¬1) ¬1)<|ac 0)
def ku(ad:Ad):Sd:=aF ["bits"] (yG ad)
theorem Sb:ku ad [a] M Q E=yG ad (aG E) Q⁻¹ [ap a] M:=rfl
def BR(w:Ad)(y:DX):ar:=az (aO (bz<|ao<|aj (ku w) y 1<|aa (ac 1) ag) ["number"] [0] (af 0) cS<|ah av (ac 1)<|ac 0)
def mS(ad:Ad):Sd:=aF ["things","bits"] (BR ad)
theorem Tf:mS ad [a,b] M Q E=BR ad (aG E) Q⁻¹ [ap a,ap b] M:=rfl
def h8(w:Ad)(y:DX):ar:=aE (fU<|cm<|bi Kd<|aa (ao<|aO (bz<|ac 1) ["held"] [2] (af 0) cS<|ah bW (ah Ig (ac 0)<|ac 1)<|ac 0) ag) (a_<|iS "list" bj (ac 1)<|aa (ac 2) ag) aB
def lL(w:Ad)(y:DX):ar:=ai (cW (bz<|ao<|bi jh<|aa (ac 0) ag) (af 2)<|h8 w y) (az<|ac 1)
def yi(w:Ad)(y:DX):ar:=ai (aq (bv ag)<|af 1) (lL w y)
def Cr(ad:Ad):Sd:=aF ["many","found","bits"] (yi ad)
theorem Sr:Cr ad [a] M Q E=yi ad (aG E) Q⁻¹ [ap a,ca,ca] M:=rfl
def qY(w:Ad)(y:DX):ar:=az (aO (bz<|ao<|bi (gg<|ku w)<|aa (ac 1) ag) ["bits"] [2] (af 0) cS<|aj (mS w) iD 2<|aa (ac 1)<|aa (ac 0) ag)
def Jh(w:Ad)(y:DX):ar:=ai (aq (aj (qv w) y 1<|aa (ac 0) ag)<|af 2) (qY w y)
def JI(ad:Ad):Sd:=aF ["case","many","things"] (Jh ad)
theorem u_q3:JI ad [a,b] M Q E=Jh ad (aG E) Q⁻¹ [ap a,ap b,ca] M:=rfl
def sj(w:Ad)(y:DX):ar:=az (aj (JI w) y 2<|aa (ac 0)<|aa (ao<|aj (Cr w) y 1<|aa (ac 2) ag) ag)
def KO(w:Ad)(y:DX):ar:=ai (dj 2<|aO (bz<|ao<|aj (BU w) y 2<|aa (ac 0)<|aa (ac 1) ag) ["one"] [] (af 0) (al<|ah bW (aV w.C_Outcome (ac 0) "verdict") ¬"sound")<|aV w.C_Outcome (ac 0) "sound") (sj w y)
def Dx(ad:Ad):Sd:=aF ["case","limit","sound"] (KO ad)
theorem u_q4:Dx ad [a,b] M Q E=KO ad (aG E) Q⁻¹ [ap a,ap b,ca] M:=rfl
def A_(w:Ad)(y:DX):ar:=ai (aq (ah gb (ah jg (ah Tn (ac 2)<|ah wg (ac 2) ¬2147483648) ¬2685821657736338717) ¬18446744073709551616)<|af 2) (az<|ah wg (ac 2) ¬1048576)
def za(w:Ad)(y:DX):ar:=ai (aq (ah gb (ah ba (ah ba (ah jg (ac 0) ¬6364136223846793005)<|ah jg (ac 1) ¬1442695040888963407) ¬97) ¬18446744073709551616)<|af 2) (A_ w y)
def ng(ad:Ad):Sd:=aF ["cell","turn","one"] (za ad)
theorem RJ:ng ad [a,b] M Q E=za ad (aG E) Q⁻¹ [ap a,ap b,ca] M:=rfl
def z_(w:Ad)(y:DX):ar:=aq (ah gb (ah ba (ah jg (ac 1) ¬1000003)<|ac 2) ¬18446744073709551616) (af 1)
def Bp(w:Ad)(y:DX):ar:=az (bv<|aa (bi eJ<|aa (ao<|Ee (ac 0) cI<|fk ¬63) ag)<|aa (¬0)<|aa (¬0)<|aa (ac 1) ag)
def zE(w:Ad)(y:DX):ar:=ai (cW (bz<|ao<|Ee (ac 0) cI<|fk ¬63) (af 2)<|z_ w y) (Bp w y)
def Cg(w:Ad)(y:DX):ar:=ai (aq (¬7)<|af 1) (zE w y)
def Bz(ad:Ad):Sd:=aF ["script","seed","cell"] (Cg ad)
theorem TQ:Bz ad [a] M Q E=Cg ad (aG E) Q⁻¹ [ap a,ca,ca] M:=rfl
def yg(w:Ad)(y:DX):ar:=az (ah gb (ao<|aj (ng w) y 2<|aa (ac 2)<|aa (ah av (ac 0) ¬1) ag)<|ac 1)
def BV(w:Ad)(y:DX):ar:=ai (aE (al<|ah E6 (ac 2)<|ah OV (¬10) ¬18) (yg w y) aB) (aq (ac 2)<|cY (ac 0) ¬2)
def yX(w:Ad)(y:DX):ar:=ai (aq (iS "list" DM (ah av (ac 0) ¬0)<|aa (¬0) ag)<|af 2) (BV w y)
def AI(w:Ad)(y:DX):ar:=az (ah gb (ao<|aj (ng w) y 2<|aa (ah av (ac 0) ¬3)<|aa (ah av (ac 0) ¬1) ag)<|ac 1)
def z7(w:Ad)(y:DX):ar:=ai (aq (ah wg (ah av (ac 0) ¬2)<|ac 1)<|cY (ac 0) ¬2) (az<|ac 3)
def yx(w:Ad)(y:DX):ar:=ai (aq (ah gb (ah av (ac 0) ¬2)<|ac 1)<|af 3) (z7 w y)
def C5(w:Ad)(y:DX):ar:=ai (aE (al<|ah bW (ah av (ac 0) ¬2) ¬0) (AI w y) aB) (yx w y)
def yT(w:Ad)(y:DX):ar:=ai (aE (kZ (al<|ah bW (ah av (ac 0) ¬2) ¬0)<|al<|ah pO (ah av (ac 0) ¬0)<|ao<|bv ag) (yX w y) aB) (C5 w y)
def Hz(w:Ad)(y:DX):ar:=ai (aq (ah ba (ah av (ac 0) ¬1) ¬1)<|cY (ac 0) ¬1) (yT w y)
def aZ(ad:Ad):Sd:=aF ["pot","many","cell","found"] (Hz ad)
theorem u_q45:aZ ad [a,b] M Q E=Hz ad (aG E) Q⁻¹ [ap a,ap b,ca,ca] M:=rfl
def BQ(w:Ad)(y:DX):ar:=a_ (iS "list" bj (ac 3)<|aa (ah jg (ac 5)<|ah ba (¬1)<|ao<|aj (aZ w) y 2<|aa (ac 0)<|aa (¬8) ag) ag)
def Cq(w:Ad)(y:DX):ar:=ai (aq (ah av (¬"abcdefghijklmnopqrstuvwxyz")<|ah gb (ah ba (ac 2)<|ah jg (¬7)<|ac 4) ¬26)<|af 5) (BQ w y)
def B_(w:Ad)(y:DX):ar:=ai (cW (dR<|aa (ac 1) ag) (af 4)<|Cq w y) (az<|bi bP<|aa (ac 3) ag)
def A2(w:Ad)(y:DX):ar:=ai (aq (ao<|aj (aZ w) y 2<|aa (ac 0)<|aa (¬26) ag)<|af 2) (ai (aq (bv ag)<|af 3)<|B_ w y)
def Ch(ad:Ad):Sd:=aF ["pot","many","turn","names","k","sign"] (A2 ad)
theorem TZ:Ch ad [a,b] M Q E=A2 ad (aG E) Q⁻¹ [ap a,ap b,ca,ca,ca,ca] M:=rfl
def yJ(w:Ad)(y:DX):ar:=az (aU<|aa (ac 6)<|aa (ac 7)<|aa (aj (aZ w) y 2<|aa (ac 0)<|aa (ac 2) ag) ag)
def yv(w:Ad)(y:DX):ar:=az (aU<|aa (ac 6)<|aa (ac 7)<|aa (aj (aZ w) y 2<|aa (ac 0)<|aa (ac 4) ag) ag)
def Bf(w:Ad)(y:DX):ar:=az (aU<|aa (ac 6)<|aa (ac 7)<|aa (ac 8) ag)
def yz(w:Ad)(y:DX):ar:=az (aU<|aa (ac 6)<|aa (ac 7)<|aa (ac 8)<|aa (ah av (ac 3)<|ao<|aj (aZ w) y 2<|aa (ac 0)<|aa (bi cu<|aa (ac 3) ag) ag) ag)
def Aa(w:Ad)(y:DX):ar:=ai (aE (al<|ah bW (ac 6) ¬"pick") (Bf w y) aB) (yz w y)
def yB(w:Ad)(y:DX):ar:=ai (aq (ah av (ac 3)<|ao<|aj (aZ w) y 2<|aa (ac 0)<|aa (bi cu<|aa (ac 3) ag) ag)<|af 8) (Aa w y)
def Bk(w:Ad)(y:DX):ar:=ai (aE (al<|ah bW (ac 6) ¬"take") (yv w y) aB) (yB w y)
def Ct(w:Ad)(y:DX):ar:=ai (aE (al<|ah bW (ac 6) ¬"put") (yJ w y) aB) (Bk w y)
def Ar(w:Ad)(y:DX):ar:=ai (aq (ah av (ac 3)<|ao<|aj (aZ w) y 2<|aa (ac 0)<|aa (bi cu<|aa (ac 3) ag) ag)<|af 7) (Ct w y)
def uB(w:Ad)(y:DX):ar:=ai (aq (ah av (ac 5)<|ao<|aj (aZ w) y 2<|aa (ac 0)<|aa (oH (al<|ah K_ (ac 4) ¬0) (¬9) ¬7) ag)<|af 6) (Ar w y)
def uZ(w:Ad)(y:DX):ar:=ai (aq (ao<|bv<|aa (¬"put")<|aa (¬"sum")<|aa (¬"by")<|aa (¬"less")<|aa (¬"same")<|aa (¬"sum")<|aa (¬"put")<|aa (¬"take")<|aa (¬"pick") ag)<|af 5) (uB w y)
def AL(w:Ad)(y:DX):ar:=ai (aq (ac 1)<|dm 3<|aM (af 2)<|aM (af 3)<|aM (af 4) dg) (uZ w y)
def ug(ad:Ad):Sd:=aF ["pot","told","m","names","many","ways","way","x","y"] (AL ad)
theorem Rk:ug ad [a,b] M Q E=AL ad (aG E) Q⁻¹ [ap a,ap b,ca,ca,ca,ca,ca,ca,ca] M:=rfl
def zW(w:Ad)(Zm Zl:Sd)(y:DX):ar:=az (bv<|aa (aU<|aa (¬"if")<|aa (ac 7)<|aa (ac 8)<|aa (aj Zl y 5<|aa (ac 0)<|aa (ac 1)<|aa (ac 2)<|aa (ah ba (ac 3) ¬1)<|aa (¬5) ag) ag) ag)
def Al(w:Ad)(Zm Zl:Sd)(y:DX):ar:=az (bv<|aa (aU<|aa (¬"again")<|aa (ac 7)<|aa (ac 8) ag) ag)
def yn(w:Ad)(Zm Zl:Sd)(y:DX):ar:=az (bv<|aa (aU<|aa (¬"put")<|aa (ac 7)<|aa (aj (aZ w) y 2<|aa (ac 0)<|aa (bi Gv<|aa (ac 4)<|aa (¬9) ag) ag) ag)<|aa (aU<|aa (¬"put")<|aa (ac 10)<|aa (ah pA (ac 4) ¬1) ag)<|aa (aU<|aa (¬"again")<|aa (ac 7)<|aa (ah ba (ac 8)<|aU<|aa (aU<|aa (¬"sum")<|aa (ac 7)<|aa (ac 7)<|aa (ac 10) ag) ag) ag) ag)
def A6(w:Ad)(Zm Zl:Sd)(y:DX):ar:=ai (aq (ah av (ac 5)<|ao<|aj (aZ w) y 2<|aa (ac 0)<|aa (bi cu<|aa (ac 5) ag) ag)<|af 10) (yn w Zm Zl y)
def Bh(w:Ad)(Zm Zl:Sd)(y:DX):ar:=ai (aE (al<|ah bW (ac 9) ¬2) (Al w Zm Zl y) aB) (A6 w Zm Zl y)
def yR(w:Ad)(Zm Zl:Sd)(y:DX):ar:=ai (aE (al<|ah E6 (ac 9) ¬2) (zW w Zm Zl y) aB) (Bh w Zm Zl y)
def B4(w:Ad)(Zm Zl:Sd)(y:DX):ar:=ai (aq (ao<|aj (aZ w) y 2<|aa (ac 0)<|aa (¬5) ag)<|af 9) (yR w Zm Zl y)
def Aw(w:Ad)(Zm Zl:Sd)(y:DX):ar:=ai (aq (ao<|aj Zl y 5<|aa (ac 0)<|aa (ac 1)<|aa (ac 2)<|aa (ah ba (ac 3) ¬1)<|aa (¬5) ag)<|af 8) (B4 w Zm Zl y)
def zS(w:Ad)(Zm Zl:Sd)(y:DX):ar:=ai (aq (ah av (ac 5)<|ao<|aj (aZ w) y 2<|aa (ac 0)<|aa (bi cu<|aa (ac 5) ag) ag)<|af 7) (Aw w Zm Zl y)
def BK(w:Ad)(Zm Zl:Sd)(y:DX):ar:=ai (aq (ac 1)<|dm 3<|aM (af 4)<|aM (af 5)<|aM (af 6) dg) (zS w Zm Zl y)
def BO(w:Ad)(Zm Zl:Sd)(y:DX):ar:=aq (ah ba (ac 5)<|ao<|aj Zm y 4<|aa (ac 0)<|aa (ac 1)<|aa (ac 2)<|aa (ac 3) ag) (af 5)
def Cp(w:Ad)(Zm Zl:Sd)(y:DX):ar:=ai (aq (ah pA (ah av (ac 2) ¬0) ¬4)<|cY (ac 2) ¬0) (BO w Zm Zl y)
def zR(w:Ad)(Zm Zl:Sd)(y:DX):ar:=a_ (iS "list" bj (ac 5)<|aa (ao<|aj (ug w) y 2<|aa (ac 0)<|aa (ac 1) ag) ag)
def Bm(w:Ad)(Zm Zl:Sd)(y:DX):ar:=ai (aq (ah pA (ah av (ac 2) ¬0) ¬1)<|cY (ac 2) ¬0) (zR w Zm Zl y)
def AQ(w:Ad)(Zm Zl:Sd)(y:DX):ar:=aE (al<|ah K_ (ah av (ac 2) ¬0) ¬0) (Bm w Zm Zl y) aB
def yF(w:Ad)(Zm Zl:Sd)(y:DX):ar:=aE (kZ (al<|ah K_ (ah av (ac 2) ¬0) ¬4)<|kZ (al<|ah E6 (ac 3) ¬4)<|al<|ah bW (ao<|aj (aZ w) y 2<|aa (ac 0)<|aa (¬4) ag) ¬0) (Cp w Zm Zl y) (AQ w Zm Zl y)
def AW(w:Ad)(Zm Zl:Sd)(y:DX):ar:=ai (cW (dR<|aa (ao<|aj (aZ w) y 2<|aa (ac 0)<|aa (ac 4) ag) ag) (af 6)<|yF w Zm Zl y) (az<|bi bP<|aa (ac 5) ag)
def AK(w:Ad)(Zm Zl:Sd)(y:DX):ar:=ai (aq (bv ag)<|af 5) (AW w Zm Zl y)
mutual
noncomputable def Zm(ad:Ad):Nat->Sd
 |0=>λ_ _ _ _=>False
 |n+1=>aF ["pot","told","room","deep","m","names","many","x","first","way","y"] (BK ad (Zm ad n)<|Zl ad n)
noncomputable def Zl(ad:Ad):Nat->Sd
 |0=>λ_ _ _ _=>False
 |n+1=>aF ["pot","told","room","deep","most","rows","k"] (AK ad (Zm ad n)<|Zl ad n)
end
theorem T6{n:Nat}:Zm ad (n+1) [a,c,b,e] M Q E=BK ad (Zm ad n) (Zl ad n) (aG E) Q⁻¹ [ap a,ap c,ap b,ap e,ca,ca,ca,ca,ca,ca,ca] M:=rfl
theorem S7{n:Nat}:Zl ad (n+1) [b,e,a,c,f] M Q E=AK ad (Zm ad n) (Zl ad n) (aG E) Q⁻¹ [ap b,ap e,ap a,ap c,ap f,ca,ca] M:=rfl
def Ay(w:Ad)(y:DX):ar:=az (aU<|aa (ac 2)<|aa (ac 3)<|aa (ac 4)<|aa (ac 5)<|aa (ah av (ac 3)<|ao<|aj (aZ w) y 2<|aa (ac 0)<|aa (bi cu<|aa (ac 3) ag) ag) ag)
def BJ(w:Ad)(y:DX):ar:=ai (aq (ao<|aj (Zl w 24) y 5<|aa (ac 0)<|aa (aU<|aa (ac 2)<|aa (ac 3)<|aa (ac 4) ag)<|aa (bv<|aa (ac 1) ag)<|aa (¬0)<|aa (ah av (ao<|bv<|aa (¬6)<|aa (¬12)<|aa (¬30) ag)<|ao<|aj (aZ w) y 2<|aa (ac 0)<|aa (¬3) ag) ag)<|af 5) (Ay w y)
def CB(w:Ad)(y:DX):ar:=ai (aq (ah av (ao<|bv<|aa (¬0)<|aa (ah ba (¬1)<|ao<|aj (aZ w) y 2<|aa (ac 0)<|aa (¬4) ag)<|aa (ao<|aj (aZ w) y 2<|aa (ac 0)<|aa (¬41) ag) ag)<|ao<|aj (aZ w) y 2<|aa (ac 0)<|aa (¬3) ag)<|af 4) (BJ w y)
def yr(w:Ad)(y:DX):ar:=ai (aq (ao<|aj (Ch w) y 2<|aa (ac 0)<|aa (ah ba (¬1)<|ao<|aj (aZ w) y 2<|aa (ac 0)<|aa (ah av (ao<|bv<|aa (¬3)<|aa (¬5)<|aa (¬12) ag)<|ao<|aj (aZ w) y 2<|aa (ac 0)<|aa (¬3) ag) ag) ag)<|af 3) (CB w y)
def zI(w:Ad)(y:DX):ar:=ai (aq (ah av (ao<|bv<|aa (¬2)<|aa (¬3)<|aa (ah ba (¬2)<|ao<|aj (aZ w) y 2<|aa (ac 0)<|aa (¬9) ag)<|aa (ah ba (¬2)<|ao<|aj (aZ w) y 2<|aa (ac 0)<|aa (¬996) ag) ag)<|ao<|aj (aZ w) y 2<|aa (ac 0)<|aa (¬4) ag)<|af 2) (yr w y)
def yw(ad:Ad):Sd:=aF ["pot","most","m","names","many","rows"] (zI ad)
theorem U0:yw ad [a,b] M Q E=zI ad (aG E) Q⁻¹ [ap a,ap b,ca,ca,ca,ca] M:=rfl
def zg(w:Ad)(y:DX):ar:=az (aU<|aa (ac 2)<|aa (bi bP<|aa (ao<|aO (dR<|aa (ah av (ac 1) ¬2) ag) ["k"] [0,1] (af 0) cS<|ao<|aj (aZ w) iD 2<|aa (ac 1)<|aa (ah av (ac 2) ¬0) ag) ag) ag)
def Hg(w:Ad)(y:DX):ar:=ai (aq (bi bP<|aa (ao<|aO (bz<|ah av (ac 1) ¬1) ["name"] [0,1] (af 0) cS<|ao<|aj (aZ w) iD 2<|aa (ac 1)<|aa (ah av (ac 2) ¬0) ag) ag)<|af 2) (zg w y)
def z0(ad:Ad):Sd:=aF ["pot","plan","numbers"] (Hg ad)
theorem u_q20:z0 ad [a,b] M Q E=Hg ad (aG E) Q⁻¹ [ap a,ap b,ca] M:=rfl
def Ai(w:Ad)(y:DX):ar:=az (ah av (ac 3)<|ah gb (ah av (ac 2)<|ah av (ac 1) ¬2)<|bi cu<|aa (ac 3) ag)
def zJ(w:Ad)(y:DX):ar:=az (ah gb (ao<|ah ba (ac 7)<|ac 8)<|ac 6)
def yy(w:Ad)(y:DX):ar:=az (oH (al<|ah E6 (ac 7)<|ac 8) (¬1) ¬0)
def zM(w:Ad)(y:DX):ar:=az (oH (al<|ah bW (ac 7)<|ac 8) (¬1) ¬0)
def Bi(w:Ad)(y:DX):ar:=ai (aE (al<|ah bW (ah av (ac 1) ¬0) ¬"less") (yy w y) aB) (zM w y)
def yS(w:Ad)(y:DX):ar:=ai (aE (al<|ah bW (ah av (ac 1) ¬0) ¬"by") (az<|ah gb (ah jg (ac 7)<|ac 8)<|ac 6) aB) (Bi w y)
def zi(w:Ad)(y:DX):ar:=ai (aE (al<|ah bW (ah av (ac 1) ¬0) ¬"sum") (zJ w y) aB) (yS w y)
def Bv(w:Ad)(y:DX):ar:=ai (aq (ah av (ac 2)<|ah av (ac 1) ¬3)<|af 8) (zi w y)
def yU(w:Ad)(y:DX):ar:=ai (aq (ah av (ac 2)<|ah av (ac 1) ¬2)<|af 7) (Bv w y)
def uC(w:Ad)(y:DX):ar:=ai (aE (al<|ah bW (ah av (ac 1) ¬0) ¬"pick") (Ai w y) aB) (yU w y)
def wb(w:Ad)(y:DX):ar:=ai (aE (al<|ah bW (ah av (ac 1) ¬0) ¬"take") (az<|ah av (ac 3)<|ah av (ac 1) ¬2) aB) (uC w y)
def u_(w:Ad)(y:DX):ar:=ai (aE (al<|ah bW (ah av (ac 1) ¬0) ¬"put") (az<|ah av (ac 1) ¬2) aB) (wb w y)
def mU(w:Ad)(y:DX):ar:=ai (aq (ac 0)<|Dn 5<|aM (af 2)<|aM (af 3)<|aM (af 4)<|aM (af 5)<|aM (af 6) dg) (u_ w y)
def vg(ad:Ad):Sd:=aF ["gone","row","numbers","pieces","steps","most","m","one","other"] (mU ad)
theorem Bc:vg ad [a,b] M Q E=mU ad (aG E) Q⁻¹ [ap a,ap b,ca,ca,ca,ca,ca,ca,ca] M:=rfl
def yV(w:Ad)(y:DX):ar:=ai (a_<|iS "list" bj (ah av (ac 0) ¬2)<|aa (aU<|aa (ac 1)<|aa (ac 2) ag) ag) (az<|dC<|.bl true)
def Az(w:Ad)(y:DX):ar:=ai (aE (al<|ah bW (bi cu<|aa (ah av (ac 0) ¬2) ag)<|ah av (ac 0) ¬3) (az<|dC<|.bl cx) aB) (yV w y)
def kM(ad:Ad):Sd:=aF ["gone","place","number"] (Az ad)
theorem Ri:kM ad [a,c,b] M Q E=Az ad (aG E) Q⁻¹ [ap a,ap c,ap b] M:=rfl
def tY(w:Ad)(Zo Zk:Sd)(y:DX):ar:=aE (fU<|cm<|ao<|aj Zk y 3<|aa (ac 0)<|aa (ah av (ac 1) ¬2)<|aa (ah ba (ac 2)<|aU<|aa (ac 3) ag) ag) (az<|dC<|.bl cx) aB
def A3(w:Ad)(Zo Zk:Sd)(y:DX):ar:=ai (aE (al<|ah bW (ac 4) ¬0) (az<|dC<|.bl true) aB) (tY w Zo Zk y)
def tF(w:Ad)(Zo Zk:Sd)(y:DX):ar:=ai (aE (fU<|cm<|ao<|aj (kM w) y 3<|aa (ac 0)<|aa (ah ba (ac 2)<|aU<|aa (ac 3) ag)<|aa (ac 4) ag) (az<|dC<|.bl cx) aB) (A3 w Zo Zk y)
def mw(w:Ad)(Zo Zk:Sd)(y:DX):ar:=ai (aq (oH (al<|ah bW (ah av (ah av (ac 0) ¬0)<|ah av (ac 1) ¬1) ¬0) (¬0) ¬1)<|af 4) (tF w Zo Zk y)
def B6(w:Ad)(Zo Zk:Sd)(y:DX):ar:=ai (cW (dR<|aa (ah ba (ah av (ac 0) ¬3) ¬1) ag) (af 3)<|mw w Zo Zk y) (az<|dC<|.bl cx)
def rN(w:Ad)(Zo Zk:Sd)(y:DX):ar:=aE (fU<|cm<|ao<|aj Zo y 3<|aa (ac 0)<|aa (ac 4)<|aa (ac 5) ag) (az<|dC<|.bl cx) aB
def sx(w:Ad)(Zo Zk:Sd)(y:DX):ar:=aE (P9 (fU<|cm<|ao<|aj (kM w) y 3<|aa (ac 0)<|aa (ac 5)<|aa (ac 6) ag)<|fU<|cm<|ao<|aj Zk y 3<|aa (ac 0)<|aa (ac 7)<|aa (ah ba (ac 5)<|aU<|aa (ac 6) ag) ag) (az<|dC<|.bl cx) aB
def q_(w:Ad)(Zo Zk:Sd)(y:DX):ar:=ai (aq (ah av (ao<|bv<|aa (ah av (ac 4) ¬3)<|aa (ah av (ac 4) ¬2) ag)<|ac 6)<|af 7) (sx w Zo Zk y)
def qX(w:Ad)(Zo Zk:Sd)(y:DX):ar:=ai (aq (oH (al<|ah bW (ah av (ah av (ac 0) ¬0)<|ah av (ac 4) ¬1) ¬0) (¬0) ¬1)<|af 6) (q_ w Zo Zk y)
def B7(w:Ad)(Zo Zk:Sd)(y:DX):ar:=aq (ac 8) (cY (ah av (ac 0) ¬0)<|ah av (ac 4) ¬1)
def lN(w:Ad)(Zo Zk:Sd)(y:DX):ar:=ai (aE (fU<|cm<|ao<|aj (kM w) y 3<|aa (ac 0)<|aa (ac 5)<|aa (ac 8) ag) (az<|dC<|.bl cx) aB) (B7 w Zo Zk y)
def lg(w:Ad)(Zo Zk:Sd)(y:DX):ar:=ai (aq (ao<|aj (vg w) y 2<|aa (ac 0)<|aa (ac 4) ag)<|af 8) (lN w Zo Zk y)
def li(w:Ad)(Zo Zk:Sd)(y:DX):ar:=aE (al<|ah bW (ah av (ac 4) ¬0) ¬"if") (qX w Zo Zk y) (lg w Zo Zk y)
def qZ(w:Ad)(Zo Zk:Sd)(y:DX):ar:=aE (al<|ah bW (ah av (ac 4) ¬0) ¬"again") (rN w Zo Zk y) (li w Zo Zk y)
def nX(w:Ad)(Zo Zk:Sd)(y:DX):ar:=ai (aq (ah ba (ac 2)<|aU<|aa (ac 3) ag)<|af 5) (qZ w Zo Zk y)
def AX(w:Ad)(Zo Zk:Sd)(y:DX):ar:=ai (cW (vT<|aa (ac 1) ag) (dm 2<|aM (af 3)<|aM (af 4) dg)<|nX w Zo Zk y) (az<|dC<|.bl true)
mutual
noncomputable def Zo(ad:Ad):Nat->Sd
 |0=>λ_ _ _ _=>False
 |n+1=>aF ["gone","row","place","turn","look"] (B6 ad (Zo ad n)<|Zk ad n)
noncomputable def Zk(ad:Ad):Nat->Sd
 |0=>λ_ _ _ _=>False
 |n+1=>aF ["gone","rows","place","at","row","here","look","inner","number"] (AX ad (Zo ad n)<|Zk ad n)
end
theorem Sl{n:Nat}:Zo ad (n+1) [a,c,b] M Q E=B6 ad (Zo ad n) (Zk ad n) (aG E) Q⁻¹ [ap a,ap c,ap b,ca,ca] M:=rfl
theorem TD{n:Nat}:Zk ad (n+1) [a,c,b] M Q E=AX ad (Zo ad n) (Zk ad n) (aG E) Q⁻¹ [ap a,ap c,ap b,ca,ca,ca,ca,ca,ca] M:=rfl
def Bw(w:Ad)(y:DX):ar:=az (aU<|aa (ah av (ac 3) ¬2)<|aa (dC .non) ag)
def yA(w:Ad)(y:DX):ar:=az (aU<|aa (ah av (ac 3) ¬2)<|aa (bi bP<|aa (ao<|aO (bz<|ah av (ac 0) ¬1) ["name"] [3] (af 0) cS<|ah av (ah av (ac 1) ¬0)<|ac 0) ag) ag)
def AJ(w:Ad)(y:DX):ar:=ai (aE (fU<|cm<|ao<|aj (Zk w 24) y 3<|aa (ac 3)<|aa (ah av (ac 0) ¬3)<|aa (aU ag) ag) (Bw w y) aB) (yA w y)
def Ce(w:Ad)(y:DX):ar:=ai (aq (bv<|aa (gQ<|aa (ah av (ac 0) ¬1)<|aa (ah av (ac 1) ¬0) ag)<|aa (ah av (ac 1) ¬1)<|aa (bv ag)<|aa (ac 2)<|aa (ah av (ac 0) ¬0) ag)<|af 3) (AJ w y)
def oK(ad:Ad):Sd:=aF ["plan","stand","most","gone"] (Ce ad)
theorem Sh:oK ad [a,c,b] M Q E=Ce ad (aG E) Q⁻¹ [ap a,ap c,ap b,ca] M:=rfl
def Gb(w:Ad)(y:DX):ar:=az (bi bP<|aa (ao<|aO (bz<|ac 0) ["row"] [] (af 0) (al<|ah iQ (ah av (ac 0) ¬0)<|ao<|bv<|aa (¬"if")<|aa (¬"again") ag)<|ac 0) ag)
def wx(ad:Ad):Sd:=aF ["rows"] (Gb ad)
theorem u_q41:wx ad [a] M Q E=Gb ad (aG E) Q⁻¹ [ap a] M:=rfl
def ub(w:Ad)(y:DX):ar:=az (aU<|aa (ah av (ah av (ac 4) ¬0)<|ac 5)<|aa (ah av (ah av (ac 4) ¬1)<|ac 5) ag)
def mx(w:Ad)(y:DX):ar:=ai (aq (Ix iJ (ah av (ac 0) ¬1)<|aa (ah av (ac 0) ¬4) ag)<|af 5) (ub w y)
def ly(w:Ad)(y:DX):ar:=ai (aE (al<|ah wl (dC .non)<|ac 4) (az<|dC .non) aB) (mx w y)
def Bj(w:Ad)(y:DX):ar:=ai (cq (dj 4<|aO (bz<|ao<|bv<|aa (ac 1)<|aa (ac 2) ag) ["stand"] [0,3] (af 0) cS<|ah av (qp<|aj (oK w) iD 3<|aa (ac 1)<|aa (ac 0)<|aa (ac 2) ag) ¬1) 4) (ly w y)
def n_(ad:Ad):Sd:=aF ["plan","sound","faulty","most","last","at"] (Bj ad)
theorem SE:n_ ad [a,c,b,e] M Q E=Bj ad (aG E) Q⁻¹ [ap a,ap c,ap b,ap e,ca,ca] M:=rfl
def BY(w:Ad)(y:DX):ar:=az (ah gb (ao<|ah ba (ah ba (ac 2) ¬1)<|ao<|aj (aZ w) y 2<|aa (ac 0)<|aa (ah pA (ac 1) ¬1) ag)<|ac 1)
def oG(ad:Ad):Sd:=aF ["pot","m","number"] (BY ad)
theorem SH:oG ad [a,c,b] M Q E=BY ad (aG E) Q⁻¹ [ap a,ap c,ap b] M:=rfl
def m4(w:Ad)(y:DX):ar:=aq (ah ba (ao<|Ee (ac 0) cI<|fk ¬3)<|aU<|aa (ah ba (ac 5)<|aU<|aa (ac 7) ag)<|aa (ah av (ac 0) ¬4) ag) (af 0)
def mq(w:Ad)(y:DX):ar:=ai (aq (aU<|aa (¬"sum")<|aa (ah av (ac 0) ¬4)<|aa (ah av (ac 0) ¬4)<|aa (ac 4) ag)<|af 7) (m4 w y)
def lU(w:Ad)(y:DX):ar:=ai (aE (al<|ah bW (ah av (ac 6) ¬0)<|ah av (ac 6) ¬1) (mq w y) aB) (az<|ac 0)
def lW(w:Ad)(y:DX):ar:=ai (aq (ao<|aj (n_ w) y 4<|aa (ac 0)<|aa (ac 1)<|aa (ac 2)<|aa (ac 3) ag)<|af 6) (lU w y)
def lT(w:Ad)(y:DX):ar:=ai (aq (ah ba (ao<|Ee (ac 0) cI<|fk ¬3)<|aU<|aa (ac 5)<|aa (ah av (ac 0) ¬4) ag)<|af 0) (lW w y)
def Ag(w:Ad)(y:DX):ar:=ai (aq (bi bP<|aa (ao<|aO (bz<|ao<|aj (wx w) y 1<|aa (ah av (ac 0) ¬3) ag) ["row"] [4] (af 0) (al<|ah pO (ah av (ac 0) ¬1)<|ac 1)<|ac 0) ag)<|af 5) (lT w y)
def zT(ad:Ad):Sd:=aF ["plan","sound","faulty","most","name","rows","both","more"] (Ag ad)
theorem TX:zT ad [b,e,a,c,f] M Q E=Ag ad (aG E) Q⁻¹ [ap b,ap e,ap a,ap c,ap f,ca,ca,ca] M:=rfl
def rK(w:Ad)(y:DX):ar:=aq (aU<|aa (aU<|aa (¬"take")<|aa (ah av (ac 2) ¬0)<|aa (¬0) ag)<|aa (aU<|aa (¬"sum")<|aa (ah av (ac 0) ¬4)<|aa (ah av (ac 0) ¬4)<|aa (ah av (ac 2) ¬0) ag) ag) (af 1)
def nh(w:Ad)(y:DX):ar:=az (ah ba (ao<|Ee (ac 0) cI<|fk ¬3)<|aU<|aa (ao<|ah ba (ah av (ac 0) ¬3)<|ac 1)<|aa (ah av (ac 0) ¬4) ag)
def tU(w:Ad)(y:DX):ar:=ai (aE (al<|ah pO (ac 2)<|ao<|bv ag) (rK w y) aB) (nh w y)
def s_(w:Ad)(y:DX):ar:=ai (cq (dj 2<|aO (bz<|ah av (ac 0) ¬1) ["one"] [0] (af 0) (al<|ah pO (ac 0)<|ah av (ac 1) ¬4)<|ac 0) 2) (tU w y)
def JC(w:Ad)(y:DX):ar:=ai (aq (aU<|aa (aU<|aa (¬"take")<|aa (ah av (ac 0) ¬4)<|aa (¬0) ag) ag)<|af 1) (s_ w y)
def IL(ad:Ad):Sd:=aF ["plan","more","rest"] (JC ad)
theorem u_q9:IL ad [a] M Q E=JC ad (aG E) Q⁻¹ [ap a,ca,ca] M:=rfl
def r_(w:Ad)(y:DX):ar:=aq (ao<|aj (oG w) y 3<|aa (ac 0)<|aa (ah av (ac 3) ¬0)<|aa (ah av (ac 5)<|ac 7) ag) (cY (ac 5)<|ac 7)
def tW(w:Ad)(y:DX):ar:=aq (ao<|ah ba (ac 8)<|bi Gv<|aa (bi cu<|aa (ac 6) ag)<|aa (ah jg (¬2)<|ac 2) ag) (af 8)
def qQ(w:Ad)(y:DX):ar:=ai (aq (ao<|aj (oG w) y 3<|aa (ac 0)<|aa (ah av (ac 3) ¬0)<|aa (ah av (ac 6) ¬0) ag)<|cY (ac 6) ¬0) (tW w y)
def tL(w:Ad)(y:DX):ar:=aq (ao<|aj (oG w) y 3<|aa (ac 0)<|aa (ah av (ac 3) ¬0)<|aa (ah av (ah av (ac 4) ¬0)<|ac 10) ag) (cY (ac 5)<|ac 10)
def sV(w:Ad)(y:DX):ar:=aq (ao<|aj (oG w) y 3<|aa (ac 0)<|aa (ah av (ac 3) ¬0)<|aa (ah av (ah av (ac 4) ¬1)<|ac 10) ag) (cY (ac 6)<|ac 10)
def t_(w:Ad)(y:DX):ar:=ai (aq (ah pA (ac 10)<|bi cu<|aa (ac 5) ag)<|af 10) (sV w y)
def qW(w:Ad)(y:DX):ar:=aE (al<|ah E6 (ac 10)<|bi cu<|aa (ac 5) ag) (tL w y) (t_ w y)
def rY(w:Ad)(y:DX):ar:=ai (aq (ao<|aj (aZ w) y 2<|aa (ac 0)<|aa (ac 8) ag)<|af 10) (qW w y)
def yW(w:Ad)(y:DX):ar:=aq (ah ba (ao<|Ee (ac 3) cI<|fk ¬3)<|aU<|aa (ao<|aj (wx w) y 1<|aa (ah av (ac 3) ¬3) ag)<|aa (ah av (ac 3) ¬4) ag) (af 3)
def ou(w:Ad)(y:DX):ar:=aq (ao<|aj (zT w) y 5<|aa (ac 3)<|aa (ac 4)<|aa (ac 11)<|aa (ac 12)<|aa (ah av (ah av (ac 3) ¬1)<|ac 7) ag) (af 3)
def vR(w:Ad)(y:DX):ar:=aq (ao<|aj (IL w) y 1<|aa (ac 3) ag) (af 3)
def jD(w:Ad)(y:DX):ar:=aE (al<|ah E6 (ac 7)<|bi cu<|aa (ac 5) ag) (ou w y) (vR w y)
def i_(w:Ad)(y:DX):ar:=az (aU<|aa (ac 3)<|aa (ac 4)<|aa (ac 11)<|aa (ac 12) ag)
def oB(w:Ad)(y:DX):ar:=ai (aE (al<|ah bW (ah av (ac 13) ¬0)<|ah av (ac 13) ¬1) (jD w y) aB) (i_ w y)
def iZ(w:Ad)(y:DX):ar:=ai (aq (ao<|aj (n_ w) y 4<|aa (ac 3)<|aa (ac 4)<|aa (ac 11)<|aa (ac 12) ag)<|af 13) (oB w y)
def je(w:Ad)(y:DX):ar:=ai (aE (al<|ah kU (ao<|aj (n_ w) y 4<|aa (ac 3)<|aa (ac 4)<|aa (ac 11)<|aa (ah pA (ac 12) ¬4) ag)<|dC .non) (yW w y) aB) (iZ w y)
def om(w:Ad)(y:DX):ar:=ai (aq (ah ba (¬30)<|ao<|aj (aZ w) y 2<|aa (ac 0)<|aa (¬20) ag)<|af 12) (je w y)
def oX(w:Ad)(y:DX):ar:=ai (aq (aU<|aa (bi bP<|aa (ac 5) ag)<|aa (bi bP<|aa (ac 6) ag) ag)<|af 11) (om w y)
def jy(w:Ad)(y:DX):ar:=ai (cW (dR<|aa (ah pA (ac 2) ¬1) ag) (af 9)<|rY w y) (oX w y)
def nT(w:Ad)(y:DX):ar:=ai (aE (al<|ah E6 (ac 7)<|bi cu<|aa (ac 5) ag) (r_ w y)<|qQ w y) (jy w y)
def oa(w:Ad)(y:DX):ar:=ai (aq (bi cu<|aa (ac 5) ag)<|af 8) (nT w y)
def oV(w:Ad)(y:DX):ar:=ai (aq (ao<|aj (aZ w) y 2<|aa (ac 0)<|aa (ah jg (¬4)<|bi cu<|aa (ac 5) ag) ag)<|af 7) (oa w y)
def nL(w:Ad)(y:DX):ar:=ai (aq (bi eJ<|aa (ah av (ac 4) ¬1) ag)<|af 6) (oV w y)
def mR(w:Ad)(y:DX):ar:=ai (aq (bi eJ<|aa (ah av (ac 4) ¬0) ag)<|af 5) (nL w y)
def on(w:Ad)(y:DX):ar:=ai (aq (ao<|aj (z0 w) y 2<|aa (ac 0)<|aa (ac 3) ag)<|af 4) (mR w y)
def oP(w:Ad)(y:DX):ar:=ai (aq (ao<|ah ba (ah ba (ao<|Ee (ac 3) cI<|fk ¬2)<|aU<|aa (bi Ji<|aa (¬1)<|aa (ah av (ac 3) ¬2) ag) ag)<|ao<|Ee (ac 3) (fk ¬3) cI)<|af 3) (on w y)
def Co(w:Ad)(y:DX):ar:=ai (aq (ao<|aj (yw w) y 2<|aa (ac 0)<|aa (ac 1) ag)<|af 3) (oP w y)
def An(ad:Ad):Sd:=aF ["pot","most_rows","few","plan","sound","numbers","pieces","first","some","k","at","faulty","most","both"] (Co ad)
theorem TC:An ad [a,c,b] M Q E=Co ad (aG E) Q⁻¹ [ap a,ap c,ap b,ca,ca,ca,ca,ca,ca,ca,ca,ca,ca,ca] M:=rfl
def rG(w:Ad)(y:DX):ar:=az (ah ba (ac 5)<|ao<|aO (dR<|aa (ah av (ac 1) ¬2) ag) ["k"] [2,3] (af 0) (al<|ah pO (ah av (ah av (ac 1) ¬1)<|ac 0)<|ah av (ah av (ac 2) ¬1)<|ac 0)<|ac 0)
def qT(w:Ad)(y:DX):ar:=ai (cq (dj 5<|aO (vH<|aa (ah av (ac 1) ¬1)<|aa (ah av (ac 2) ¬0)<|aa (ah av (ac 3) ¬0) ag) ["name","one","other"] [] (dm 3<|aM (af 0)<|aM (af 1)<|aM (af 2) dg) (al<|ah pO (ac 1)<|ac 2)<|ac 0) 5) (rG w y)
def yH(w:Ad)(y:DX):ar:=ai (aq (ac 0)<|dm 4<|aM (af 1)<|aM (af 2)<|aM (af 3)<|aM (af 4) dg) (qT w y)
def qB(ad:Ad):Sd:=aF ["case","plan","sound","faulty","most","found"] (yH ad)
theorem SX:qB ad [a] M Q E=yH ad (aG E) Q⁻¹ [ap a,ca,ca,ca,ca,ca] M:=rfl
def iT(w:Ad)(y:DX):ar:=a_ (iS "list" bj (ac 6)<|aa (oH (al<|ah wl (ac 7)<|ac 1) (ac 9)<|ac 8) ag)
def sg(w:Ad)(y:DX):ar:=az (aU<|aa (bi bP<|aa (ac 6) ag)<|aa (bi bP<|aa (ac 10) ag) ag)
def tX(w:Ad)(y:DX):ar:=ai (cq (dj 10<|aO (dR<|aa (ah av (ac 2) ¬2) ag) ["k"] [3,1,4] (af 0) cS<|oH (al<|ah wl (ac 0)<|ac 2) (ah av (ah av (ac 3) ¬1)<|ac 0)<|ah av (ah av (ac 1) ¬1)<|ac 0) 10) (sg w y)
def rH(w:Ad)(y:DX):ar:=ai (cW (vH<|aa (ah av (ac 2) ¬1)<|aa (ah av (ac 3) ¬0)<|aa (ah av (ac 4) ¬0) ag) (dm 3<|aM (af 7)<|aM (af 8)<|aM (af 9) dg)<|iT w y) (tX w y)
def AN(w:Ad)(y:DX):ar:=ai (aq (ac 0)<|dm 4<|aM (af 2)<|aM (af 3)<|aM (af 4)<|aM (af 5) dg) (ai (aq (bv ag)<|af 6)<|rH w y)
def BZ(ad:Ad):Sd:=aF ["case","mix","plan","sound","faulty","most","numbers","name","one","other","pieces"] (AN ad)
theorem S4:BZ ad [a,b] M Q E=AN ad (aG E) Q⁻¹ [ap a,ap b,ca,ca,ca,ca,ca,ca,ca,ca,ca] M:=rfl
def my(w:Ad)(y:DX):ar:=aq (ao<|ah ba (ac 1)<|ao<|aO (bz<|ac 1) ["one"] [2] (af 0) cS<|ao<|ah ba (ac 0)<|ao<|bv<|aa (ac 1) ag) (af 1)
def CA(w:Ad)(y:DX):ar:=ai (cW (dR<|aa (ac 0) ag) (af 2)<|my w y) (az<|ac 1)
def G4(w:Ad)(y:DX):ar:=ai (aq (ao<|bv<|aa (ao<|bv ag) ag)<|af 1) (CA w y)
def BD(ad:Ad):Sd:=aF ["many","found","k"] (G4 ad)
theorem u_q14:BD ad [a] M Q E=G4 ad (aG E) Q⁻¹ [ap a,ca,ca] M:=rfl
def rf(w:Ad)(y:DX):ar:=aq (ah av (ao<|bv<|aa (¬"sound")<|aa (¬"faulty") ag)<|Ix jo (ac 7)<|aa (ah av (ac 10)<|ac 6) ag) (af 11)
def nF(w:Ad)(y:DX):ar:=aq (ac 11) (cY (ac 8)<|bi bP<|aa (ac 9) ag)
def wE(w:Ad)(y:DX):ar:=ai (aE (kZ (al<|ah fc (ac 10)<|dC .non)<|al<|ah wl (ah av (ac 10)<|ac 6)<|ac 7) (rf w y) aB) (nF w y)
def xH(w:Ad)(y:DX):ar:=ai (aq (¬"other")<|af 11) (wE w y)
def jO(w:Ad)(y:DX):ar:=ai (aq (ah av (qp<|aj (oK w) y 3<|aa (ac 1)<|aa (ao<|aj (BZ w) y 2<|aa (ac 0)<|aa (ao<|aO (bz<|ac 9) ["k"] [5] (af 0) cS<|ah av (ac 1)<|ac 0) ag)<|aa (ac 4) ag) ¬1)<|af 10) (xH w y)
def FZ(w:Ad)(y:DX):ar:=ai (cW (bz<|ao<|aj (BD w) y 1<|aa (bi cu<|aa (ac 5) ag) ag) (af 9)<|jO w y) (az<|ac 8)
def Fc(w:Ad)(y:DX):ar:=ai (aq (ao<|aj (n_ w) y 4<|aa (ac 1)<|aa (ac 2)<|aa (ac 3)<|aa (ac 4) ag)<|af 7) (ai (aq Nh<|af 8)<|FZ w y)
def x_(w:Ad)(y:DX):ar:=ai (aq (Ix iJ (ah av (ac 1) ¬1)<|aa (ah av (ac 1) ¬4) ag)<|af 6) (Fc w y)
def F5(w:Ad)(y:DX):ar:=ai (aq (ao<|aj (qB w) y 1<|aa (ac 0) ag)<|af 5) (x_ w y)
def Os(w:Ad)(y:DX):ar:=ai (aq (ac 0)<|dm 4<|aM (af 1)<|aM (af 2)<|aM (af 3)<|aM (af 4) dg) (F5 w y)
def Jp(ad:Ad):Sd:=aF ["case","plan","sound","faulty","most","some","at","both","found","numbers","end","word"] (Os ad)
theorem u_q6:Jp ad [a] M Q E=Os ad (aG E) Q⁻¹ [ap a,ca,ca,ca,ca,ca,ca,ca,ca,ca,ca,ca] M:=rfl
def zd(w:Ad)(y:DX):ar:=az (ah bW (ao<|aO (bz<|ac 1) ["k"] [0] (af 0) (al<|ah iQ (ac 0)<|ac 1)<|ac 0)<|ao<|bv ag)
def Cn(ad:Ad):Sd:=aF ["one","other"] (zd ad)
theorem SG:Cn ad [a,b] M Q E=zd ad (aG E) Q⁻¹ [ap a,ap b] M:=rfl
def sQ(w:Ad)(y:DX):ar:=a_ (iS "list" bj (ac 1)<|aa (ao<|bi eJ<|aa (ac 2) ag) ag)
def iY(w:Ad)(y:DX):ar:=aE (al<|ah bW (ao<|aO (bz<|ac 0) ["other"] [2] (af 0) (kZ (al<|ah pO (ac 0)<|ac 1)<|cm<|ao<|aj (Cn w) iD 2<|aa (ac 1)<|aa (ac 0) ag) ¬1)<|ao<|bv ag) (sQ w y) aB
def lY(w:Ad)(y:DX):ar:=ai (cW (bz<|ac 0) (af 2)<|iY w y) (az<|bi dI<|aa (ac 1) ag)
def zc(w:Ad)(y:DX):ar:=ai (aq (bv ag)<|af 1) (lY w y)
def Bt(ad:Ad):Sd:=aF ["lists","found","one"] (zc ad)
theorem Rz:Bt ad [a] M Q E=zc ad (aG E) Q⁻¹ [ap a,ca,ca] M:=rfl
def mh(w:Ad)(y:DX):ar:=az (aO (bz<|ac 1) ["one"] [2] (af 0) cS<|ao<|aO (bz<|ac 0) ["k"] [1] (af 0) cS<|ah av (ac 1)<|ac 0)
def Cw(w:Ad)(y:DX):ar:=ai (aq (ao<|aj (qB w) y 1<|aa (ac 0) ag)<|af 2) (mh w y)
def BX(ad:Ad):Sd:=aF ["case","lists","some"] (Cw ad)
theorem Tx:BX ad [a,b] M Q E=Cw ad (aG E) Q⁻¹ [ap a,ap b,ca] M:=rfl
def Bu(w:Ad)(Zs:Sd)(y:DX):ar:=az (ww (bi dM<|aa (ac 0)<|aa (dC<|.ty "bool") ag)<|ah bW (ac 0)<|ac 1)
def Ac(w:Ad)(Zs:Sd)(y:DX):ar:=az (ww (bi dM<|aa (ac 0)<|aa (dC<|.ty "int") ag)<|ww (LF<|bi dM<|aa (ac 0)<|aa (dC<|.ty "bool") ag)<|ah bW (ac 0)<|ac 1)
def AU(w:Ad)(Zs:Sd)(y:DX):ar:=az (ww (bi dM<|aa (ac 0)<|aa (dC<|.ty "str") ag)<|ah bW (ac 0)<|ac 1)
def BW(w:Ad)(Zs:Sd)(y:DX):ar:=az (bi Nx<|aa (ao<|aO (RP<|aa (ac 0)<|aa (ac 1) ag) ["one","other"] [] (dm 2<|aM (af 0)<|aM (af 1) dg) cS<|ao<|aj Zs iD 2<|aa (ac 0)<|aa (ac 1) ag) ag)
def yD(w:Ad)(Zs:Sd)(y:DX):ar:=ai (aE (al<|ah pO (bi cu<|aa (ac 0) ag)<|bi cu<|aa (ac 1) ag) (az<|dC<|.bl cx) aB) (BW w Zs y)
def zG(w:Ad)(Zs:Sd)(y:DX):ar:=ai (aE (P9 (al<|ah pO (bi dM<|aa (ac 1)<|aa (dC<|.ty "tuple") ag)<|bi dM<|aa (ac 0)<|aa (dC<|.ty "tuple") ag)<|al<|ah pO (bi dM<|aa (ac 1)<|aa (dC<|.ty "list") ag)<|bi dM<|aa (ac 0)<|aa (dC<|.ty "list") ag) (az<|dC<|.bl cx) aB) (yD w Zs y)
def Cd(w:Ad)(Zs:Sd)(y:DX):ar:=ai (aE (cm<|bi dM<|aa (ac 1)<|aa (dC<|.ty "str") ag) (AU w Zs y) aB) (zG w Zs y)
def A1(w:Ad)(Zs:Sd)(y:DX):ar:=ai (aE (cm<|bi dM<|aa (ac 1)<|aa (dC<|.ty "int") ag) (Ac w Zs y) aB) (Cd w Zs y)
def Ae(w:Ad)(Zs:Sd)(y:DX):ar:=ai (aE (cm<|bi dM<|aa (ac 1)<|aa (dC<|.ty "bool") ag) (Bu w Zs y) aB) (A1 w Zs y)
def gG(w:Ad)(Zs:Sd)(y:DX):ar:=ai (aE (al<|ah kU (ac 1)<|dC .non) (az<|ah kU (ac 0)<|dC .non) aB) (Ae w Zs y)
def Zs(ad:Ad):Nat->Sd
 |0=>λ_ _ _ _=>False
 |n+1=>aF ["found","due"] (gG ad<|Zs ad n)
theorem km{n:Nat}:Zs ad (n+1) [a,b] M Q E=gG ad (Zs ad n) (aG E) Q⁻¹ [ap a,ap b] M:=rfl
def lQ(w:Ad)(y:DX):ar:=az (aj (Zs w 24) y 2<|aa (aj (Dx w) y 2<|aa (ac 2)<|aa (¬64) ag)<|aa (ac 6) ag)
def m5(w:Ad)(y:DX):ar:=ai (a_<|iS "list" ju (ac 7) ag) (lQ w y)
def lb(w:Ad)(y:DX):ar:=ai (cW (bz<|ac 7) (af 8)<|a_<|iS "list" tZ (ac 8) ag) (m5 w y)
def lc(w:Ad)(y:DX):ar:=ai (aE (fU<|cm<|ao<|aj (Zs w 24) y 2<|aa (ac 7)<|aa (ac 6) ag) (az<|dC<|.bl cx) aB) (lb w y)
def lG(w:Ad)(y:DX):ar:=ai (aq (xR (Dx w) y 2 (500)<|aa (ac 2) ag)<|af 7) (lc w y)
def lh(w:Ad)(y:DX):ar:=ai (aq (ao<|aj (BX w) y 2<|aa (ac 2)<|aa (ao<|aj (Bt w) y 1<|aa (ac 5) ag) ag)<|af 6) (lG w y)
def m9(w:Ad)(y:DX):ar:=ai (cq (dj 5<|aO (Aj<|ac 3) ["one"] [3,4] (af 0) (al<|ah bW (ah Eh (ac 1)<|ac 0) ¬"sound")<|bi bP<|aa (ao<|aO (dR<|aa (ac 2) ag) ["k"] [0] (af 0) (al<|ah iQ (ac 0)<|ac 1)<|ac 0) ag) 5) (lh w y)
def ms(w:Ad)(y:DX):ar:=ai (aq (bi cu<|aa (ao<|aj (qB w) y 1<|aa (ac 2) ag) ag)<|af 4) (m9 w y)
def lP(w:Ad)(y:DX):ar:=ai (aq (GP<|aj (Jp w) y 1<|aa (ac 2) ag)<|af 3) (ms w y)
def j7(w:Ad)(y:DX):ar:=ai (aq (ao<|aj (An w) y 3<|aa (ac 1)<|aa (¬24)<|aa (ah ba (¬1)<|ao<|aj (aZ w) y 2<|aa (ac 1)<|aa (¬5) ag) ag)<|af 2) (lP w y)
def zn(w:Ad)(y:DX):ar:=ai (aq (aj (Bz w) y 1<|aa (ac 0) ag)<|af 1) (j7 w y)
def Fn(ad:Ad):Sd:=aF ["script","pot","case","verdicts","many","rests","due","found","mix"] (zn ad)
theorem Rq:Fn ad [a] M Q E=zn ad (aG E) Q⁻¹ [ap a,ca,ca,ca,ca,ca,ca,ca,ca] M:=rfl
end
set_option genInjectivity false in
structure En(P:eH)(w:fx)(K:Uh)(mg:abg)(base:g3)(ad:Ad):Prop where
 u0:Cls K ad.C_Ends
 u1:mg "Ends"=ap (.ref ad.C_Ends)
 u2:Cls K ad.C_Going
 u3:mg "Going"=ap (.ref ad.C_Going)
 u4:Cls K ad.C_Outcome
 u5:mg "Outcome"=ap (.ref ad.C_Outcome)
 u6:Cls K ad.C_Walk
 u7:mg "Walk"=ap (.ref ad.C_Walk)
 u8:NoAttr K ad.C_Ends "count"
 u9:NoAttr K ad.C_Ends "limit"
 u10:NoAttr K ad.C_Going "left"
 u11:NoAttr K ad.C_Going "numbers"
 u12:NoAttr K ad.C_Going "pieces"
 u13:NoAttr K ad.C_Going "todo"
 u14:NoAttr K ad.C_Going "unsettled"
 u15:NoAttr K ad.C_Outcome "faulty"
 u16:NoAttr K ad.C_Outcome "sound"
 u17:NoAttr K ad.C_Outcome "verdict"
 u18:NoAttr K ad.C_Walk "most"
 u19:NoAttr K ad.C_Walk "numbers"
 u20:NoAttr K ad.C_Walk "pieces"
 u21:NoAttr K ad.C_Walk "plan"
 u22:NoAttr K ad.C_Walk "steps"
 u23:ExcAt K ad.C_Dry
 u24:mg "Dry"=ap (.ref ad.C_Dry)
 u25:ExcAt K ad.C_NoCase
 u26:mg "NoCase"=ap (.ref ad.C_NoCase)
 u27:ExcAt K ad.C_TooMany
 u28:mg "TooMany"=ap (.ref ad.C_TooMany)
 u29:mg "all"=ca
 u30:mg "any"=ca
 u31:mg "bool"=ca
 u32:mg "dict"=ca
 u33:mg "enumerate"=ca
 u34:mg "int"=ca
 u35:mg "isinstance"=ca
 u36:mg "len"=ca
 u37:mg "list"=ca
 u38:mg "max"=ca
 u39:mg "min"=ca
 u40:mg "range"=ca
 u41:mg "reversed"=ca
 u42:mg "sorted"=ca
 u43:mg "str"=ca
 u44:mg "tuple"=ca
 u45:mg "zip"=ca
 f1:GI K ad.C_Walk "__init__" "Walk.__init__" Nc ad.a1 ad.d1 ["self","plan","stand","most"]
 f2:GM K ad.C_Walk "note_step" "Walk.note_step" T5 ad.a2 ad.d2 ["self","place","number"]
 f3:GM K ad.C_Walk "look" "Walk.look" MV ad.a3 ad.d3 ["self","place","name"]
 f4:GF K mg "run" Nq ad.a4 ad.d4 ["plan","stand","most"]
 f5:GF K mg "mark" N7 ad.a5 ad.d5 ["plan","stand","most"]
 f6:GF K mg "do_rows" Nt ad.a6 ad.d6 ["walk","rows","place"]
 f7:GA K mg "do_row_runs" "do_row" LW ad.a7 ad.d7 ["walk","row","place"]
 f8:GF K mg "do_if" LV ad.a8 ad.d8 ["walk","row","place"]
 f9:GF K mg "do_again" N9 ad.a9 ad.d9 ["walk","row","place"]
 f10:GF K mg "number_of" LJ ad.a10 ad.d10 ["plan","numbers","pieces","row"]
 f11:GF K mg "piece_read" MG ad.a11 ad.d11 ["plan","numbers","row"]
 f12:GF K mg "joined" LY ad.a12 ad.d12 ["word","y","z","wheel"]
 f13:GF K mg "all_things" LN ad.a13 ad.d13 ["plan"]
 f14:GF K mg "in_order" Me ad.a14 ad.d14 ["plan","things"]
 f15:GF K mg "number_in" Mz ad.a15 ad.d15 ["plan","stand","thing"]
 f16:GF K mg "names_read" MF ad.a16 ad.d16 ["row"]
 f17:GF K mg "unlike" LZ ad.a17 ad.d17 ["plan","one","other"]
 f18:GF K mg "marks" Ms ad.a18 ad.d18 ["case"]
 f19:GF K mg "unlike_of" Mo ad.a19 ad.d19 ["case"]
 f20:GF K mg "verdict_of" Nr ad.a20 ad.d20 ["two","one"]
 f21:GI K ad.C_Going "__init__" "Going.__init__" T4 ad.a21 ad.d21 ["self","numbers","pieces","unsettled","todo","left"]
 f22:GM K ad.C_Going "settled" "Going.settled" SQ ad.a22 ad.d22 ["self","thing","number"]
 f23:GI K ad.C_Ends "__init__" "Ends.__init__" Sc ad.a23 ad.d23 ["self","limit"]
 f24:GM K ad.C_Ends "one_more" "Ends.one_more" RN ad.a24 ad.d24 ["self"]
 f25:GF K mg "start" N0 ad.a25 ad.d25 ["case"]
 f26:GF K mg "put_ahead" N8 ad.a26 ad.d26 ["rows","todo"]
 f27:GF K mg "go_on" Mb ad.a27 ad.d27 ["plan","going"]
 f28:GF K mg "asked_by" Nw ad.a28 ad.d28 ["plan","going","row"]
 f29:GA K mg "do_row_trees" "do_row" Mr ad.a29 ad.d29 ["plan","going","row"]
 f30:GF K mg "mark_of" MX ad.a30 ad.d30 ["plan","going"]
 f31:GF K mg "both_ways" Nk ad.a31 ad.d31 ["case","going","thing"]
 f32:GV K mg "tree" Mh ad.a32 ad.d32 ["case","limit"] (500)
 f33:GF K mg "grown" LO ad.a33 ad.d33 ["case","going","ends"]
 f34:GI K ad.C_Outcome "__init__" "Outcome.__init__" RZ ad.a34 ad.d34 ["self","verdict","sound","faulty"]
 f35:GF K mg "outcomes" ME ad.a35 ad.d35 ["case","limit"]
 f36:GF K mg "numbers_of" MH ad.a36 ad.d36 ["bits"]
 f37:GF K mg "mix_of" No ad.a37 ad.d37 ["things","bits"]
 f38:GV K mg "least_remedies" RV ad.a38 ad.d38 ["case","limit"] (500)
 f39:GF K mg "least_of" LP ad.a39 ad.d39 ["many"]
 f40:GF K mg "mixes_in_order" RB ad.a40 ad.d40 ["case","many"]
 f41:GF K mg "_law_stirred" LL ad.a41 ad.d41 ["cell","turn"]
 f42:GF K mg "_law_pot" L_ ad.a42 ad.d42 ["script"]
 f43:GF K mg "_law_draw" Md ad.a43 ad.d43 ["pot","many"]
 f44:GF K mg "_law_names" LG ad.a44 ad.d44 ["pot","many"]
 f45:GF K mg "_law_row" Mq ad.a45 ad.d45 ["pot","told"]
 f46:GF K mg "_law_block" Mw ad.a46 ad.d46 ["pot","told","room","deep"]
 f47:GF K mg "_law_rows" LR ad.a47 ad.d47 ["pot","told","room","deep","most"]
 f48:GF K mg "_law_plan" MJ ad.a48 ad.d48 ["pot","most"]
 f49:GF K mg "_law_stand" Mp ad.a49 ad.d49 ["pot","plan"]
 f50:GF K mg "_law_becomes" Nb ad.a50 ad.d50 ["gone","row"]
 f51:GF K mg "_law_stepped" Nj ad.a51 ad.d51 ["gone","place","number"]
 f52:GF K mg "_law_rounds" Na ad.a52 ad.d52 ["gone","row","place"]
 f53:GF K mg "_law_done" MY ad.a53 ad.d53 ["gone","rows","place"]
 f54:GF K mg "_law_run" MW ad.a54 ad.d54 ["plan","stand","most"]
 f55:GF K mg "_law_flat" Nu ad.a55 ad.d55 ["rows"]
 f56:GF K mg "_law_marks" LM ad.a56 ad.d56 ["plan","sound","faulty","most"]
 f57:GF K mg "_law_other" MZ ad.a57 ad.d57 ["pot","m","number"]
 f58:GF K mg "_law_by_name" N5 ad.a58 ad.d58 ["plan","sound","faulty","most","name"]
 f59:GF K mg "_law_by_piece" Sm ad.a59 ad.d59 ["plan"]
 f60:GF K mg "_law_case" Nv ad.a60 ad.d60 ["pot","most_rows","few"]
 f61:GF K mg "_law_things" MM ad.a61 ad.d61 ["case"]
 f62:GF K mg "_law_mixed" Mm ad.a62 ad.d62 ["case","mix"]
 f63:GF K mg "_law_subsets" LC ad.a63 ad.d63 ["many"]
 f64:GF K mg "_law_verdicts" Rh ad.a64 ad.d64 ["case"]
 f65:GF K mg "_law_has" LU ad.a65 ad.d65 ["one","other"]
 f66:GF K mg "_law_least" Mj ad.a66 ad.d66 ["lists"]
 f67:GF K mg "_law_told" M_ ad.a67 ad.d67 ["case","lists"]
 f68:GF K mg "_law_alike" Mg ad.a68 ad.d68 ["found","due"]
 f69:GF K mg "law" kt ad.a69 ad.d69 ["script"]
section
section
variable{X:Cx}{B:Bd}{a b o e:eT}{es:abc}{ta tb to:b6}{t:eE}{i:Nat}{x:Str}{pos p aa6 aa5:Pos}(hU:X.A.units+64<kB)(hu:X.A.units+1<kB)(hg:X.A.guards=ap [])(hc:X.calm=true)(ha:DE X B a ta)(hb:DE X B b tb)(hd:DE X B c tc){TK:Sd}
def v0:=gq (pos:=pos) J9 ha hb
def v1:=gq (pos:=pos) Jb ha hb
def v2:=gq (pos:=pos) J3 ha hb
def v3:=gq (pos:=pos) J_ ha hb
def v4:=gq (pos:=pos) QG ha hb
def v5:=gq (pos:=pos) Kl ha hb
def v6:=gq (pos:=pos) JX ha hb
def v7:=gq (pos:=pos) Je ha hb
def v8:=gq (pos:=pos) FT ha hb
def v9:=gq (pos:=pos) KC ha hb
def v10:=gq (pos:=pos) IK ha hb
def v11:=Gc (pos:=pos) (Hl hU) ha hb
def v12:=Gc (pos:=pos) AG ha hb
def v13:=cD (X:=X) (B:=B) (p:=p) (pos:=pos) (e:=e) (es:=es) (t:=t) CF Lw
def v14:=fV (X:=X) (B:=B) (p:=p) (pos:=pos) (e:=e) (es:=es) (t:=t) uq qf
def v15:=fV (X:=X) (B:=B) (p:=p) (pos:=pos) (e:=e) (es:=es) (t:=t) xX nY
def v16:=fV (X:=X) (B:=B) (p:=p) (pos:=pos) (e:=e) (es:=es) (t:=t) (ui hc) uP
def v17:=cD (X:=X) (B:=B) (p:=p) (pos:=pos) (e:=e) (es:=es) (t:=t) t9 mM
def v18:=fV (X:=X) (B:=B) (p:=p) (pos:=pos) (e:=e) (es:=es) (t:=t) vi uP
def v19:=cD (X:=X) (B:=B) (p:=p) (pos:=pos) (e:=e) (es:=es) (t:=t) tS iN
def v20:=cD (X:=X) (B:=B) (p:=p) (pos:=pos) (e:=e) (es:=es) (t:=t) (Dm hc) Ld
def v21:=cD (X:=X) (B:=B) (p:=p) (pos:=pos) (e:=e) (es:=es) (t:=t) (C_ hc) JE
def v22:=cD (X:=X) (B:=B) (p:=p) (pos:=pos) (e:=e) (es:=es) (t:=t) (Ds hc) J5
def v23:=cD (X:=X) (B:=B) (p:=p) (pos:=pos) (e:=e) (es:=es) (t:=t) (mF hU) iN
def v24:=cD (X:=X) (B:=B) (p:=p) (pos:=pos) (e:=e) (es:=es) (t:=t) (CM hc) J4
def v25:=yc (X:=X) (B:=B) (p:=p) (pos:=pos) (yp:=aa6) (kp:=aa5) (e:=e) (es:=es) (t:=t) (y:=x) (T:=TK) iN
def v26:=o9 (X:=X) (B:=B) (pos:=pos) J7
def v27:=o9 (X:=X) (B:=B) (pos:=pos) EN
def v28:=o9 (X:=X) (B:=B) (pos:=pos) JW
def v29:=o9 (X:=X) (B:=B) (pos:=pos) qf
def v30:=o9 (X:=X) (B:=B) (pos:=pos) nY
def v31:=GJ (X:=X) (B:=B) (aa6:=aa6) (aa5:=aa5) (o:=o) (e:=e) (es:=es) (t:=t) (to:=to) VQ Xw PySem.F.type_list_append xg
def v32:=m8 (X:=X) (B:=B) (aa6:=aa6) (aa5:=aa5) (o:=o) (to:=to) VQ WU Yz Aq
def v33:=m8 (X:=X) (B:=B) (aa6:=aa6) (aa5:=aa5) (o:=o) (to:=to) PySem.F.plainAttrs_int PySem.F.slot_int_bit_length PySem.F.type_int_bit_length y9
def v34:=GJ (X:=X) (B:=B) (aa6:=aa6) (aa5:=aa5) (o:=o) (e:=e) (es:=es) (t:=t) (to:=to) VQ WU Yz Aq
def v35:=m8 (X:=X) (B:=B) (aa6:=aa6) (aa5:=aa5) (o:=o) (to:=to) VQ Y2 PySem.F.type_list_clear Du
def v36:=m8 (X:=X) (B:=B) (aa6:=aa6) (aa5:=aa5) (o:=o) (to:=to) VQ YO PySem.F.type_list_reverse uw
def v37:=HZ (X:=X) (B:=B) (aa6:=aa6) (aa5:=aa5) (o:=o) (e:=e) (es:=es) (to:=to) (t:=t) Wb Yb xr
def v38:=HZ (X:=X) (B:=B) (aa6:=aa6) (aa5:=aa5) (o:=o) (e:=e) (es:=es) (to:=to) (t:=t) Wb Yb xy
def v39:=IY (X:=X) (B:=B) (x:=x) (pos:=pos) (e:=e) (i:=i) (te:=ta) (pos':=p) IP
def v40:=eh (pos:=pos) NI ha hb
def v41:=eh (pos:=pos) (Hl hU) ha hb
def v42:=eh (pos:=pos) OT ha hb
def v43:=eh (pos:=pos) F4 ha hb
def v44:=eh (pos:=pos) AG ha hb
def v45:=eh (pos:=pos) (EU hU) ha hb
def v46:=eh (pos:=pos) (PM hU) ha hb
def v47:=eh (pos:=pos) Py ha hb
def v48:=eh (pos:=pos) (KU hU) ha hb
def v49:=eh (pos:=pos) Og ha hb
def v50:=eh (pos:=pos) (DZ hU) ha hb
end
local macro_rules|`(tactic|exists $n:num)=>do
 let h<-`(?_);let u<-`(_);let I:=λs:String=>Lean.mkIdent s.toName;let p:=λa k=>Lean.Syntax.mkApp (I a) (Array.replicate k h)
 let t<-((["","dnm:u NX:0 QX:1 MI:g:OE Qs:0 F8:6 Hv:6 DE:ah:3:2 DE:bi:2:3 N_:1 OR:1 O2:4 HE:3 RE:0 Qi:0 DE:dC:1:4 DE:iS:4:5 v37:7 v38:7 MI:g:TF Jz:1 Ej:3 NP:2 O_:1 PH:1 Lm:1 Ky:0 yd:9 xz:8 Fu:a La:3 IF:4 Ho:a D7:a F1:a","v0:2 v1:2 v2:2 v3:2 v4:2 v5:2 v6:2 v7:2 v8:2 v9:2 v10:2 v11:4 v12:3","v13:7 v14:7 v15:7 v16:8 v17:7 v18:7 v19:7 v20:8 v21:8 v22:8 v23:8 v24:8 v25:10","v26:4 v27:4 v28:4 v29:4 v30:4","v31:8 v32:4 v33:4 v34:8 v35:4 v36:4","Rc:3 QO:6 P5:5 NC:1 Jd:2 QY:5 DR:4 CQ:4 OC:6 FH:3 Fm:6 OB:2 v39:5 GB:a KY:a","DT:al:1:8 P3:1 Qj:2 U6:1","v40:3 v41:4 v42:3 v43:3 v44:3 v45:4 v46:4 v47:3 v48:4 v49:3 v50:4","fh:2 h_:1 Lb:0 KG:1 QJ:1 Pq:2 TV:2 Lc:0 Ls:1 IG:4 Pz:4 OG:4 Qw:4 Ey:3 Kr:0 KN:4 DN:4 J0:5 OL:5 QC:4 Ju:1 ON:1 FC.nil:a FC.cons:a Jm:0 Jy:1"].getD n.getNat "").splitOn " ").toArray.mapM λs=>match s.splitOn ":" with
  |[a,"a"]=>`(Lean.Parser.Tactic.tacticSeq|apply $(I a))
  |[a,"d"]=>`(Lean.Parser.Tactic.tacticSeq|(apply $(I a);focus decide))
  |[a,"u"]=>`(Lean.Parser.Tactic.tacticSeq|refine $(I a) _ ?_ ?_ ?_ ?_)
  |[a,k]=>`(Lean.Parser.Tactic.tacticSeq|refine $(p a k.toNat!))
  |[a,_,b]=>`(Lean.Parser.Tactic.tacticSeq|refine $(I a) ($(p b 1)) ?_ ?_ ?_)
  |[d,a,k,m]=>`(Lean.Parser.Tactic.tacticSeq|(show $(I d) _ _ _ $(Lean.Syntax.mkApp (I a) (Array.replicate k.toNat! u));exists $(Lean.Syntax.mkNumLit m)))
  |_=>Lean.Macro.throwUnsupported
 `(tactic|first $[|$t]*)
local macro_rules | `(tactic| exists 0) => `(tactic| first
 |exact Or.inl rfl
 |exact⟨_,_,_,_,_,by assumption,by assumption,Room.mono (by assumption)<|by first|decide|lia⟩
 |exact⟨_,_,_,_,_,_,_,by assumption,by assumption,Room.mono (by assumption) (by first|decide|lia),Iu,by assumption⟩
 |exact⟨_,_,_,_,_,_,_,by assumption,by assumption,Room.mono (by assumption) (by first|decide|lia),wG,uxN⟩
 |exact⟨_,_,_,_,_,_,_,by first|exact .g (by assumption)|exact .a (by assumption)|exact .v (by assumption),by assumption,Room.mono (by assumption) (by first|decide|lia),Iu,by assumption⟩
 |exact⟨_,_,_,_,_,_,_,by first|exact .g (by assumption)|exact .a (by assumption)|exact .v (by assumption),by assumption,Room.mono (by assumption) (by first|decide|lia),wG,uxN⟩
 |assumption
 |exact Room.mono (by assumption) (by first|decide|lia)
 |with_reducible exact Iu
 |with_reducible exact wG
 |with_reducible exact uxN
 |exact FnScope.nd (by assumption)
 |(apply nomark;decide)
 |(apply T1;decide)
 |exact PassesOwn.leaving
 |exact λ_ _=>rfl
 |exact Or.inr (Or.inl rfl)
 |exact Or.inr rfl
 |exact Or.inr (Or.inr rfl)
 |rfl
 |exact λ_=>rfl
 |decide
 |exact⟨rfl,rfl,rfl,rfl⟩
 |with_reducible intro _)
local macro_rules | `(tactic| trivial) => `(tactic| first
 |eq_refl
 |(with_reducible first
 |(show DE _ _ _ _;exists 1)
 |refine da_c ?_ ?_ ?_
 |exact OU
 |(show DT _ _ _ _;exists 7)
 |(show DS _ _ _ _;exists 6)
 |exists 9)
 |exists 0)
set_option hygiene false in
local macro_rules | `(tactic| exists $t:ident, $g, [$fs,*]) => do let hs <- fs.getElems.mapM fun f => `(tactic| have := $f); `(tactic| exact fnS rfl ($g).F ($g).b #[rfl, rfl, rfl, by decide +kernel, rfl, by decide +kernel, by decide +kernel] fun hS _ A _ s _ _ _ _ hr ux => (by have hU := hr.units; have hu := uv hr; have hg := hr.gd; ($[$hs];*); unfold $t:ident; (first | refine fh ?_ ?_ | refine h_ ?_); repeat' trivial))
set_option hygiene false in
local macro_rules | `(tactic| exists $t:ident, $g, [$fs,*], $[$ps:ident],*) => `(tactic| exists (_), $t:ident, $g, [$fs,*], $[$ps:ident],*)
set_option hygiene false in
local macro_rules | `(tactic| exists ($k), $t:ident, $g, [$fs,*], $[$ps:ident],*) => do let hs <- fs.getElems.mapM fun f => `(tactic| have := $f); `(tactic| exact fnS (k := $k) rfl ($g).F ($g).b #[rfl, rfl, rfl, by decide +kernel, rfl, by decide +kernel, by decide +kernel] fun hS _ A _ s _ _ _ _ hr ux => (by have hU := hr.units; have hu := uv hr; have hg := hr.gd; ($[$hs];*); unfold $t:ident $[$ps:ident]*; (first | refine fh ?_ ?_ | refine h_ ?_); repeat' trivial))
variable{P:eH}{w:fx}{K:Uh}{mg:abg}{base:g3}{ad:Ad}(E:En P w K mg base ad)
include E
theorem QL:ck P w mg base E.f1.F E.f1.b 1 (Bb ad):=by
 exists zV,E.f1,[E.u6,E.u21,E.u19,E.u45,E.u32,E.u20,E.u18,E.u22],Bq,Bg,B0
theorem MN:ck P w mg base E.f2.F E.f2.b 1 (wQ ad):=by
 exists Ja,E.f2,[E.u36,E.u6,E.u22,E.u18,E.u23,E.u24],FF
theorem Q8:ck P w mg base E.f3.F E.f3.b 2 (qE ad):=by
 have:=MN E
 exists By,E.f3,[E.u6,E.u19,E.f2],B5
theorem QI:ck P w mg base E.f12.F E.f12.b 1 (AT ad):=by
 exists zA,E.f12,[],BF,z4,BN,C9,B2
theorem FK:ck P w mg base E.f11.F E.f11.b 1 (oS ad):=by
 exists jm,E.f11,[],BC,Be
theorem Ib:ck P w mg base E.f10.F E.f10.b 2 (nq ad):=by
 have:=QI E;have:=FK E
 exists gj,E.f10,[E.f11,E.f12],BA,zK,Ba
theorem wf:∀n:Nat,ck P w mg base E.f6.F E.f6.b (2+n) (Zn ad n)/\ck P w mg base E.f7.F E.f7.b (2+n) (Zp ad n)/\ck P w mg base E.f8.F E.f8.b (2+n) (Zq ad n)/\ck P w mg base E.f9.F E.f9.b (2+n) (Zr ad n):=by
 have:=Q8 E;have:=MN E;have:=Ib E;intro n
 induction n with
 |zero=>exact#[eZ,eZ,eZ,eZ]
 |succ n ih=>
  obtain⟨_,_,_,_⟩:=ih;refine#[?_,?_,?_,?_]
  .exists (2+n),AV,E.f6,[E.u33,E.f7],yO
  .exists (2+n),qi,E.f7,[E.f8,E.f9,E.f10,E.u6,E.u21,E.u19,E.u20,E.f2],A5,yN,AR,yo,zr,Bn
  .exists (2+n),zk,E.f8,[E.u6,E.f3,E.f6],yQ
  .exists (2+n),HU,E.f9,[E.u6,E.f3,E.f6],Ci,zN
theorem Pa:ck P w mg base E.f4.F E.f4.b 27 (uV ad):=by
 have:=QL E;obtain⟨_,_,_,_⟩:=wf E 24
 exists yE,E.f4,[E.f1,E.u7,E.u6,E.f6,E.u23,E.u24,E.u22,E.u44,E.u19],B8,BL
theorem Oe:ck P w mg base E.f5.F E.f5.b 28 (pU ad):=by
 have:=Pa E
 exists AS,E.f5,[E.f4],yt,Ca
theorem EQ:ck P w mg base E.f13.F E.f13.b 1 (vI ad):=by
 exists zC,E.f13,[E.u37,E.u40]
theorem PQ:ck P w mg base E.f14.F E.f14.b 2 (A9 ad):=by
 have:=EQ E
 exists Cb,E.f14,[E.u32,E.f13],la
theorem EH:ck P w mg base E.f15.F E.f15.b 1 (oh ad):=by
 exists vZ,E.f15,[E.u35,E.u43],Av
theorem P6:ck P w mg base E.f16.F E.f16.b 1 (A7 ad):=by
 exists jr,E.f16,[E.u37],B3,C1
theorem Pl:ck P w mg base E.f17.F E.f17.b 2 (zq ad):=by
 have:=EQ E;have:=EH E
 exists GN,E.f17,[E.f13,E.f15]
theorem Ef:ck P w mg base E.f18.F E.f18.b 29 (vA ad):=by
 have:=Oe E
 exists Ck,E.f18,[E.f5,E.u25,E.u26],tG,tJ,ze
theorem wJ:ck P w mg base E.f19.F E.f19.b 3 (qv ad):=by
 have:=Pl E
 exists Hw,E.f19,[E.f17]
theorem O9:ck P w mg base E.f20.F E.f20.b 1 (Cj ad):=by
 exists uf,E.f20,[],z6
theorem Ma:ck P w mg base E.f21.F E.f21.b 1 (FL ad):=by
 exists Kh,E.f21,[E.u2,E.u11,E.u12,E.u14,E.u13,E.u10],HY,G2,Hy
theorem TU:ck P w mg base E.f22.F E.f22.b 3 (EA ad):=by
 have:=Ma E
 exists IC,E.f22,[E.f21,E.u3,E.u2,E.u32,E.u11,E.u37,E.u12,E.u14,E.u13,E.u10,E.u35,E.u43],xw,Ez,Fl,ED
theorem Sn:ck P w mg base E.f23.F E.f23.b 1 (OP ad):=by
 exists Lo,E.f23,[E.u0,E.u9,E.u8]
theorem MK:ck P w mg base E.f24.F E.f24.b 1 (Ei ad):=by
 exists Jg,E.f24,[E.u0,E.u8,E.u9,E.u27,E.u28],wO
theorem Gw:ck P w mg base E.f26.F E.f26.b 1 (oO ad):=by
 exists C8,E.f26,[E.u41],tV
theorem Qe:ck P w mg base E.f25.F E.f25.b 4 (zL ad):=by
 have:=Ma E;have:=Gw E;have:=wJ E
 exists Fx,E.f25,[E.u32,E.f19,E.f21,E.u3,E.u2,E.u45,E.u37,E.f26],C2,y_,sh
theorem NW:ck P w mg base E.f28.F E.f28.b 3 (Bo ad):=by
 have:=PQ E;have:=P6 E;have:=FK E
 exists AO,E.f28,[E.u2,E.u14,E.f16,E.f14,E.f11,E.u11],zD,mv,r8,rS,Cz
theorem Ot:ck P w mg base E.f29.F E.f29.b 3 (BS ad):=by
 have:=Ib E;have:=Gw E
 exists Au,E.f29,[E.u2,E.u10,E.u13,E.f26,E.u11,E.f10,E.u12,E.u14],tR,zB,zh,gT,rF,Bl,AF,yu
theorem PN:ck P w mg base E.f27.F E.f27.b 4 (Ab ad):=by
 have:=NW E;have:=Ot E
 exists Fq,E.f27,[E.u2,E.u13,E.u10,E.f28,E.f29,E.u14],tu,gW,sY,tM,qP,uc
theorem QT:ck P w mg base E.f30.F E.f30.b 1 (Cu ad):=by
 exists C7,E.f30,[E.u2,E.u13,E.u11]
theorem QK:ck P w mg base E.f31.F E.f31.b 4 (yh ad):=by
 have:=TU E;have:=EH E
 exists zU,E.f31,[E.u2,E.f22,E.f15]
theorem DP:∀n:Nat,ck P w mg base E.f33.F E.f33.b (4+n) (Zt ad n):=by
 have:=MK E;have:=QK E;have:=PN E;have:=QT E;intro n
 induction n with
 |zero=>exact eZ
 |succ n ih=>
  exists (4+n),A8,E.f33,[E.f33,E.f27,E.f30,E.u0,E.f24,E.f31],rj,zY,Ax,yZ,zZ
theorem NZ:OkV P w mg base E.f32.F E.f32.b 30 (BP ad):=by
 have:=Sn E;have:=MK E;have:=DP E 24;have:=Ef E;have:=Qe E;exact Si rfl E.f32.F E.f32.b #[rfl,rfl,rfl,by decide +kernel,rfl,by decide +kernel,by decide +kernel] λhS _ A _ s _ _ _ _ hr ux=>(by have hU:=hr.units;have hu:=uv hr;have hg:=hr.gd;have:=E.f18;have:=E.f23;have:=E.u1;have:=E.u0;have:=E.f24;have:=E.f33;have:=E.f25;unfold HD zu zf A0;(first|refine fh ?_ ?_|refine h_ ?_);repeat' trivial)
theorem RT:ck P w mg base E.f34.F E.f34.b 1 (JM ad):=by
 exists Jj,E.f34,[E.u4,E.u17,E.u16,E.u15],ER
theorem Od:ck P w mg base E.f35.F E.f35.b 31 (BU ad):=by
 have:=RT E;have:=Ef E;have:=NZ E;have:=wJ E;have:=O9 E
 exists HF,E.f35,[E.f18,E.u32,E.u33,E.f19,E.f32,E.f34,E.u5,E.u4,E.f20],uy,uj,yK,ie,sJ,r9,ra,rg,tI,tq,tz
theorem GL:ck P w mg base E.f36.F E.f36.b 1 (ku ad):=by
 exists yG,E.f36,[E.u40]
theorem NM:ck P w mg base E.f37.F E.f37.b 2 (mS ad):=by
 have:=GL E
 exists BR,E.f37,[E.f36]
theorem Pg:ck P w mg base E.f39.F E.f39.b 1 (Cr ad):=by
 exists yi,E.f39,[E.u42,E.u30],lL,h8
theorem TJ:ck P w mg base E.f40.F E.f40.b 4 (JI ad):=by
 have:=NM E;have:=GL E;have:=wJ E
 exists Jh,E.f40,[E.f19,E.f36,E.u42,E.f37],qY
theorem RX:OkV P w mg base E.f38.F E.f38.b 32 (Dx ad):=by
 have:=Pg E;have:=TJ E;have:=Od E;exact Si rfl E.f38.F E.f38.b #[rfl,rfl,rfl,by decide +kernel,rfl,by decide +kernel,by decide +kernel] λhS _ A _ s _ _ _ _ hr ux=>(by have hU:=hr.units;have hu:=uv hr;have hg:=hr.gd;have:=E.f35;have:=E.u4;have:=E.u17;have:=E.u16;have:=E.f40;have:=E.f39;unfold KO sj;(first|refine fh ?_ ?_|refine h_ ?_);repeat' trivial)
theorem NO:ck P w mg base E.f41.F E.f41.b 1 (ng ad):=by
 exists za,E.f41,[],A_
theorem Qt:ck P w mg base E.f42.F E.f42.b 1 (Bz ad):=by
 exists Cg,E.f42,[E.u37],zE,Bp,z_
theorem gk:ck P w mg base E.f43.F E.f43.b 2 (aZ ad):=by
 have:=NO E
 exists Hz,E.f43,[E.f41],yT,C5,yx,z7,AI,yX,BV,yg
theorem Oq:ck P w mg base E.f44.F E.f44.b 3 (Ch ad):=by
 have:=gk E
 exists A2,E.f44,[E.f43,E.u40,E.u44],B_,Cq,BQ
theorem Ov:ck P w mg base E.f45.F E.f45.b 3 (ug ad):=by
 have:=gk E
 exists AL,E.f45,[E.f43,E.u36],uZ,uB,Ar,Ct,Bk,yB,Aa,yz,Bf,yv,yJ
theorem nN:∀n:Nat,ck P w mg base E.f46.F E.f46.b (3+n) (Zm ad n)/\ck P w mg base E.f47.F E.f47.b (3+n) (Zl ad n):=by
 have:=gk E;have:=Ov E;intro n
 induction n with
 |zero=>exact#[eZ,eZ]
 |succ n ih=>
  obtain⟨_,_⟩:=ih;refine#[?_,?_]
  .exists (3+n),BK,E.f46,[E.f43,E.u36,E.f47,E.u39],zS,Aw,B4,yR,Bh,A6,yn,Al,zW
  .exists (3+n),AK,E.f47,[E.u40,E.f43,E.f46,E.f45,E.u44],AW,yF,AQ,Bm,zR,Cp,BO
theorem Q6:ck P w mg base E.f48.F E.f48.b 28 (yw ad):=by
 have:=gk E;have:=Oq E;obtain⟨_,_⟩:=nN E 24
 exists zI,E.f48,[E.f43,E.f44,E.f47,E.u36],yr,CB,BJ,Ay
theorem Oh:ck P w mg base E.f49.F E.f49.b 3 (z0 ad):=by
 have:=gk E
 exists Hg,E.f49,[E.u44,E.f43,E.u40],zg
theorem QW:ck P w mg base E.f50.F E.f50.b 1 (vg ad):=by
 exists mU,E.f50,[E.u36],u_,wb,uC,yU,Bv,zi,yS,Bi,zM,yy,zJ,Ai
theorem NU:ck P w mg base E.f51.F E.f51.b 1 (kM ad):=by
 exists Az,E.f51,[E.u36],yV
theorem kW:∀n:Nat,ck P w mg base E.f52.F E.f52.b (1+n) (Zo ad n)/\ck P w mg base E.f53.F E.f53.b (1+n) (Zk ad n):=by
 have:=QW E;have:=NU E;intro n
 induction n with
 |zero=>exact#[eZ,eZ]
 |succ n ih=>
  obtain⟨_,_⟩:=ih;refine#[?_,?_]
  .exists (1+n),B6,E.f52,[E.u40,E.f51,E.f53],mw,tF,A3,tY
  .exists (1+n),AX,E.f53,[E.f53,E.u33,E.f52,E.f51,E.f50],nX,qZ,li,lg,lN,B7,qX,q_,sx,rN
theorem FX:ck P w mg base E.f54.F E.f54.b 26 (oK ad):=by
 obtain⟨_,_⟩:=kW E 24
 exists Ce,E.f54,[E.u45,E.u32,E.f53,E.u44],AJ,yA,Bw
theorem HG:ck P w mg base E.f55.F E.f55.b 1 (wx ad):=by
 exists Gb,E.f55,[E.u44]
theorem xI:ck P w mg base E.f56.F E.f56.b 27 (n_ ad):=by
 have:=FX E
 exists Bj,E.f56,[E.f54],ly,mx,ub
theorem O8:ck P w mg base E.f57.F E.f57.b 3 (oG ad):=by
 have:=gk E
 exists BY,E.f57,[E.f43]
theorem NY:ck P w mg base E.f58.F E.f58.b 28 (zT ad):=by
 have:=HG E;have:=xI E
 exists Ag,E.f58,[E.u44,E.f55,E.f56],lT,lW,lU,mq,m4
theorem Tp:ck P w mg base E.f59.F E.f59.b 1 (IL ad):=by
 exists JC,E.f59,[],s_,tU,nh,rK
theorem Qy:ck P w mg base E.f60.F E.f60.b 29 (An ad):=by
 have:=NY E;have:=Tp E;have:=gk E;have:=HG E;have:=xI E;have:=O8 E;have:=Q6 E;have:=Oh E
 exists Co,E.f60,[E.f48,E.u38,E.f49,E.u37,E.f43,E.u36,E.f57,E.u39,E.u40,E.u44,E.f56,E.f55,E.f58,E.f59],oP,on,mR,nL,oV,oa,nT,jy,oX,om,je,iZ,oB,i_,jD,vR,ou,yW,rY,qW,t_,sV,tL,qQ,tW,r_
theorem xB:ck P w mg base E.f61.F E.f61.b 1 (qB ad):=by
 exists yH,E.f61,[E.u45,E.u40],qT,rG
theorem Pk:ck P w mg base E.f62.F E.f62.b 1 (BZ ad):=by
 exists AN,E.f62,[E.u45,E.u40,E.u44],rH,tX,sg,iT
theorem QE:ck P w mg base E.f63.F E.f63.b 1 (BD ad):=by
 exists G4,E.f63,[E.u40],CA,my
theorem T_:ck P w mg base E.f64.F E.f64.b 28 (Jp ad):=by
 have:=xI E;have:=Pk E;have:=FX E;have:=QE E;have:=xB E
 exists Os,E.f64,[E.f61,E.f56,E.f63,E.u36,E.f54,E.f62,E.u44],F5,x_,Fc,FZ,jO,xH,wE,nF,rf
theorem Pb:ck P w mg base E.f65.F E.f65.b 1 (Cn ad):=by
 exists zd,E.f65,[]
theorem Pw:ck P w mg base E.f66.F E.f66.b 2 (Bt ad):=by
 have:=Pb E
 exists zc,E.f66,[E.f65,E.u37,E.u42],lY,iY,sQ
theorem QH:ck P w mg base E.f67.F E.f67.b 2 (BX ad):=by
 have:=xB E
 exists Cw,E.f67,[E.f61],mh
theorem oi:∀n:Nat,ck P w mg base E.f68.F E.f68.b (0+n) (Zs ad n):=by
 intro n
 induction n with
 |zero=>exact eZ
 |succ n ih=>
  exists (0+n),gG,E.f68,[E.f68,E.u35,E.u31,E.u34,E.u43,E.u44,E.u37,E.u36,E.u29,E.u45],Ae,A1,Cd,zG,yD,BW,AU,Ac,Bu
theorem OJ:ck P w mg base E.f69.F E.f69.b 33 (Fn ad):=by
 have:=oi E 24;have:=Qy E;have:=gk E;have:=Pw E;have:=Qt E;have:=xB E;have:=QH E;have:=T_ E;have:=RX E
 exists zn,E.f69,[E.f42,E.f60,E.f43,E.f64,E.u36,E.f61,E.u44,E.u40,E.f67,E.f66,E.f68,E.f38],j7,lP,ms,m9,lh,lG,lc,lb,m5,lQ
end
end _T
namespace _3
open PySem _2
theorem aH(c:∀Q' E',Q' d M->T ds M Q' E')(h:Q d M):calls T EE ds M Q b:=
 am λQ' E' a _=>c Q' E' (a d M h)
theorem bG(h:0<=i):fJ xs i=xs[i.toNat]?:=by
 cases i with
 |ofNat k=>rfl
 |negSucc k=>exact absurd h (by lia)
@[simp] theorem atI_0:fJ xs 0=xs[0]?:=rfl
@[simp] theorem atI_1:fJ xs 1=xs[1]?:=rfl
@[simp] theorem atI_2:fJ xs 2=xs[2]?:=rfl
@[simp] theorem atI_3:fJ xs 3=xs[3]?:=rfl
@[simp] theorem atI_4:fJ xs 4=xs[4]?:=rfl
theorem cw(I:List D->Dl->Mem->Prop)(c:∀xs U M,I xs U M->ok M)(j:∀U M,I [] U M->DD.nx U M)
  (i:∀x xs U M,I (x::xs) U M->∀D':DEnds,(∀a M',I xs a M'->D'.nx a M')->(∀a M',I xs a M'->D'.ct a M')->D'.rt=DD.rt->D'.bk=DD.nx->g x U M λδ2 M2=>f D' δ2 M2):∀xs U M,I xs U M->iX g f DD ok b xs U M
 |[],U,M,h=>#[c _ _ _ h,j U M h]
 |x::xs,U,M,h=>#[c _ _ _ h,i x xs U M h _ (λa M' e=>cw I c j i xs a M' e) (λa M' e=>cw I c j i xs a M' e) rfl rfl]
theorem bM(I:List D->List D->Dl->Mem->Prop)(e:∀xs aa4 U M,I xs aa4 U M->ok M)(l:∀aa4 U M,I [] aa4 U M->Q aa4 M)
  (j:∀x xs aa4 U M,I (x::xs) aa4 U M->∀N:Bool->D->Dl->Mem->Prop,(∀y a M',aa4.length<sizeLine->I xs (aa4++[y]) a M'->N true y a M')->(∀y a M',I xs aa4 a M'->N cx y a M')->g x U M λδ2 M2=>tt δ2 M2 λc M3=>if c=true then te δ2 M3 λy M4=>N true y δ2 M4 else N cx .non δ2 M3)
  (m:∀x xs aa4 U M,I (x::xs) aa4 U M->aa4.length<sizeLine):∀xs aa4 U M,I xs aa4 U M->cV g tt te ok Q b xs aa4 U M
 |[],aa4,U,M,h=>#[e _ _ _ _ h,l aa4 U M h]
 |x::xs,aa4,U,M,h=>#[e _ _ _ _ h,j x xs aa4 U M h (λk y a M'=>if k=true then aa4.length<sizeLine/\cV g tt te ok Q b xs (aa4++[y]) a M' else cV g tt te ok Q b xs aa4 a M')
   (λy a M' f i=>by rw[if_pos rfl];exact#[f,bM I e l j m xs _ a M' i]) (λy a M' i=>by rw[if_neg (by simp)];exact bM I e l j m xs _ a M' i) |> λz=>by simpa using z]
theorem bh(h:n<=1000000):n<=sizeLine:=Uw h (by decide)
theorem fH(h:n<1000000):n<sizeLine:=Ur h (by decide)
end _3
namespace _T
open PySem _2 _3
variable{x:Str}
inductive Rw where
 |put (x:Str) (k:Int)|take (x:Str) (i:Int)|pick (x y:Str)|two (w x y z:Str)|ifr (x:Str) (a b:List Rw)|again (x:Str) (a:List Rw)
mutual
noncomputable def Rw.d:Rw->D
 |.put x k=>.tup [.str "put",.str x,.int k]
 |.take x i=>.tup [.str "take",.str x,.int i]
 |.pick x y=>.tup [.str "pick",.str x,.str y]
 |.two w x y z=>.tup [.str w,.str x,.str y,.str z]
 |.ifr x a b=>.tup [.str "if",.str x,.tup (aJ a),.tup (aJ b)]
 |.again x a=>.tup [.str "again",.str x,.tup (aJ a)]
noncomputable def aJ:List Rw->List D
 |[]=>[]
 |r::rs=>r.d::aJ rs
end
theorem gY:∀rs:List Rw,aJ rs=rs.map Rw.d
 |[]=>rfl
 |r::rs=>by rw[aJ,gY rs];rfl
abbrev cH:=List (Str×Int)
noncomputable def gN(n:cH)(x:Str):Option Int:=(n.find? λp=>decide (p.1=x)).map (·.2)
def nm(n:cH)(x:Str):Int:=(gN n x).getD 0
noncomputable def sN(n:cH)(x:Str)(v:Int):cH:=n.map λp=>if p.1=x then (p.1,v) else p
noncomputable def eF(n:cH):List (aC×D):=n.map λp=>(UN p.1,D.int p.2)
theorem Nd:∀{n:cH}{x:Str},x∈n.map (·.1)->gN n x=ap (nm n x)
 |[],_,h=>by simp at h
 |(y,v)::n,x,h=>by
  by_cases e:y=x
  .simp[gN,nm,e]
  simpa [gN,nm,e] using (Nd<|by simpa [eq_comm,e] using h)
theorem ci:∀{n:cH}{x:Str},cM (eF n) (UN x)=(gN n x).map D.int
 |[],x=>rfl
 |(y,v)::n,x=>by
  by_cases e:y=x
  .simp[cM,eF,gN,e]
  simpa [cM,eF,gN,e] using (ci)
theorem EW:∀{n:cH}{x:Str},x∈n.map (·.1)->((eF n).any λkv=>decide (kv.1=UN x))=true
 |[],_,h=>by simp at h
 |(y,v)::n,x,h=>by
  by_cases e:y=x
  .simp[eF,e]
  .have:=EW (by simpa [eq_comm,e] using h)
   simp[eF]at this ⊢
   simp_all
theorem m7(h:x∈n.map (·.1)):eD (eF n) (UN x) (.int v)=eF (sN n x v):=by
 unfold eD;rw[EW h];simp only[eF,sN,Us];apply UE;intro p _
 by_cases e:p.1=x
 .simp[e]
 simp[e]
theorem iW:(sN n x v).map (·.1)=n.map (·.1):=by
 simp only[sN,Us];apply UE;intro p _
 by_cases e:p.1=x<;>simp[e]
theorem S9(h:x∈n.map (·.1)):gN (sN n x v) y=if y=x then ap v else gN n y:=by
 induction n with
 |nil=>simp at h
 |cons p n ih=>
  obtain⟨k,u⟩:=p
  by_cases e:k=x
  .subst e
   by_cases a:y=k
   .subst a;simp[gN,sN]
   simp[if_neg a];have c:¬k=y:=λz=>a z.symm
   by_cases b:k∈n.map (·.1)
   .simpa [gN,sN,c,if_neg a] using (ih b)
   simp only[gN,sN,Ue,if_pos,VX,c,decide_false];have:n.map (λp=>if p.1=k then (p.1,v) else p)=n:=by
    conv=>rhs;rw[<- VE n]
    apply UE;intro p g;have:p.1≠k:=λz=>b (by rw[<- z];exact UK g)
    simp[this]
   rw[this]
  have:=ih (by simpa [UO e,e] using h)
  by_cases a:y=x
  .subst a;simpa [gN,sN,e] using this
  by_cases f:k=y
  .subst f;simp[gN,sN,e]
  .simpa [gN,sN,e,f,a] using this
structure Cf where
 m:Int
 pieces:List Int
 most:Nat
structure Sx where
 nums:cH
 steps:List (List Int×Int)
noncomputable def AD(w:Str)(y z m:Int):Int:=if w="sum" then (y+z) % m else if w="by" then y*z % m else if w="less" then (if y<z then 1 else 0) else if y=z then 1 else 0
def num(c:Cf)(n:cH):Rw->Int
 |.put _ k=>k
 |.take _ i=>(c.pieces[i.toNat]?).getD 0
 |.pick _ y=>(c.pieces[(nm n y % (c.pieces.length:Int)).toNat]?).getD 0
 |.two w _ y z=>AD w (nm n y) (nm n z) c.m
 |_=>0
noncomputable def iC:Rw->Str
 |.put x _=>x
 |.take x _=>x
 |.pick x _=>x
 |.two _ x _ _=>x
 |.ifr x _ _=>x
 |.again x _=>x
noncomputable def nt(c:Cf)(pl:aa_)(v:Int)(s:Sx):Bool×Sx:=if s.steps.length<c.most then (true,#[s.nums,s.steps++[(pl,v)]]) else (cx,s)
def lk(n:cH)(x:Str):Int:=if nm n x=0 then 0 else 1
def fC(c:Cf)(x:Str)(pl:aa_)(body:Nat->Sx->Bool×Sx):Nat->Nat->Sx->Bool×Sx
 |0,_,s=>(cx,s)
 |f+1,t,s=>if (nt c (pl++[(t:Int)]) (lk s.nums x) s).1=true then
   (if lk s.nums x=1 then
    (if (body t (nt c (pl++[(t:Int)]) (lk s.nums x) s).2).1=true then fC c x pl body f (t+1) (body t (nt c (pl++[(t:Int)]) (lk s.nums x) s).2).2 else body t (nt c (pl++[(t:Int)]) (lk s.nums x) s).2)
   else nt c (pl++[(t:Int)]) (lk s.nums x) s)
  else nt c (pl++[(t:Int)]) (lk s.nums x) s
mutual
noncomputable def iR(c:Cf):Rw->List Int->Sx->Bool×Sx
 |.ifr x a b,pl,s=>if (nt c pl (lk s.nums x) s).1=true then (if lk s.nums x=1 then bZ c a (pl++[lk s.nums x]) 0 (nt c pl (lk s.nums x) s).2 else bZ c b (pl++[lk s.nums x]) 0 (nt c pl (lk s.nums x) s).2) else nt c pl (lk s.nums x) s
 |.again x a,pl,s=>fC c x pl (λt s=>bZ c a (pl++[(t:Int)]) 0 s) (c.most+1) 0 s
 |.put x k,pl,s=>if (nt c pl (num c s.nums<|.put x k) s).1=true then (true,#[sN s.nums x (num c s.nums<|.put x k),(nt c pl (num c s.nums<|.put x k) s).2.steps]) else nt c pl (num c s.nums<|.put x k) s
 |.take x i,pl,s=>if (nt c pl (num c s.nums<|.take x i) s).1=true then (true,#[sN s.nums x (num c s.nums<|.take x i),(nt c pl (num c s.nums<|.take x i) s).2.steps]) else nt c pl (num c s.nums<|.take x i) s
 |.pick x y,pl,s=>if (nt c pl (num c s.nums<|.pick x y) s).1=true then (true,#[sN s.nums x (num c s.nums<|.pick x y),(nt c pl (num c s.nums<|.pick x y) s).2.steps]) else nt c pl (num c s.nums<|.pick x y) s
 |.two w x y z,pl,s=>if (nt c pl (num c s.nums<|.two w x y z) s).1=true then (true,#[sN s.nums x (num c s.nums<|.two w x y z),(nt c pl (num c s.nums<|.two w x y z) s).2.steps]) else nt c pl (num c s.nums<|.two w x y z) s
noncomputable def bZ(c:Cf):List Rw->List Int->Nat->Sx->Bool×Sx
 |[],_,_,s=>(true,s)
 |r::rs,pl,j,s=>if (iR c r (pl++[(j:Int)]) s).1=true then bZ c rs pl (j+1) (iR c r (pl++[(j:Int)]) s).2 else iR c r (pl++[(j:Int)]) s
end
def kY(c:Cf)(r:Rw)(pl:aa_)(s:Sx):Bool×Sx:=if s.steps.length<c.most then (true,#[sN s.nums (iC r) (num c s.nums r),s.steps++[(pl,num c s.nums r)]]) else (cx,s)
noncomputable def bg:Rw->Bool
 |.ifr _ _ _=>cx
 |.again _ _=>cx
 |_=>true
theorem cO(h:bg r=true):iR c r pl s=kY c r pl s:=by
 cases r with
 |ifr x a b=>trivial
 |again x a=>trivial
 |_=>simp[iR,kY,nt,iC];lia
theorem ofs_inj(a b:String):(WT a=WT b)=(a=b):=by
 refine propext #[λh=>?_,by lia]
 rw[Str.ofString_eq_byList]at h;exact String.toList_inj.mp ((List.map_inj_right λx y=>Char.toNat_inj.mp).mp<|congrArg (λx:Str=>x.cps.toList) h)
end _T
open PySem _2 _3 _T
local macro_rules | `(tactic| simp! [$a,*]) => do let p <- ("B0 Bg Bq FF B5 B2 C9 BN z4 BF Be BC Ba zK BA yO Bn zr yo AR yN A5 yQ zN Ci BL B8 Ca yt la Av C1 B3 ze tJ tG z6 Hy G2 HY ED Fl Ez xw wO tV sh y_ C2 Cz rS r8 mv zD yu AF Bl rF gT zh zB tR uc qP tM sY gW tu zZ yZ Ax zY rj A0 zf zu ER tz tq tI rg ra r9 sJ ie yK uj uy h8 lL qY sj A_ z_ Bp zE yg BV yX AI z7 yx C5 yT BQ Cq B_ yJ yv Bf yz Aa yB Bk Ct Ar uB uZ zW Al yn A6 Bh yR B4 Aw zS BO Cp zR Bm AQ yF AW Ay BJ CB yr zg Ai zJ yy zM Bi yS zi Bv yU uC wb u_ yV tY A3 tF mw rN sx q_ qX B7 lN lg li qZ nX Bw yA AJ ub mx ly m4 mq lU lW lT rK nh tU s_ r_ tW qQ tL sV t_ qW rY yW ou vR jD i_ oB iZ je om oX jy nT oa oV nL mR on oP rG qT iT sg tX rH my CA rf nF wE xH jO FZ Fc x_ F5 sQ iY lY mh Bu Ac AU BW yD zG Cd A1 Ae lQ m5 lb lc lG lh m9 ms lP j7 jW Gz FJ R0 F_ yk Pj xR rU rQ uO jo dI gg jh dS aF startN ai aE al cm E7 ah bW pO dv cP fits aR gE ac dC az oH aB fU kZ P9 ww LF oI lE jg av aQ cC ao frz ba kU fc kF aq af dm aM dg cY sW aa ag aU bv bi cu eJ bP dM cJ Nx jb Gv Ji aV cE a_ iS bj DM ju Ix iJ jV gQ eR cN Da uM o8 HX oSl Ee fk cI aj dy ir bz dR vT RP bn dj cS cq eG qp frzT frzs ND iG wl iQ".splitOn " ").toArray.mapM (fun s => `(Lean.Parser.Tactic.simpLemma| ↓$(Lean.mkIdent s.toName):ident)); let q <- ("List.map_cons List.map_nil List.cons_append List.nil_append List.length_cons List.length_nil List.getElem?_cons_succ List.getElem?_cons_zero List.set_cons_succ List.set_cons_zero Nat.zero_add Nat.reduceAdd Nat.reduceSub List.replicate_succ List.replicate_zero List.append_nil true_and and_true if_true if_false Bool.false_eq_true decide_eq_true_eq decide_eq_false_iff_not Bool.not_true Bool.not_false Bool.and_true Bool.true_and Bool.and_false Bool.false_and Mem.upd_same Option.isSome_some Option.isSome_none vd L4 s2e_s LA QP mz two_2 nil_0 cns_c no_0 no_1 zy z9 uF onS_s onTy_t onT_t onF_f U4 onBB_t onBB_f onIST_i onIST_s onIST_t onIST_r onIST_l onSR_s onSR_r onLR_l onLR_r onTM_t onTM_m onTM_r onTM_l onTe_t onTe_r onTe_l onRe_r onRe_n onRe_b onRe_i onRe_s onRe_t onRe_l onRe_f onRe_m onRe_ml mL_l mK_k mT_t mN_n mLe_l mLe_k mLe_t mLe_n mLe_0 mSet_l mSet_k mSet_t ofs_inj String.reduceEq".splitOn " ").toArray.mapM (fun s => `(Lean.Parser.Tactic.simpLemma| $(Lean.mkIdent s.toName):ident)); let r : Lean.TSyntaxArray [`Lean.Parser.Tactic.simpStar, `Lean.Parser.Tactic.simpErase, `Lean.Parser.Tactic.simpLemma] := (p.map (⟨·.raw⟩)) ++ (q.map (⟨·.raw⟩)) ++ a.getElems; `(tactic| simp -dsimp only [$r,*])
local macro_rules | `(tactic| simp_arith! only [$a,*]) => do let q <- ("vd L4 s2e_s LA QP mz two_2 nil_0 cns_c no_0 no_1 zy z9 uF onS_s onTy_t onT_t onF_f U4 onBB_t onBB_f onIST_i onIST_s onIST_t onIST_r onIST_l onSR_s onSR_r onLR_l onLR_r onTM_t onTM_m onTM_r onTM_l onTe_t onTe_r onTe_l onRe_r onRe_n onRe_b onRe_i onRe_s onRe_t onRe_l onRe_f onRe_m onRe_ml mL_l mK_k mT_t mN_n mLe_l mLe_k mLe_t mLe_n mLe_0 mSet_l mSet_k mSet_t ag".splitOn " ").toArray.mapM (fun s => `(Lean.Parser.Tactic.simpLemma| $(Lean.mkIdent s.toName):ident)); let r : Lean.TSyntaxArray [`Lean.Parser.Tactic.simpStar, `Lean.Parser.Tactic.simpErase, `Lean.Parser.Tactic.simpLemma] := (q.map (⟨·.raw⟩)) ++ a.getElems; `(tactic| simp -dsimp only [$r,*])
namespace _T
open PySem _2 _3
variable{names:aa'}
theorem kG(b:0<m)(i:0<=y)(g:y<1000)(h:Q (.int<|AD w y z m) M):AT ad [.str w,.int y,.int z,.int m] M Q E:=by
 have f:CMul y z:=.inl #[by lia,by lia]
 unfold AD at h;simp![Td,zA]
 split
 .rename_i e;rw[if_pos e]at h;exact#[b,ak h]
 rename_i e;rw[if_neg e]at h
 split
 .rename_i e;rw[if_pos e]at h;exact#[f,b,ak h]
 rename_i e;rw[if_neg e]at h
 split
 .rename_i e;rw[if_pos e]at h
  split<;>rename_i a
  .rw[if_pos a]at h;exact ak h
  .rw[if_neg a]at h;exact ak h
 .rename_i e;rw[if_neg e]at h
  split<;>rename_i a
  .rw[if_pos a]at h;exact ak h
  .rw[if_neg a]at h;exact ak h
def de(names:aa')(m many:Int):Rw->Prop
 |.put x k=>x∈names/\0<=k/\k<m
 |.take x i=>x∈names/\0<=i/\i<many
 |.pick x y=>x∈names/\y∈names/\0<many
 |.two w x y z=>(w="sum"\/w="by"\/w="less"\/w="same")/\x∈names/\y∈names/\z∈names
 |_=>False
structure NOk(names:aa')(m:Int)(n:cH):Prop where
 keys:n.map (·.1)=names
 rng:∀p∈n,0<=p.2/\p.2<m
theorem NOk.at(h:NOk names m n)(f:x∈names):gN n x=ap (nm n x)/\0<=nm n x/\nm n x<m:=by
 have e:=Nd (by rw[h.keys];exact f)
 refine#[e,?_];obtain⟨p,b,a⟩:=Vo.mp e;rw[<- a];exact h.rng p (List.mem_of_find?_eq_some b)
theorem Lu(g:2<=m):0<=AD w y z m/\AD w y z m<m:=by
 unfold AD;have a:=VP (y+z) (show m≠0 by lia)
 have e:=Vx (y+z) (show 0<m by lia)
 have f:=VP (y*z) (show m≠0 by lia)
 have b:=Vx (y*z) (show 0<m by lia)
 lia
structure COk(c:Cf):Prop where
 m2:2<=c.m
 m1:c.m<=997
 rng:∀v∈c.pieces,0<=v/\v<c.m
 few:c.pieces.length<=1000
 most:c.most<=10000
theorem COk.piece(h:COk c)(a:i<c.pieces.length):c.pieces[i]?=ap ((c.pieces[i]?).getD 0)/\0<=(c.pieces[i]?).getD 0/\(c.pieces[i]?).getD 0<c.m:=by
 rw[Ud a];exact#[rfl,h.rng _<|by simp_all]
theorem Ap(h:COk c)(f:NOk names c.m n)(a:de names c.m c.pieces.length r):0<=num c n r/\num c n r<c.m:=by
 cases r with
 |put x k=>exact a.2
 |take x i=>exact(h.piece<|by have:=a.2;lia).2
 |pick x y=>
  have b:=a.2.2;have e:=Vx (nm n y) b;exact(h.piece<|by lia).2
 |two w x y z=>exact Lu h.m2
 |ifr=>exact a.elim
 |again=>exact a.elim
def aW(c:Cf)(names:aa')(rows:List Rw)(mk:Str):D:=.tup [.int c.m,.tup (names.map D.str),.int (c.pieces.length:Nat),.tup (aJ rows),.str mk]
theorem cz(f:NOk names c.m n)(a:de names c.m c.pieces.length r)(g:M b=ap (.dK<|eF n))(h:Q (match r with|.take _ i=>.int i|.pick _ y=>.int (nm n y % (c.pieces.length:Int))|_=>.non) M):oS ad [aW c names rows mk,.ref b,r.d] M Q E:=by
 cases r with
 |put x k=>(simp![qg,jm,Rw.d,atI_0];exact ak h)
 |take x i=>(simp![qg,jm,Rw.d,atI_0];exact ak h)
 |pick x y=>
  simp![qg,jm,Rw.d,atI_0,atI_2,g,ci,(f.at a.2.1).1];exact#[a.2.2,ak h]
 |two w x y z=>
  obtain⟨e,_⟩:=a;rcases e with rfl|rfl|rfl|rfl<;>(simp![qg,jm,aW,Rw.d,atI_0];exact ak h)
 |ifr=>exact a.elim
 |again=>exact a.elim
theorem oz(o:COk c)(e:NOk names c.m n)(b:de names c.m c.pieces.length r)(f:M u=ap (.dK<|eF n))(h:Q (.int<|num c n r) M):nq ad [aW c names rows mk,.ref u,.tup (c.pieces.map D.int),r.d] M Q E:=by
 have C:=o.m1;cases r with
 |put x k=>
  simp![kO,gj,Rw.d,atI_0];exact ak h
 |take x i=>
  have a:=b;obtain⟨p,l,G⟩:=a;have j:(c.pieces.map D.int)[i.toNat]?=ap (.int<|num c n<|.take x i):=by rw[Uo,(o.piece (i:=i.toNat)<|by lia).1];rfl
  simp![kO,gj,aW,Rw.d,atI_0,atI_2];refine aH (d:=.int i) (λ_ _ q=>cz (c:=c) (names:=names) (rows:=rows) (mk:=mk) (r:=.take x i) e b f q) ?_;simp![bG l,j];exact ak h
 |pick x y=>
  have a:=b;obtain⟨p,s,l⟩:=a;have F:=Vx (nm n y) l;have j:(c.pieces.map D.int)[(nm n y % (c.pieces.length:Int)).toNat]?=ap (.int<|num c n<|.pick x y):=by rw[Uo,(o.piece (i:=(nm n y % (c.pieces.length:Int)).toNat)<|by lia).1];rfl
  simp![kO,gj,aW,Rw.d,atI_0,atI_2];refine aH (d:=.int (nm n y % (c.pieces.length:Int))) (λ_ _ q=>cz (c:=c) (names:=names) (rows:=rows) (mk:=mk) (r:=.pick x y) e b f q) ?_;simp![bG (VP (nm n y) (show (c.pieces.length:Int)≠0 by lia)),j]
  exact ak h
 |two w x y z=>
  have a:=b;obtain⟨A,p,s,B⟩:=a;have v:=e.at s;have g:((w=WT "put")=False):=by rcases A with rfl|rfl|rfl|rfl<;>exact eq_false (by decide +kernel)
  simp![kO,gj,aW,Rw.d,atI_0,atI_2,g];refine aH (d:=.non) (λ_ _ q=>cz (c:=c) (names:=names) (rows:=rows) (mk:=mk) e b f q) ?_;simp![atI_0,atI_2,atI_3,f,ci,v.1,(e.at B).1,Vq];exact aH (λ_ _ q=>kG (by lia) (by lia) (by lia) q) (ak h)
 |ifr=>exact b.elim
 |again=>exact b.elim
structure Wk where
 a:cp
 dn:cp
 ls:cp
 h1:a≠dn
 h2:a≠ls
 h3:dn≠ls
noncomputable def iy(l:aa_):D:=.tup (l.map D.int)
def ye(l:List (List Int×Int)):List D:=l.map λp=>.tup [iy p.1,.int p.2]
def wM(ad:Ad)(k:Wk)(c:Cf)(pD:D)(s:Sx)(M:Mem):Mem:=
 ((M.upd k.a<|.ins ad.C_Walk [("plan",pD),("numbers",.ref k.dn),("pieces",.tup (c.pieces.map D.int)),("most",.int (c.most:Nat)),("steps",.ref k.ls)]).upd k.dn<|.dK<|eF s.nums).upd k.ls (.lst<|ye s.steps)
theorem pC:wM ad k c pD s M k.a=ap (.ins ad.C_Walk [("plan",pD),("numbers",.ref k.dn),("pieces",.tup (c.pieces.map D.int)),("most",.int (c.most:Nat)),("steps",.ref k.ls)]):=by
 unfold wM;rw[ae k.h2,ae k.h1,Mem.upd_same]
theorem yP:wM ad k c pD s M k.dn=ap (.dK<|eF s.nums):=by unfold wM;rw[ae k.h3,Mem.upd_same]
theorem LD:wM ad k c pD s M k.ls=ap (.lst<|ye s.steps):=by unfold wM;simp_all
theorem Fk:(wM ad k c pD s M).upd k.ls (.lst<|ye x)=wM ad k c pD #[s.nums,x] M:=by unfold wM;simp_all
theorem L8:(wM ad k c pD s M).upd k.dn (.dK<|eF x)=wM ad k c pD #[x,s.steps] M:=by
 unfold wM;rw[aA (UO k.h3),Mem.upd_upd]
theorem lf0:UZ ("plan":Str) [(("plan":Str),x0),(("numbers":Str),x1),(("pieces":Str),x2),(("most":Str),x3),(("steps":Str),x4)]=ap (x0:D):=rfl
theorem Iz:UZ ("numbers":Str) [(("plan":Str),x0),(("numbers":Str),x1),(("pieces":Str),x2),(("most":Str),x3),(("steps":Str),x4)]=ap (x1:D):=rfl
theorem lf2:UZ ("pieces":Str) [(("plan":Str),x0),(("numbers":Str),x1),(("pieces":Str),x2),(("most":Str),x3),(("steps":Str),x4)]=ap (x2:D):=rfl
theorem lf3:UZ ("most":Str) [(("plan":Str),x0),(("numbers":Str),x1),(("pieces":Str),x2),(("most":Str),x3),(("steps":Str),x4)]=ap (x3:D):=rfl
theorem lf4:UZ ("steps":Str) [(("plan":Str),x0),(("numbers":Str),x1),(("pieces":Str),x2),(("most":Str),x3),(("steps":Str),x4)]=ap (x4:D):=rfl
theorem lfm:UZ ("note_step":Str) [(("plan":Str),x0),(("numbers":Str),x1),(("pieces":Str),x2),(("most":Str),x3),(("steps":Str),x4)]=(none:Option D):=rfl
theorem lfl:UZ ("look":Str) [(("plan":Str),x0),(("numbers":Str),x1),(("pieces":Str),x2),(("most":Str),x3),(("steps":Str),x4)]=(none:Option D):=rfl
theorem gH(g:c.most<=10000)(b:(nt c pl v s).1=true->Q .non (wM ad k c pD (nt c pl v s).2 M))(e:(nt c pl v s).1=cx->E ad.C_Dry (wM ad k c pD (nt c pl v s).2 M)):
  wQ ad [.ref k.a,iy pl,.int v] (wM ad k c pD s M) Q E:=by
 unfold nt at b e;simp![u_q2,Ja,pC,LD,lf3,lf4,ye,Uc]
 split
 .have:¬s.steps.length<c.most:=by lia
  rw[if_neg this]at e;exact eP (e rfl)
 have f:s.steps.length<c.most:=by lia
 rw[if_pos f]at b;refine#[bh (by decide),fH (by lia),ak ?_]
 have:=b rfl;rw[<- Fk]at this;simpa [ye] using this
end _T
namespace _3
open PySem _2
def g5:Nat->List D->List D
 |_,[]=>[]
 |k,x::xs=>.tup [.int (k:Nat),x]::g5 (k+1) xs
theorem vD:∀(xs:List D)(k:Nat),(xs.zipIdx k).map (λp=>D.tup [.int (p.2:Nat),p.1])=g5 k xs
 |[],_=>rfl
 |x::xs,k=>by rw[Xh,Ue,vD xs _];rfl
theorem oR(xs:List D):uK xs=g5 0 xs:=vD xs 0
theorem aL:DIt.ok #[xs,[]] M:=λ_ h=>by cases h
end _3
namespace _T
open PySem _2 _3
variable{ad:Ad}{b l:cp}{c:Cf}{C:Cse}{g:Gs}{a m many v:Int}{ns nums xs:aa_}{aa4 rest rs:List Rw}{names:aa'}{ks u us:List aC}{M M':Mem}{fi i j n:Nat}{r:Rw}{z:Sta}{w x y:Str}{s:Sx}{q:aC}
mutual
def fZ(names:aa')(m many:Int):Rw->Prop
 |.ifr x a b=>x∈names/\bc names m many a/\bc names m many b
 |.again x a=>x∈names/\bc names m many a
 |.put x k=>de names m many (.put x k)
 |.take x k=>de names m many (.take x k)
 |.pick x k=>de names m many (.pick x k)
 |.two w x y z=>de names m many (.two w x y z)
def bc(names:aa')(m many:Int):List Rw->Prop
 |[]=>True
 |r::rs=>fZ names m many r/\bc names m many rs
end
mutual
noncomputable def hR:Rw->Nat
 |.ifr _ a b=>1+max (dD a) (dD b)
 |.again _ a=>1+dD a
 |_=>0
noncomputable def dD:List Rw->Nat
 |[]=>0
 |r::rs=>max (hR r) (dD rs)
end
theorem Hk{n:cH}(f:NOk names c.m n)(B:0<=v/\v<c.m):NOk names c.m (sN n x v):=by
 refine#[by rw[iW];exact f.keys,λp e=>?_]
 simp only[sN,Ul]at e;obtain⟨q,h,rfl⟩:=e
 split
 .exact B
 exact f.rng q h
theorem fQ:(nt c pl v s).2.nums=s.nums:=by unfold nt;split<;>rfl
theorem mj(f:COk c)(h:de names c.m c.pieces.length r)(e:NOk names c.m s.nums):NOk names c.m (kY c r pl s).2.nums:=by
 unfold kY
 split
 .exact Hk e (Ap f e h)
 exact e
theorem A4{x:Str}(B:∀t s,NOk names c.m s.nums->NOk names c.m (e t s).2.nums):∀(f t:Nat)(s:Sx),NOk names c.m s.nums->NOk names c.m (fC c x pl e f t s).2.nums
 |0,_,s,h=>h
 |f+1,t,s,h=>by
  have p:NOk names c.m (nt c (pl++[(t:Int)]) (lk s.nums x) s).2.nums:=by rw[fQ];exact h
  unfold fC
  split
  .split
   .split
    .exact A4 B f _ _ (B t _ p)
    simp_all
   exact p
  exact p
mutual
theorem rb(e:COk c):∀(r:Rw),fZ names c.m c.pieces.length r->∀(pl:aa_)(s:Sx),NOk names c.m s.nums->NOk names c.m (iR c r pl s).2.nums
 |.ifr x a b,h,pl,s,hn=>by
  have f:NOk names c.m (nt c pl (lk s.nums x) s).2.nums:=by rw[fQ];exact hn
  simp only[fZ]at h;unfold iR
  split
  .split
   .exact dF e a h.2.1 _ _ _ f
   .exact dF e b h.2.2 _ _ _ f
  .exact f
 |.again x a,h,pl,s,hn=>by
  simp only[fZ]at h;unfold iR;exact A4 (λt s p=>dF e a h.2 _ _ _ p) _ _ _ hn
 |.put x k,h,pl,s,hn=>by rw[cO rfl];exact mj e (by simpa only[fZ] using h) hn
 |.take x k,h,pl,s,hn=>by rw[cO rfl];exact mj e (by simpa only[fZ] using h) hn
 |.pick x k,h,pl,s,hn=>by rw[cO rfl];exact mj e (by simpa only[fZ] using h) hn
 |.two w x y z,h,pl,s,hn=>by rw[cO rfl];exact mj e (by simpa only[fZ] using h) hn
theorem dF(e:COk c):∀(rs:List Rw),bc names c.m c.pieces.length rs->∀(pl:aa_)(j:Nat)(s:Sx),NOk names c.m s.nums->NOk names c.m (bZ c rs pl j s).2.nums
 |[],_,_,_,s,hn=>by simpa only[bZ] using hn
 |r::rs,h,pl,j,s,hn=>by
  simp only[bc]at h;unfold bZ
  split
  .exact dF e rs h.2 _ _ _ (rb e r h.1 _ _ hn)
  .exact rb e r h.1 _ _ hn
end
def Post(ad:Ad)(k:Wk)(c:Cf)(pD:D)(r:Bool×Sx)(M:Mem)(d:D)(Q:DK)(E:DX):Prop:=(r.1=true->Q d (wM ad k c pD r.2 M))/\(r.1=cx->E ad.C_Dry (wM ad k c pD r.2 M))
theorem bE{r:Bool×Sx}(F:∀Q' E',Post ad k c f r M d Q' E'->T ds M0 Q' E'){b:BxQ E Q}(h:Post ad k c f r M d Q E):calls T E ds M0 Q b:=
 am λQ' E' B p=>F Q' E' #[λe=>B _ _ (h.1 e),λe=>p _ _ (h.2 e)]
theorem Post.drp{r:Bool×Sx}(h:Post ad k c f r M d Q E):Post ad k c f r M d (_3.drp Q) (aG E):=#[λe=>ak (h.1 e),λe=>eP (h.2 e)]
theorem qD(F:COk c)(p:NOk names c.m s.nums)(B:x∈names)(h:Post ad k c (aW c names aa8 mk) (nt c pl (lk s.nums x) s) M (.int<|lk s.nums x) Q E):
  qE ad [.ref k.a,iy pl,.str x] (wM ad k c (aW c names aa8 mk) s M) Q E:=by
 have f:∀v:Int,v=lk s.nums x->calls (wQ ad) (aG E) [.ref k.a,iy pl,.int v] (wM ad k c (aW c names aa8 mk) s M) (λ_ M1=>_3.drp Q (.int v) M1) #[]:=by
  rintro v rfl
  exact bE (λQ' E' z=>gH F.most z.1 z.2) #[λe=>ak (h.1 e),λe=>eP (h.2 e)]
 simp![T8,By,pC,yP,Iz,lfm,ci,(p.at B).1,Vq]
 split
 .rename_i e
  exact f 0 (by unfold lk;rw[if_pos e])
 rename_i e
 exact f 1 (by unfold lk;rw[if_neg e])
theorem k9(h:de names m many r):∃w rest,r.d=.tup (.str w::.str (iC r)::rest)/\(w="again")=False/\(w="if")=False:=by
 cases r with
 |two w x y z=>
  refine#[_,_,rfl,?_];rcases h.1 with rfl|rfl|rfl|rfl
  .exact#[by trivial,(eq_false<|by decide +kernel)]
  .exact#[(eq_false<|by decide +kernel),(eq_false<|by decide +kernel)]
  .exact#[(eq_false<|by decide +kernel),(eq_false<|by decide +kernel)]
  exact#[(eq_false<|by decide +kernel),(eq_false<|by decide +kernel)]
 |ifr=>exact h.elim
 |again=>exact h.elim
 |_=>exact#[_,_,rfl,(eq_false<|by decide +kernel),(eq_false<|by decide +kernel)]
theorem sU(R:names.length<=1000)(O:COk c)(H:NOk names c.m s.nums)(f:de names c.m c.pieces.length r)(h:Post ad k c (aW c names aa8 mk) (kY c r pl s) M .non Q E):
  Zp ad (n+1) [.ref k.a,r.d,iy pl] (wM ad k c (aW c names aa8 mk) s M) Q E:=by
 obtain⟨w,rest,J,B,F⟩:=k9 f;have fin:calls (nq ad) (aG E) [aW c names aa8 mk,.ref k.dn,.tup (c.pieces.map D.int),r.d] (wM ad k c (aW c names aa8 mk) s M) (λd M'=>frz d M' λx M1=>
   af 3 x [ap (.ref k.a),ap r.d,ap (iy pl),ca] M1 λU M2=>ai (a_<|dy ad.C_Walk "note_step" (wQ ad) (aG E) 3 (ac 0)<|aa (ac 2)<|aa (ac 3) ag)
    (aq (ac 3)<|cY (aV ad.C_Walk (ac 0) "numbers")<|ah av (ac 1)<|dC<|.int 1) { nx:=λ_ M'=>_3.drp Q .non M',rt:=_3.drp Q } U M2) #[]:=by
  refine aH (λ_ _ q=>oz O H f yP q) ?_;simp![pC,lfm];refine bE (λQ' E' z=>gH O.most z.1 z.2) ?_;unfold kY at h;unfold nt;have e:iC r∈s.nums.map (·.1):=by
   rw[H.keys];cases r with
   |two w x y z=>exact f.2.1
   |ifr=>exact f.elim
   |again=>exact f.elim
   |_=>exact f.1
  split
  .rename_i G
   rw[if_pos G]at h;refine#[λ_=>?_,by lia]
   have I:=h.1 rfl;have P:wM ad k c (aW c names aa8 mk) #[sN s.nums (iC r) (num c s.nums r),s.steps++[(pl,num c s.nums r)]] M=(wM ad k c (aW c names aa8 mk) #[s.nums,s.steps++[(pl,num c s.nums r)]] M).upd k.dn (.dK<|eD (eF s.nums) (UN<|iC r)<|.int<|num c s.nums r):=by
    rw[m7 e,L8]
   rw[P]at I;have p:(eF s.nums).length<sizeLine:=by rw[eF,Uc,<- Uc,H.keys];exact fH (by lia)
   rw[J];simp![pC,yP,Iz,atI_1];exact#[p,ak I]
  .rename_i G
   rw[if_neg G]at h;exact#[by lia,λ_=>eP (h.2 rfl)]
 rw[J]at fin ⊢;simp![HL,qi,pC,lf0,Iz,lf2,atI_0,B,F];exact fin
def Gr(c:Cf)(s s':Sx):Prop:=s.steps.length<=s'.steps.length/\(s.steps.length<=c.most->s'.steps.length<=c.most)
theorem Gr.refl:Gr c s s:=#[by lia,id]
theorem Gr.trans{s2:Sx}(a:Gr c s e)(b:Gr c e s2):Gr c s s2:=#[Uw a.1 b.1,λh=>b.2 (a.2 h)]
theorem nt_gr:Gr c s (nt c pl v s).2:=by
 unfold nt
 split
 .refine#[by simp,λ_=>?_];simp;lia
 exact Gr.refl
theorem lI:Gr c s (kY c r pl s).2:=by
 unfold kY
 split
 .refine#[by simp,λ_=>?_];simp;lia
 exact Gr.refl
theorem Ah{x:Str}(h:∀t s,Gr c s (e t s).2):∀(f t:Nat)(s:Sx),Gr c s (fC c x pl e f t s).2
 |0,_,s=>Gr.refl
 |f+1,t,s=>by
  unfold fC
  split
  .split
   .split
    .exact nt_gr.trans ((h t _).trans<|Ah h f _ _)
    exact nt_gr.trans (h t _)
   exact nt_gr
  exact nt_gr
mutual
theorem tP:∀(r:Rw)(pl:aa_)(s:Sx),Gr c s (iR c r pl s).2
 |.ifr x a b,pl,s=>by
  unfold iR
  split
  .split
   .exact nt_gr.trans (fM a _ _ _)
   .exact nt_gr.trans (fM b _ _ _)
  .exact nt_gr
 |.again x a,pl,s=>by
  unfold iR;exact Ah (λt s=>fM a _ _ _) _ _ _
 |.put x k,pl,s=>by rw[cO rfl];exact lI
 |.take x k,pl,s=>by rw[cO rfl];exact lI
 |.pick x k,pl,s=>by rw[cO rfl];exact lI
 |.two w x y z,pl,s=>by rw[cO rfl];exact lI
theorem fM:∀(rs:List Rw)(pl:aa_)(j:Nat)(s:Sx),Gr c s (bZ c rs pl j s).2
 |[],_,_,s=>by unfold bZ;exact Gr.refl
 |r::rs,pl,j,s=>by
  unfold bZ
  split
  .exact(tP r _ _).trans (fM rs _ _ _)
  .exact tP r _ _
end
theorem gh:D.tup (pl.map D.int++[D.int v])=iy (pl++[v]):=by simp[iy]
def At(ad:Ad)(k:Wk)(c:Cf)(names:aa')(aa8:List Rw)(mk:Str)(n:Nat):Prop:=∀(rs:List Rw)(pl:aa_)(s:Sx)(M:Mem)(Q:DK)(E:DX),bc names c.m c.pieces.length rs->3*dD rs+2<=n->pl.length+2*dD rs+2<=1000->NOk names c.m s.nums->s.steps.length<=c.most->
 Post ad k c (aW c names aa8 mk) (bZ c rs pl 0 s) M .non Q E->Zn ad n [.ref k.a,.tup (aJ rs),iy pl] (wM ad k c (aW c names aa8 mk) s M) Q E
def Ow(ad:Ad)(k:Wk)(c:Cf)(names:aa')(aa8:List Rw)(mk:Str)(n:Nat):Prop:=∀(r:Rw)(pl:aa_)(s:Sx)(M:Mem)(Q:DK)(E:DX),fZ names c.m c.pieces.length r->3*hR r+1<=n->pl.length+2*hR r+1<=1000->NOk names c.m s.nums->s.steps.length<=c.most->
 Post ad k c (aW c names aa8 mk) (iR c r pl s) M .non Q E->Zp ad n [.ref k.a,r.d,iy pl] (wM ad k c (aW c names aa8 mk) s M) Q E
def PIf(ad:Ad)(k:Wk)(c:Cf)(names:aa')(aa8:List Rw)(mk:Str)(n:Nat):Prop:=∀(x:Str)(a b:List Rw)(pl:aa_)(s:Sx)(M:Mem)(Q:DK)(E:DX),fZ names c.m c.pieces.length (.ifr x a b)->3*hR (.ifr x a b)<=n->pl.length+2*hR (.ifr x a b)+1<=1000->NOk names c.m s.nums->s.steps.length<=c.most->
 Post ad k c (aW c names aa8 mk) (iR c (.ifr x a b) pl s) M .non Q E->Zq ad n [.ref k.a,(Rw.ifr x a b).d,iy pl] (wM ad k c (aW c names aa8 mk) s M) Q E
def PAg(ad:Ad)(k:Wk)(c:Cf)(names:aa')(aa8:List Rw)(mk:Str)(n:Nat):Prop:=∀(x:Str)(a:List Rw)(pl:aa_)(s:Sx)(M:Mem)(Q:DK)(E:DX),fZ names c.m c.pieces.length (.again x a)->3*hR (.again x a)<=n->pl.length+2*hR (.again x a)+1<=1000->NOk names c.m s.nums->s.steps.length<=c.most->
 Post ad k c (aW c names aa8 mk) (iR c (.again x a) pl s) M .non Q E->Zr ad n [.ref k.a,(Rw.again x a).d,iy pl] (wM ad k c (aW c names aa8 mk) s M) Q E
theorem Dt(T:COk c)(W:Ow ad k c names aa8 mk n):At ad k c names aa8 mk (n+1):=by
 intro rs pl s M Q E p R H F B h;simp![RA,AV,cW,oR]
 refine cw (λxs U M'=>∃(f:List Rw)(j:Nat)(G:Sx)(S O:Option D),xs=g5 j (aJ f)/\U=[ap _,ap _,ap _,S,O]/\M'=wM ad k c _ G M/\bc _ c.m _ f/\3*dD f+2<=n+1/\pl.length+2*dD f+2<=1000/\NOk _ _ G.nums/\G.steps.length<=c.most/\
  Post ad k c _ (bZ c f pl j G) M _ Q E) (λ_ _ _ _=>aL) ?_ ?_ _ _ _ #[rs,0,s,_,_,rfl,rfl,rfl,p,R,H,F,B,h]
 .rintro U M' ⟨f,j,G,S,O,J,rfl,rfl,p,R,H,F,B,h⟩
  cases f with
  |nil=>exact ak (by simpa [bZ] using h.1 (by simp[bZ]))
  |cons r rs=>trivial
 rintro x xs U M' ⟨f,j,G,S,O,J,rfl,rfl,p,R,H,F,B,h⟩ D' P _ _ _
 cases f with
 |nil=>simp[aJ,g5]at J
 |cons r f=>
  simp only[aJ,g5,Vi]at J;obtain⟨rfl,rfl⟩:=J;simp only[bc]at p;have X:hR r<=dD (r::f)/\dD f<=dD (r::f):=by simp only[dD];lia
  simp![iy,UG,Uc];refine#[bh (by decide),bh (by lia),?_]
  rw[gh];refine bE (r:=iR c r (pl++[(j:Int)]) G) (d:=.non) (λQ' E' z=>W r (pl++[(j:Int)]) G M Q' E' p.1 (by lia) (by simp;lia) F B z) ?_
  simp only[bZ]at h;cases I:(iR c r (pl++[(j:Int)]) G).1 with
  |true=>
   rw[if_pos I]at h;refine#[λ_=>P _ _ #[f,j+1,_,_,_,rfl,rfl,rfl,p.2,by lia,by lia,rb T r p.1 _ _ F,(tP r _ _).2 B,h],λe=>by rw[I]at e;cases e]
  |false=>
   rw[if_neg (by rw[I];simp)]at h
   exact#[λe=>(by rw[I]at e;cases e),λ_=>eP (h.2 I)]
theorem Fo(H:names.length<=1000)(I:COk c)(F:PIf ad k c names aa8 mk n)(G:PAg ad k c names aa8 mk n):Ow ad k c names aa8 mk (n+1):=by
 intro r pl s M Q E p J f e B h;cases r with
 |ifr x a b=>
  simp![HL,qi,Rw.d,atI_0];exact bE (λQ' E'=>F x a b pl s M Q' E' p (by lia) f e B) h.drp
 |again x a=>
  simp![HL,qi,Rw.d,atI_0];exact bE (λQ' E'=>G x a pl s M Q' E' p (by lia) f e B) h.drp
 |_=>rw[cO rfl]at h;exact sU H I e (by assumption) h
theorem Ll(O:COk c)(I:At ad k c names aa8 mk n):PIf ad k c names aa8 mk (n+1):=by
 intro x a b pl s M Q E p J F B H h;simp only[hR]at J F;simp![Sq,zk,Rw.d,pC,lfl,atI_1,atI_2,atI_3];refine bE (λQ' E' z=>qD O B p.1 z) ?_;have hl:lk s.nums x=0\/lk s.nums x=1:=by unfold lk;split<;>simp
 have e:NOk names c.m (nt c pl (lk s.nums x) s).2.nums:=by rw[fQ];exact B
 have f:=(nt_gr (pl:=pl) (v:=lk s.nums x)).2 H;unfold iR at h;cases G:(nt c pl _ s).1 with
 |false=>
  rw[if_neg (by rw[G];simp)]at h
  exact#[by lia,λ_=>eP (h.2 G)]
 |true=>
  rw[if_pos G]at h;refine#[λ_=>?_,by lia]
  rcases hl with hl|hl
  .rw[hl]at h e f ⊢
   simp![atI_2,atI_3,iy,Uc];refine#[bh (by decide),bh (by lia),?_]
   rw[gh];exact bE (λQ' E' z=>I b _ _ M Q' E' p.2.2 (by lia) (by simp;lia) e f z) h.drp
  .rw[hl]at h e f ⊢
   simp![atI_2,atI_3,iy,Uc];refine#[bh (by decide),bh (by lia),?_]
   rw[gh];exact bE (λQ' E' z=>I a _ _ M Q' E' p.2.1 (by lia) (by simp;lia) e f z) h.drp
theorem xJ(hc:COk c)(ih:At ad k c names aa8 mk n):PAg ad k c names aa8 mk (n+1):=by
 intro x a pl s M Q E I hn Y F J h;simp only[fZ]at I;simp only[hR]at hn Y;refine#[c.most+1,?_];unfold iR at h
 have X:∀(f t:Nat)(s:Sx)(R:fb)(O:ar)(DD:DEnds)(b:BxW R O DD),NOk names c.m s.nums->s.steps.length<=c.most->c.most<s.steps.length+f->
   R=al (ah bW (ao<|dy ad.C_Walk "look" (qE ad) (aG E) 3 (ac 0)<|aa (ah ba (ac 2)<|aU<|aa (ac 3) ag)<|aa (ah av (ac 1)<|dC<|.int 1) ag)<|dC<|.int 1)->
   O=ai (a_<|aj (Zn ad n) (aG E) 3<|aa (ac 0)<|aa (ah av (ac 1)<|dC<|.int 2)<|aa (ah ba (ac 2)<|aU<|aa (ac 3) ag) ag) (HX 3 (dC<|.int 1) Fg)->
   DD.nx=(λ_ M'=>_3.drp Q .non M')->
   Post ad k c (aW c names aa8 mk) (fC c x pl (λt s=>bZ c a (pl++[(t:Int)]) 0 s) f t s) M .non Q E->
   cK R O DD b f [ap (.ref k.a),ap (.tup [.str "again",.str x,.tup (aJ a)]),ap (iy pl),ap (.int (t:Int))] (wM ad k c (aW c names aa8 mk) s M):=by
  intro f
  induction f with
  |zero=>intro t s R O DD b F J hf;lia
  |succ f ihf=>
   intro t s R O DD b F J hf W T P h;unfold cK;subst W;simp![pC,lfl,atI_1,iy,UG,Uc];refine#[bh (by decide),bh (by lia),?_]
   rw[gh];refine bE (d:=.int (lk s.nums x)) (λQ' E' z=>qD hc F I.1 z) ?_;have hl:lk s.nums x=0\/lk s.nums x=1:=by unfold lk;split<;>simp
   have G:NOk names c.m (nt c (pl++[(t:Int)]) (lk s.nums x) s).2.nums:=by rw[fQ];exact F
   have p:=(nt_gr (c:=c) (pl:=pl++[(t:Int)]) (v:=lk s.nums x) (s:=s)).2 J;unfold fC at h;cases H:(nt c (pl++[(t:Int)]) (lk s.nums x) s).1 with
   |false=>
    rw[if_neg (by rw[H];simp)]at h
    exact#[λe=>(by rw[H]at e;cases e),λ_=>eP (h.2 H)]
   |true=>
    rw[if_pos H]at h;refine#[λ_=>?_,λe=>by rw[H]at e;cases e]
    have S:(nt c (pl++[(t:Int)]) (lk s.nums x) s).2.steps.length=s.steps.length+1:=by
     unfold nt at H ⊢
     split at H
     .rename_i q;rw[if_pos q];simp
     .cases H
    rcases hl with hl|hl
    .rw[hl]at h ⊢
     simp![show ((0:Int)=1)=False from eq_false (by decide)]
     rw[P];rw[hl]at H;exact ak (h.1 H)
    .rw[if_pos hl]at h
     rw[hl]at h G p S ⊢;simp![];subst T;simp![atI_2,iy,UG,Uc];refine#[bh (by decide),bh (by lia),?_]
     rw[gh];refine bE (λQ' E' z=>ih a (pl++[(t:Int)]) _ M Q' E' I.2 (by lia) (by simp;lia) G p z) ?_
     have Z:=fM (c:=c) a (pl++[(t:Int)]) 0 (nt c (pl++[(t:Int)]) 1 s).2;cases B:(bZ c a (pl++[(t:Int)]) 0 (nt c (pl++[(t:Int)]) 1 s).2).1 with
     |true=>
      rw[if_pos B]at h;refine#[λ_=>?_,λe=>by rw[B]at e;cases e]
      simp![];exact ihf (t+1) _ _ _ _ _ (dF hc a I.2 _ _ _ G) (Z.2 p) (by have:=Z.1;lia) rfl rfl P h
     |false=>
      rw[if_neg (by rw[B];simp)]at h
      exact#[λe=>(by rw[B]at e;cases e),λ_=>eP (h.2 B)]
 exact X (c.most+1) 0 s _ _ _ _ F J (by lia) rfl rfl rfl h
theorem vp(f:names.length<=1000)(e:COk c):∀n:Nat,At ad k c names aa8 mk n/\Ow ad k c names aa8 mk n/\PIf ad k c names aa8 mk n/\PAg ad k c names aa8 mk n
 |0=>#[λrs pl s M Q E _ h=>by lia,λr pl s M Q E _ h=>by lia,λx a b pl s M Q E _ h=>by simp[hR]at h;lia,λx a pl s M Q E _ h=>by simp[hR]at h;lia]
 |n+1=>by
  obtain⟨p,F,G,B⟩:=vp f e n;exact#[Dt e F,Fo f e G B,Ll e p,xJ e p]
theorem wq:∀(names:aa')(nums:aa_)(aa4:cH),names.length=nums.length->(aa4.map (·.1)++names).Nodup->
  ((names.map λx=>(UN x:aC)).zip<|nums.map D.int).foldl (λa p=>eD a p.1 p.2) (eF aa4)=eF (aa4++names.zip nums)
 |[],nums,aa4,_,_=>by simp
 |x::names,[],aa4,h,_=>by simp at h
 |x::names,v::nums,aa4,h,nd=>by
  have I:x∉aa4.map (·.1):=by
   exact λH=>((Ws.mp nd).2.2) x H x (by simp) rfl
  have f:((eF aa4).any λJ=>decide (J.1=UN x))=false:=by
   rw[XQ];intro p B;simp only[eF,Ul]at B;obtain⟨q,G,rfl⟩:=B;simp only[decide_eq_true_eq];intro e;exact I (by rw[<- (Sum.inr.inj e)];exact UK G)
  simp;have F:eD (eF aa4) (UN x) (.int v)=eF (aa4++[(x,v)]):=by
   unfold eD;rw[f];simp[eF]
  rw[F,wq _ _ _ (by simpa using h) (by simp_all)]
  simp
theorem eQ:∀names:List Str,eR (names.map D.str)=ap (names.map λx=>(UN x:aC))
 |[]=>rfl
 |x::names=>by simp[eR,cN,eQ _]
theorem gx(h:names.length=nums.length)(nd:names.Nodup):MS (names.map λx=>(UN x:aC)) (nums.map D.int)=eF (names.zip nums):=by
 have:=wq _ _ [] h (by trivial)
 assumption
theorem dp1:bV "plan" d []=[(("plan":Str),d)]:=rfl
theorem dp2{a:D}:bV "numbers" d [(("plan":Str),a)]=[(("plan":Str),a),(("numbers":Str),d)]:=rfl
theorem dp3{a b:D}:bV "pieces" d [(("plan":Str),a),(("numbers":Str),b)]=[(("plan":Str),a),(("numbers":Str),b),(("pieces":Str),d)]:=rfl
theorem dp4{a b:D}:bV "most" d [(("plan":Str),a),(("numbers":Str),b),(("pieces":Str),e)]=[(("plan":Str),a),(("numbers":Str),b),(("pieces":Str),e),(("most":Str),d)]:=rfl
theorem dp5{a b g:D}:bV "steps" d [(("plan":Str),a),(("numbers":Str),b),(("pieces":Str),e),(("most":Str),g)]=[(("plan":Str),a),(("numbers":Str),b),(("pieces":Str),e),(("most":Str),g),(("steps":Str),d)]:=rfl
noncomputable def bC(nums pieces:aa_):D:=.tup [.tup (nums.map D.int),.tup (pieces.map D.int)]
theorem D3{a:cp}(J:M a=ca)(F:names.length=nums.length)(H:names.Nodup)(I:0<names.length)(G:names.length<=1000)(h:∀(k:Wk),k.a=a->M k.dn=ca->M k.ls=ca->Q .non (wM ad k c (aW c names rows mk) #[names.zip nums,[]] M)):
  Bb ad [.ref a,aW c names rows mk,bC nums c.pieces,.int (c.most:Nat)] (M.upd a<|.ins ad.C_Walk []) Q E:=by
 simp![RF,zV,aW,bC,Mem.upd_upd,atI_0,atI_1,eQ,Uc,dp1];refine#[by decide,F,I,G,λdn p=>?_]
 have n1:=Mem.ne Mem.upd_same p;simp![ae n1,atI_1];refine#[by simp,?_]
 simp![dp2,dp3,aA (UO n1),Mem.upd_upd];refine#[by simp,?_]
 refine#[by simp,by trivial,λls f=>?_]
 have n2:a≠ls:=by
  rintro rfl
  rw[ae n1,Mem.upd_same]at f;cases f
 have B:dn≠ls:=by
  intro e;simp_all
 simp![ae n2,ae n1,dp4,aA (UO n1),Mem.upd_upd,gx F H];refine#[by simp,ak ?_]
 have:=h #[a,dn,ls,n1,n2,B] rfl (by rw[ae (UO n1)]at p;exact p) (by rw[ae (UO B),ae (UO n2)]at f;exact f)
 have e:wM ad #[a,dn,ls,n1,n2,B] c (aW c names rows mk) #[names.zip nums,[]] M=(((M.upd a<|.ins ad.C_Walk [("plan",aW c names rows mk),("numbers",.ref dn),("pieces",.tup (c.pieces.map D.int)),("most",.int c.most)]).upd dn<|.dK<|eF<|names.zip nums).upd ls<|.lst []).upd a (.ins ad.C_Walk [("plan",aW c names rows mk),("numbers",.ref dn),("pieces",.tup (c.pieces.map D.int)),("most",.int c.most),("steps",.ref ls)]):=by
  rw[aA (UO n2),aA (UO n1),Mem.upd_upd];rfl
 rw[e]at this;exact this
def dq(c:Cf)(names:aa')(rows:List Rw)(nums:aa_):Bool×Sx:=bZ c rows [] 0 #[names.zip nums,[]]
def dz(names:aa')(r:Bool×Sx):D:=if r.1=true then .tup (names.map λx=>.int (nm r.2.nums x)) else .non
structure PlOk(c:Cf)(names:aa')(rows:List Rw)(nums:aa_):Prop where
 co:COk c
 ln:names.length=nums.length
 nd:names.Nodup
 l0:0<names.length
 l1:names.length<=1000
 rng:∀v∈nums,0<=v/\v<c.m
 ok:bc names c.m c.pieces.length rows
 h:dD rows<=7
theorem gs:∀{names:aa'}{nums:aa_},names.length=nums.length->(names.zip nums).map (·.1)=names
 |[],[],_=>rfl
 |[],_::_,h=>by simp at h
 |_::_,[],h=>by simp at h
 |x::xs,v::vs,h=>by simp[gs (by simpa using h)]
theorem PlOk.nok(p:PlOk c names rows nums):NOk names c.m (names.zip nums):=#[gs p.ln,λq e=>p.rng _ (Wj e).2]
theorem EB(p:PlOk c names rows nums)(h:∀l,M l=ca->Q (.tup [.ref l,dz names (dq c names rows nums)]) (M.upd l<|.lst<|ye (dq c names rows nums).2.steps)):
  uV ad [aW c names rows mk,bC nums c.pieces,.int (c.most:Nat)] M Q E:=by
 simp![RD,yE];intro a X;refine am λQ' E' I _=>D3 X p.ln p.nd p.l0 p.l1 λk hk R G=>I _ _ ?_;subst hk;have f:∀(O:Sx),∀b o,(M.upd k.ls<|.lst<|ye O.steps) b=ap o->wM ad k c (aW c names rows mk) O M b=ap o:=by
  intro O b o e
  by_cases P:b=k.ls
  .subst P;rw[Mem.upd_same]at e;rw[LD];exact e
  .rw[ae P]at e
   have Z:b≠k.dn:=by rintro rfl;rw[R]at e;cases e
   have h3:b≠k.a:=by rintro rfl;rw[X]at e;cases e
   unfold wM;rw[ae P,ae Z,ae h3];exact e
 have Y:=(vp (ad:=ad) (k:=k) (aa8:=rows) (mk:=mk) p.l1 p.co 24).1 rows [] #[names.zip nums,[]] M;unfold aW at Y;simp![aW,atI_3];refine#[bh (by decide),?_]
 refine am λQ2 E2 W T=>Y Q2 E2 p.ok (by have:=p.h;lia) (by have:=p.h;simp;lia) p.nok (Vg _) #[λe=>W _ _ ?_,λe=>T _ _ #[rfl,?_]]
 .have hn:NOk names c.m (dq c names rows nums).2.nums:=dF p.co rows p.ok [] 0 #[names.zip nums,[]] p.nok
  have J:(dq c names rows nums).1=true:=e;simp![pC,lf4,atI_1,aO]
  refine bM (λxs aa4 U M'=>∃n1 n2 H,names=n1++n2/\xs=n2.map D.str/\aa4=n1.map (λx=>D.int (nm (dq c names rows nums).2.nums x))/\U=[H,ap (.ref k.a)]/\M'=wM ad k c (aW c names rows mk) (dq c names rows nums).2 M)
   (λ_ _ _ _ _=>aL) ?_ ?_ ?_ _ _ _ _ #[[],names,ca,rfl,rfl,rfl,rfl,rfl]
  .rintro aa4 U M' ⟨n1,n2,H,B,F,rfl,rfl,rfl⟩
   have:n2=[]:=by cases n2 with|nil=>rfl|cons _ _=>simp at F
   subst this;intro q I;simp![Mem.upd_upd,Mem.upd_del,au I];refine#[bh (by decide),#[_,f _,?_]]
   have:=h k.ls G;unfold dz at this;rw[if_pos J]at this;have en:n1=names:=by simpa using B.symm
   rw[en];exact this
  .rintro x xs aa4 U M' ⟨n1,n2,H,B,F,rfl,rfl,rfl⟩ N hN _
   cases n2 with
   |nil=>simp at F
   |cons y n2=>
    simp only[Ue,Vi]at F;obtain⟨rfl,rfl⟩:=F;have hy:y∈names:=by rw[B];simp
    simp![pC,yP,Iz,ci,(hn.at hy).1,Vq];refine hN _ _ _ ?_ #[n1++[y],n2,_,by simp[B],rfl,by simp,rfl,rfl]
    have S:=congrArg VO B;have:=p.l1;simp at S ⊢;exact fH (by lia)
  .rintro x xs aa4 U M' ⟨n1,n2,H,B,F,rfl,rfl,rfl⟩
   have S:=congrArg VO B;have:=p.l1;simp at S ⊢;exact fH (by lia)
 .have J:(dq c names rows nums).1=false:=e
  simp![pC,lf4];refine#[bh (by decide),#[_,f _,?_]]
  have:=h k.ls G;unfold dz at this;rw[if_neg (by rw[J];simp)]at this
  exact this
structure Pt where
 p:cp
 q:cp
 ne:p≠q
def Has(k:Pt)(M:Mem):Prop:=∃(cells:aa_)(t h sd:Int),cells.length<=63/\M k.p=ap (.lst [.ref k.q,.int t,.int h,.int sd])/\M k.q=ap (.lst<|cells.map D.int)
def Dr(k:Pt)(M M':Mem):Prop:=Has k M'/\∀b,b≠k.p->b≠k.q->M' b=M b
theorem Has.refl(h:Has k M):Dr k M M:=#[h,by lia]
theorem Dr.trans{M1 M2:Mem}(a:Dr k M M1)(b:Dr k M1 M2):Dr k M M2:=#[b.1,λx f e=>(b.2 x f e).trans (a.2 x f e)]
theorem Has.nep(h:Has k M)(F:M l=ca):l≠k.p/\l≠k.q:=by
 obtain⟨e,t,hh,sd,_,f,B⟩:=h;exact#[by lia,by lia]
theorem Has.upd(h:Has k M)(f:l≠k.p/\l≠k.q):Has k (M.upd l o):=by
 obtain⟨e,t,hh,sd,B,F,G⟩:=h;exact#[_,t,hh,sd,B,by rw[ae (UO f.1)];exact F,by rw[ae (UO f.2)];exact G]
theorem Has.del(h:Has k M)(f:l≠k.p/\l≠k.q):Has k (M.del l):=by
 obtain⟨e,t,hh,sd,B,F,G⟩:=h;exact#[_,t,hh,sd,B,by unfold Mem.del;rw[if_neg (UO f.1)];exact F,by unfold Mem.del;rw[if_neg (UO f.2)];exact G]
theorem Dr.none{k:Pt}(f:Has k M)(h:Dr k M M')(e:M l=ca):M' l=none:=by
 have:=f.nep e;rw[h.2 l this.1 this.2];exact e
theorem gU:∀(n:Nat)(e:aa_),fits n (e.map D.int)=true
 |_,[]=>by rfl
 |n,c::e=>by
  rw[Ue];unfold fits;rw[gU n e];rfl
theorem jF{b:Int}(h:∀r,Q (.int r) M):ng ad [.int a,.int b] M Q E:=by
 simp![RJ,za];refine#[.inr (by decide),.inr (by decide),by decide,by trivial,.inr (by decide),by decide,by trivial,ak<|h _]
theorem Fs{x:α}{xs:List α}:fJ (x::xs) 0=ap x:=by rfl
theorem uA(h:0<m):0<=a % m/\a % m<m:=#[VP _ (by lia),Vx _ h]
theorem jL{i:Int}(h:0<=i)(e:i<n):xP n i=ap i.toNat:=by unfold xP;simp_all
theorem ix0:xP (n+1) 0=ap 0:=jL (by decide) (by lia)
theorem TB:xP 4 2=ap 2:=rfl
theorem cy{s u:ar}(h:s { D0 with nx:=u D0 } U M):ai s u D0 U M:=h
theorem Ko{k:Pt}(f:U[0]?=ap (ap<|.ref k.p))(e:M k.p=ap (.lst [.ref k.q,.int t,.int hh,.int sd]))(h:D0.nx U (M.upd k.p<|.lst [.ref k.q,.int (t+1),.int hh,.int sd])):
  aq (ah ba (ah av (ac 0)<|dC<|.int 1)<|dC<|.int 1) (cY (ac 0)<|dC<|.int 1) D0 U M:=by
 simp![f,e,atI_1];exact h
theorem zm{k:Pt}(e:0<many)(I:many<2 ^ 62)(h:M k.p=ap (.lst [.ref k.q,.int t,.int hh,.int sd]))(H:∀r,D0.rt (.int<|r % many) M)(F:D0.rt (.int<|hh % many) (M.upd k.p<|.lst [.ref k.q,.int t,.int (hh / many),.int sd])):
  (ai (aE (al<|ah bW (ah av (ac 0)<|dC<|.int 2)<|dC<|.int 0) (az<|ah gb (ao<|aj (ng ad) EE 2<|aa (ah av (ac 0)<|dC<|.int 3)<|aa (ah av (ac 0)<|dC<|.int 1) ag)<|ac 1) aB)
  (ai (aq (ah gb (ah av (ac 0)<|dC<|.int 2)<|ac 1)<|af 3)
  (ai (aq (ah wg (ah av (ac 0)<|dC<|.int 2)<|ac 1)<|cY (ac 0)<|dC<|.int 2)
  (az<|ac 3)))) D0 [ap (.ref k.p),ap (.int many),G,ca] M:=by
 simp![h,atI_1,atI_2,atI_3]
 by_cases f:hh=0
 .rw[if_pos f]
  refine am λQ' E' B _=>jF λr=>B _ _ ?_;simp![];exact#[e,H r]
 .rw[if_neg f]
  simp![h,TB];exact#[e,#[e,by lia],F]
theorem Lk{k:Pt}(P:0<many)(h:M k.p=ap (.lst [.ref k.q,.int t,.int hh,.int sd]))(G:M k.q=ap (.lst<|cells.map D.int))(R:D0.nx [ap (.ref k.p),ap (.int many),ca,ca] M)(O:∀c cs,hh=0->cells=c::cs->∀r,D0.rt (.int<|r % many) (M.upd k.q<|.lst<|cs.map D.int))(J:∀c cs,hh=0->cells=c::cs->¬c<10 ^ VY 18->D0.nx [ap (.ref k.p),ap (.int many),ap (.int c),ca] ((M.upd k.q<|.lst<|cs.map D.int).upd k.p<|.lst [.ref k.q,.int t,.int c,.int sd])):
  aE (kZ (al<|ah bW (ah av (ac 0)<|dC<|.int 2)<|dC<|.int 0)<|al<|ah pO (ah av (ac 0)<|dC<|.int 0)<|ao<|bv ag) (ai (aq (iS "list" DM (ah av (ac 0)<|dC<|.int 0)<|aa (dC<|.int 0) ag)<|af 2)
   (ai (aE (al<|ah E6 (ac 2)<|ah OV (dC<|.int 10)<|dC<|.int 18) (az<|ah gb (ao<|aj (ng ad) EE 2<|aa (ac 2)<|aa (ah av (ac 0)<|dC<|.int 1) ag)<|ac 1) aB)
   (aq (ac 2)<|cY (ac 0)<|dC<|.int 2))) aB D0 [ap (.ref k.p),ap (.int many),ca,ca] M:=by
 simp![h,atI_2,Fs]
 by_cases f:hh=0
 .rw[if_pos f]
  refine#[by trivial,λp F=>?_]
  simp[au F,G];cases cells with
  |nil=>
   trivial
  |cons c cs=>
   have I:∀B,(M.upd _ B) _=ap _:=λB=>by rw[ae k.ne,h]
   simp![Mem.upd_del,au F,Fs,h,G,I,gU,ix0,atI_1];refine#[by trivial,?_]
   by_cases e:c<10 ^ VY 18
   .rw[if_pos e]
    exact am λQ' E' H _=>jF λr=>H _ _ #[P,O c cs f rfl r]
   rw[if_neg e];exact J c cs f rfl e
 simp_all
theorem jT(hp:Has k M)(J:0<many)(S:many<2 ^ 62)(h:∀r M',0<=r->r<many->Dr k M M'->Q (.int r) M'):
  aZ ad [.ref k.p,.int many] M Q E:=by
 obtain⟨B,t,hh,sd,H,W,e2⟩:=hp;have e:=k.ne;have fin:∀(r:Int)(M':Mem)(cells':List _)(R G I:Int),cells'.length<=63->(∀b,b≠k.p->b≠k.q->M' b=M b)->M' k.p=ap (.lst [.ref k.q,.int R,.int G,.int I])->M' k.q=ap (.lst<|cells'.map D.int)->drp Q (.int<|r % many) M':=by
  intro r M' cells' R G I T X a3 Y;exact ak (h _ _ (uA J).1 (uA J).2 #[#[_,R,_,_,T,a3,Y],X])
 have g1:∀o,(M.upd _ o) _=ap _:=λo=>by rw[ae (UO e)];exact e2
 refine cy (Ko rfl W ?_);refine cy (Lk J Mem.upd_same (g1 _) ?_ (λc O Z P r=>?_) λc O Z P hb=>?_)
 .exact zm J S Mem.upd_same (λr=>(fin _ _ B _ _ _ H (λb f F=>ae f) Mem.upd_same<|g1 _)) (fin _ _ B _ _ _ H (λb f F=>by rw[ae f,ae f]) Mem.upd_same<|by rw[ae (UO e),g1])
 .subst P
  exact fin _ _ O _ _ _ (by simp at H;lia) (λb f F=>by rw[ae F,ae f]) (by rw[ae e,Mem.upd_same]) Mem.upd_same
 .subst P
  exact zm J S Mem.upd_same (λr=>(fin _ _ O _ _ _ (by simp at H;lia) (λb f F=>by rw[ae f,ae F,ae f]) Mem.upd_same<|by rw[ae (UO e),Mem.upd_same])) (fin _ _ O _ _ _ (by simp at H;lia) (λb f F=>by rw[ae f,ae f,ae F,ae f]) Mem.upd_same<|by rw[ae (UO e),ae (UO e),Mem.upd_same])
theorem Kv{xs:List D}{k:Nat}:oU xs ca (ap (k:Int))=xs.take k:=by
 unfold oU;rw[HT.FM,HT.IH]
 simp_all
theorem Ek(h:∀(k:Pt) M',Has k M'->(∀b,b≠k.p->b≠k.q->M' b=M b)->Q (.ref k.p) M'):Bz ad [.ml (ns.map D.int)] M Q E:=by
 have B:oU (ns.map D.int) ca (ap 63)=(ns.take 63).map D.int:=by rw[List.map_take];exact Kv
 simp![TQ,Cg,cW,B];intro a I;refine cw (λxs U M'=>∃(f:List _)(sd:Int)(F:Option D),xs=f.map _/\U=[ap _,ap (.int sd),F]/\M'=M) (λ_ _ _ _=>aL) ?_ ?_ _ _ _ #[_,7,_,rfl,rfl,by rw[Mem.upd_del,au I]]
 .rintro U M' ⟨f,sd,F,_,rfl,rfl⟩
  simp![B];intro b J;rw[Mem.upd_del,au J];intro q R;refine#[by trivial,λp S=>?_]
  have ne:p≠q:=by intro e;simp_all
  refine ak (h #[p,q,ne] _ #[ns.take 63,0,0,sd,by simp;lia,Mem.upd_same,?_] λb P O=>?_)
  .rw[ae (UO ne),Mem.upd_same]
  rw[ae P,ae O]
 rintro x xs U M' ⟨f,sd,F,G,rfl,rfl⟩ D' H _ _ _
 cases f with
 |nil=>simp at G
 |cons c f=>
  simp at G;obtain⟨rfl,rfl⟩:=G;simp![];exact#[.inr (by decide),by decide,H _ _<|by lia]
noncomputable def alpha:Str:="abcdefghijklmnopqrstuvwxyz"
theorem GH:∀i<26,alpha.cps.toList[i]?=ap (97+i):=by decide +kernel
theorem Do:alpha.length<=sizeLine:=Uw (show alpha.length<=100 by trivial) (by decide)
theorem uH(F:names.length<=12)(h:∀(j:Nat)(p:j<names.length),names[j].cps[0]?=ap (97+(t+7*j) % 26)):names.Nodup:=by
 refine W5.mpr λi j B p f e=>?_
 grind
def KA(x:Str):Prop:=∃(n c:Nat),1<=n/\n<=8/\97<=c/\c<=122/\x=#[Wi n c]
theorem xa{many:Nat}(hp:Has k M)(h1:many<=12)(h:∀(names:aa')(M':Mem),names.length=many->names.Nodup->(∀x∈names,KA x)->Dr k M M'->Q (.tup<|names.map D.str) M'):Ch ad [.ref k.p,.int many] M Q E:=by
 simp![TZ,A2,cW];refine am λQ' E' W _=>jT hp (by decide) (by decide) λturn M1 t0 t1 R=>W _ _ ?_
 simp![];refine#[bh (by decide),λl hl=>?_]
 have f:=R.1.nep hl;refine#[by lia,by lia,?_]
 obtain⟨t,rfl⟩:=YS t0
 refine cw (λxs U M'=>∃(j:Nat)(aa4:aa')(S c5:Option D),j<=many/\xs=(Wn j (many-j)).map (λ(i:Nat)=>D.int (0+(i:Int)))/\U=[ap (.ref k.p),ap (.int (many:Nat)),ap (.int (t:Nat)),ap (.ref l),S,c5]/\aa4.length=j/\(∀(i:Nat)(O:i<aa4.length),aa4[i].cps[0]?=ap (97+(t+7*i) % 26))/\(∀x∈aa4,KA x)/\
  Has k M'/\M' l=ap (.lst<|aa4.map D.str)/\∀b,b≠k.p->b≠k.q->b≠l->M' b=M1 b) (λ_ _ _ _=>aL) ?_ ?_ _ _ _ #[0,[],ca,ca,Vg _,?_,rfl,rfl,?_,by simp,R.1.upd f,Mem.upd_same,λb _ _ hb=>ae hb]
 .rintro U M' ⟨j,aa4,S,c5,hj,e,rfl,J,hf,B,hh,P,Y⟩
  have:j=many:=by
   have:=congrArg VO e;simp at this;lia
  subst this;simp![P];refine#[M'.del l,λb o e=>?_,h aa4 _ J (uH (by lia) hf) B #[hh.del f,λb G H=>?_]]
  .unfold Mem.del at e;split at e
   .cases e
   .exact e
  .unfold Mem.del
   split
   .rename_i e;subst e;rw[<- R.2 b G H];exact hl.symm
   .rename_i e;rw[Y b G H e,R.2 b G H]
 .rintro x xs U M' ⟨j,aa4,S,c5,hj,e,rfl,J,hf,B,hh,P,Y⟩ D' T _ _ _
  have hjl:j<many:=by
   have:=congrArg VO e;simp at this;lia
  obtain⟨n,hn⟩:∃n,many-j=n+1:=#[many-j-1,by lia]
  rw[hn,List.range'_succ,Ue,Vi]at e;obtain⟨rfl,rfl⟩:=e;have F:fJ alpha.cps.toList (((t:Nat)+7*(0+(j:Int))) % 26)=ap (97+(t+7*j) % 26):=by
   have:(((t:Nat):Int)+7*(0+(j:Int))) % 26=(((t+7*j) % 26:Nat):Int):=by lia
   rw[this,bG (by lia),UL,GH _ (by lia)]
  simp only[alpha]at F;simp![F,P];refine#[.inl (by decide),by decide,Do,?_]
  refine am λQ' E' W _=>jT hh (by decide) (by decide) λr M2 r0 r1 Z=>W _ _ ?_
  have X:M2 l=ap (.lst<|aa4.map D.str):=by rw[Z.2 l f.1 f.2];exact P
  simp![X];refine#[by lia,by lia,by simp;exact fH (by lia),T _ _ #[j+1,aa4++[#[Wi (1+r).toNat (97+(t+7*j) % 26)]],_,_,by lia,?_,rfl,by simp[J],?_,?_,Z.1.upd f,?_,?_]]
  .rw[show many-(j+1)=n by lia]
  .intro i O
   by_cases I:i<aa4.length
   .rw[List.getElem_append_left I];exact hf i I
   .have:i=aa4.length:=by simp at O;lia
    subst this;rw[List.getElem_append_right (Um _)]
    simp_arith! only[Nat.sub_self,List.getElem_cons_zero]
    rw[Array.getElem?_replicate,if_pos (by lia),J]
  .intro x hx
   rcases Uz.mp hx with hx|hx
   .exact B x hx
   .simp at hx;subst hx
    exact#[(1+r).toNat,97+(t+7*j) % 26,by lia,by lia,by lia,by lia,rfl]
  .rw[Mem.upd_same];simp
  .intro b G H b3
   rw[ae b3,Z.2 b G H,Y b G H b3]
 .simp[cF,V4]
 .intro i O;simp at O
@[simp] theorem atI_5{xs:List α}:fJ xs 5=xs[5]?:=bG (by decide)
@[simp] theorem atI_6{xs:List α}:fJ xs 6=xs[6]?:=bG (by decide)
@[simp] theorem atI_7{xs:List α}:fJ xs 7=xs[7]?:=bG (by decide)
@[simp] theorem atI_8{xs:List α}:fJ xs 8=xs[8]?:=bG (by decide)
theorem lH{r:Int}(f:0<=r)(h:r<names.length):∃y,y∈names/\fJ (names.map D.str) r=ap (.str y):=by
 have e:r.toNat<names.length:=by lia
 refine#[_,V8 e,?_];rw[bG f,Uo,Ud e];rfl
structure ToldOk(names:aa')(m many:Int):Prop where
 m2:2<=m
 m1:m<=997
 n0:0<names.length
 n1:names.length<=12
 k0:0<=many
 k1:many<=40
noncomputable def kh(names:aa')(m many:Int):D:=.tup [.int m,.tup (names.map D.str),.int many]
theorem aN{b:BxQ EE Q}(f:Has k M)(B:0<many)(F:many<2 ^ 62)(h:∀r M',0<=r->r<many->Dr k M M'->Q (.int r) M'):calls (aZ ad) EE [.ref k.p,.int many] M Q b:=
 am λQ' E' e _=>jT f B F λr M' H G d=>e _ _ (by simp_all)
theorem P2(h:te U M λd M1=>D0.nx (U.set i<|some d) M1):aq te (af i) D0 U M:=h
theorem Ia(h:U[i]?=ap (ap d))(e:K d M):ac i U M K:=by simp_arith! only[ac,h];exact e
theorem xM{c:Str}(f:U[i]?=ap (ap<|.str w))(p:w=c->A D0 U M)(h:w≠c->B D0 U M):aE (al<|ah bW (ac i)<|dC<|.str c) A B D0 U M:=by
 have e:aE (al<|ah bW (ac i)<|dC<|.str c) A B D0 U M=(if w=c then A D0 U M else B D0 U M):=by
  simp[aE,al,ah,ac,dC,bW,cP,dv,aR,f,L4,uF]
 rw[e]
 by_cases q:w=c
 .rw[if_pos q];exact p q
 rw[if_neg q];exact h q
theorem Oo(f:U[0]?=ap (ap<|.ref k.p))(B:∀K:DK,K (.int v) M->te U M K)(e:Has k M)(v0:0<v)(v1:v<2 ^ 62)(h:∀r M',0<=r->r<v->Dr k M M'->K (.int r) M'):
  aj (aZ ad) EE 2 (aa (ac 0)<|aa te ag) U M K:=by
 simp_arith! only[aj,aa,ac,ag,f]
 refine B _ ?_;exact#[rfl,aN e v0 v1 h]
theorem Kk(h:te U M λd M'=>frz d M' K):ao te U M K:=h
theorem N4(h0:U[0]?=ap (ap<|.ref k.p))(ht:∀K:DK,K (.int v) M->te U M K)(hp:Has k M)(v0:0<v)(v1:v<2 ^ 62)(h:∀r M',0<=r->r<v->Dr k M M'->K (.int r) M'):
  ao (aj (aZ ad) EE 2<|aa (ac 0)<|aa te ag) U M K:=
 Kk (Oo h0 ht hp v0 v1<|by trivial)
theorem Pf(I:U[0]?=ap (ap<|.ref k.p))(e:U[i]?=ap (ap<|.tup<|names.map D.str))(H:Has k M)(J:0<names.length)(n1:names.length<=12)(h:∀x M',x∈names->Dr k M M'->K (.str x) M'):
  ah av (ac i) (ao<|aj (aZ ad) EE 2<|aa (ac 0)<|aa (bi cu<|aa (ac i) ag) ag) U M K:=by
 have F:∀K:DK,K (.int names.length) M->bi cu (aa (ac i) ag) U M K:=λK G=>by
  simp![e,Uc];exact G
 simp only[ah];refine Ia e (N4 I F H (by lia) (by lia) λr M' a b d=>?_)
 obtain⟨x,f,B⟩:=lH a b;simp![B];exact h x M' f d
theorem NH{a b:D}(e:U[i]?=ap (ap a))(f:U[j]?=ap (ap b))(h:te U M λd M'=>3<=sizeLine/\D0.rt (.tup [a,b,d]) M'):az (aU<|aa (ac i)<|aa (ac j)<|aa te ag) D0 U M:=by
 simp_arith! only[az,aU,aa,ac,e,f]
 exact h
theorem ret4{a b c:D}{l:Nat}(e:U[i]?=ap (ap a))(p:U[j]?=ap (ap b))(f:U[l]?=ap (ap c))(h:te U M λd M'=>4<=sizeLine/\D0.rt (.tup [a,b,c,d]) M'):az (aU<|aa (ac i)<|aa (ac j)<|aa (ac l)<|aa te ag) D0 U M:=by
 simp_arith! only[az,aU,aa,ac,e,p,f]
 exact h
theorem KQ{a:Option D}{s:Dl}(h:D0.nx (a::ap (kh names m many)::ap (.int m)::ap (.tup<|names.map D.str)::ap (.int many)::s) M){b c:Option D}:
  aq (ac 1) (dm 3<|aM (af 2)<|aM (af 3)<|aM (af 4) dg) D0 (a::ap (kh names m many)::b::c::d::s) M:=by
 trivial
noncomputable def waysL:List Str:=["put","sum","by","less","same","sum","put","take","pick"]
def MA(many:Int)(w:Str):Prop:=w="put"\/(w="sum"\/w="by"\/w="less"\/w="same")\/(0<many/\(w="take"\/w="pick"))
theorem Lz(h:D0.nx (U.set 5<|some<|.lst<|waysL.map D.str) M):
  aq (ao<|bv<|aa (dC<|.str "put")<|aa (dC<|.str "sum")<|aa (dC<|.str "by")<|aa (dC<|.str "less")<|aa (dC<|.str "same")<|aa (dC<|.str "sum")<|aa (dC<|.str "put")<|aa (dC<|.str "take")<|aa (dC<|.str "pick") ag) (af 5) D0 U M:=by
 simp![];refine#[by trivial,λp e=>?_]
 rw[Mem.upd_del,au e];exact h
theorem Pu(r:Nat)(h:r<if 0<many then 9 else 7):∃w,fJ (waysL.map D.str) (r:Int)=ap (.str w)/\MA many w:=by
 have f:r<9:=by lia
 have e:r=0\/r=1\/r=2\/r=3\/r=4\/r=5\/r=6\/r=7\/r=8:=by lia
 rcases e with rfl|rfl|rfl|rfl|rfl|rfl|rfl|rfl|rfl
 .exact#[_,rfl,.inl rfl]
 .exact#[_,rfl,.inr<|by lia]
 .exact#[_,rfl,.inr<|by lia]
 .exact#[_,rfl,.inr<|by lia]
 .exact#[_,rfl,.inr<|by lia]
 .exact#[_,rfl,.inr<|by lia]
 .exact#[_,rfl,.inl rfl]
 .exact#[_,rfl,.inr<|by lia]
 exact#[_,rfl,.inr<|by lia]
theorem wayE(G:U[0]?=ap (ap<|.ref k.p))(H:U[4]?=ap (ap<|.int many))(B:U[5]?=ap (ap<|.lst<|waysL.map D.str))(F:Has k M)(h:∀w M',MA many w->Dr k M M'->K (.str w) M'):
  ah av (ac 5) (ao<|aj (aZ ad) EE 2<|aa (ac 0)<|aa (oH (al<|ah K_ (ac 4)<|dC<|.int 0) (dC<|.int 9)<|dC<|.int 7) ag) U M K:=by
 have f:∀K:DK,K (.int (if 0<many then 9 else 7)) M->oH (al<|ah K_ (ac 4)<|dC<|.int 0) (dC<|.int 9) (dC<|.int 7) U M K:=λK J=>by
  simp![H];lia
 refine Ia B (N4 G f F (by lia) (by split<;>decide) λr M' a b d=>?_)
 obtain⟨r,rfl⟩:=YS a;obtain⟨w,e,I⟩:=Pu (many:=many) r (by split at b<;>(split<;>lia))
 simp![e]
 simp_all
theorem Gg(T:Has k M)(W:ToldOk names m many)(h:∀(r:Rw) M',de names m many r->Dr k M M'->Q r.d M'):ug ad [.ref k.p,kh names m many] M Q E:=by
 obtain⟨Y,m1,G,n1,X,Z⟩:=W;rw[Rk];unfold AL;refine cy (KQ ?_);dsimp only;refine cy (Lz ?_);dsimp only;refine cy (P2 (wayE rfl rfl rfl T λw M1 B d1=>?_));dsimp only;refine cy (P2 (Pf rfl rfl d1.1 G n1 λx M2 f d2=>?_));dsimp only;refine cy (xM rfl (λe=>?_) λF=>?_)
 .subst e
  refine NH rfl rfl (Oo rfl (λK q=>Ia rfl q) d2.1 (by lia) (by lia) λr M3 a b d3=>?_)
  exact#[bh (by decide),ak<|h (.put x r) M3 #[f,a,b]<|d1.trans<|d2.trans d3]
 dsimp only[aB];refine cy (xM rfl (λe=>?_) λS=>?_)
 .subst e
  have I:0<many:=by
   rcases B with e|(e|e|e|e)|e
   .exact(F e).elim
   .exact absurd e (by decide +kernel)
   .exact absurd e (by decide +kernel)
   .exact absurd e (by decide +kernel)
   .exact absurd e (by decide +kernel)
   .exact e.1
  refine NH rfl rfl (Oo rfl (λK q=>Ia rfl q) d2.1 (by lia) (by lia) λr M3 a b d3=>?_)
  exact#[bh (by decide),ak<|h (.take x r) M3 #[f,a,b]<|d1.trans<|d2.trans d3]
 dsimp only[aB];refine cy (P2 (Pf rfl rfl d2.1 G n1 λy M3 H d3=>?_));dsimp only;refine cy (xM rfl (λe=>?_) λR=>?_)
 .subst e
  have I:0<many:=by
   rcases B with e|(e|e|e|e)|e
   .exact(F e).elim
   .exact absurd e (by decide +kernel)
   .exact absurd e (by decide +kernel)
   .exact absurd e (by decide +kernel)
   .exact absurd e (by decide +kernel)
   .exact e.1
  exact NH rfl rfl (Ia rfl #[bh (by decide),ak<|h (.pick x y) M3 #[f,H,I]<|d1.trans<|d2.trans d3])
 dsimp only[aB];have J:w="sum"\/w="by"\/w="less"\/w="same":=by
  rcases B with e|e|⟨_,e|e⟩
  .exact(F e).elim
  .exact e
  .exact(S e).elim
  .exact(R e).elim
 refine ret4 rfl rfl rfl (Pf rfl rfl d3.1 G n1 λz M4 O P=>?_);exact#[bh (by decide),ak<|h (.two w x y z) M4 #[J,f,H,O]<|d1.trans<|d2.trans<|d3.trans P]
mutual
def LnR:Rw->Prop
 |.ifr _ a b=>(a.length<=200/\gw a)/\b.length<=200/\gw b
 |.again _ a=>a.length<=200/\gw a
 |_=>True
def gw:List Rw->Prop
 |[]=>True
 |r::rs=>LnR r/\gw rs
end
theorem LnRs_append:∀{a b:List Rw},gw (a++b)↔gw a/\gw b
 |[],b=>by simp[gw]
 |r::a,b=>by simp[gw,LnRs_append,and_assoc]
mutual
noncomputable def cR:Rw->Nat
 |.ifr _ a b=>1+cRs a+cRs b
 |.again _ a=>1+cRs a
 |.put _ _=>1
 |.take _ _=>1
 |.pick _ _=>1
 |.two _ _ _ _=>1
noncomputable def cRs:List Rw->Nat
 |[]=>0
 |r::rs=>cR r+cRs rs
end
theorem d_:∀{a b:List Rw},cRs (a++b)=cRs a+cRs b
 |[],b=>by simp[cRs]
 |r::a,b=>by simp[cRs,d_];lia
theorem Tz(h:de names m many r):cR r=1:=by
 cases r<;>trivial
def Rv(rm:cp)(M:Mem)(v:Int):Prop:=M rm=ap (.lst [.int v])/\0<=v
def Kp(k:Pt)(rm:cp)(M M':Mem):Prop:=Has k M'/\(∃v:Int,M' rm=ap (.lst [.int v]))/\∀b o,b≠k.p->b≠k.q->b≠rm->M b=ap o->M' b=ap o
theorem Kp.trans{M1 M2:Mem}(a:Kp k rm M M1)(b:Kp k rm M1 M2):Kp k rm M M2:=#[b.1,b.2.1,λx o f e p h=>b.2.2 x o f e p (a.2.2 x o f e p h)]
structure Rm(k:Pt)(rm:cp)(M:Mem):Prop where
 h:Has k M
 n1:rm≠k.p
 n2:rm≠k.q
 v:∃v:Int,M rm=ap (.lst [.int v])
theorem Rm.kp(r:Rm k rm M):Kp k rm M M:=#[r.h,r.v,by lia]
theorem Rm.go(r:Rm k rm M)(d:Kp k rm M M'):Rm k rm M':=#[d.1,r.n1,r.n2,d.2.1]
theorem Rm.dr(r:Rm k rm M)(d:Dr k M M'):Kp k rm M M':=#[d.1,by obtain⟨v,e⟩:=r.v;exact#[v,by rw[d.2 rm r.n1 r.n2];exact e],λb o h f _ e=>by rw[d.2 b h f];exact e]
theorem Rm.new(r:Rm k rm M)(f:M l=ca)(o:MO):Kp k rm M (M.upd l o):=by
 obtain⟨v,e⟩:=r.v;have b:=Mem.ne e f;exact#[r.h.upd (r.h.nep f),#[v,by rw[ae b];exact e],λc o _ _ _ e=>by rw[ae (Mem.ne e f)];exact e]
theorem Rm.set(r:Rm k rm M)(v:Int):Kp k rm M (M.upd rm<|.lst [.int v]):=
 #[r.h.upd #[r.n1,r.n2],#[v,Mem.upd_same],λc o _ _ h e=>by rw[ae h];exact e]
def PRo(ad:Ad)(k:Pt)(rm:cp)(names:aa')(m many:Int)(n:Nat):Prop:=∀(deep:Nat)(most:Int)(M:Mem)(Q:DK)(E:DX),deep<=4->2*(4-deep)+1<=n->0<most->most<=30->Rm k rm M->∀v:Int,Rv rm M v->
 (∀(rs:List Rw)(M':Mem),(∃v',Rv rm M' v'/\(cRs rs:Int)+v'<=v)->bc names m many rs/\gw rs->dD rs+deep<=4->rs.length<=100->Kp k rm M M'->Q (.tup<|aJ rs) M')->Zl ad n [.ref k.p,kh names m many,.ref rm,.int deep,.int most] M Q E
def PBl(ad:Ad)(k:Pt)(rm:cp)(names:aa')(m many:Int)(n:Nat):Prop:=∀(deep:Nat)(M:Mem)(Q:DK)(E:DX),deep<4->2*(4-deep)<=n->Rm k rm M->∀v:Int,Rv rm M v->
 (∀(rs:List Rw)(l:cp)(M':Mem),(∃v',Rv rm M' v'/\(cRs rs:Int)+v'<=v+4)->bc names m many rs/\gw rs->dD rs+deep<=4->rs.length<=3->Kp k rm M M'->M' l=ca->Q (.ref l) (M'.upd l<|.lst<|aJ rs))->Zm ad n [.ref k.p,kh names m many,.ref rm,.int deep] M Q E
theorem OkRs_append:∀{a b:List Rw},bc names m many (a++b)↔bc names m many a/\bc names m many b
 |[],b=>by simp[bc]
 |r::a,b=>by simp[bc,OkRs_append,and_assoc]
theorem dJ:∀{a b:List Rw},dD (a++b)=max (dD a) (dD b)
 |[],b=>by simp[dD]
 |r::a,b=>by simp[dD,dJ]
theorem bU:∀{a b:List Rw},aJ (a++b)=aJ a++aJ b
 |[],b=>rfl
 |r::a,b=>by simp[aJ,bU]
theorem bX:∀{a:List Rw},(aJ a).length=a.length
 |[]=>rfl
 |r::a=>by simp[aJ,bX]
theorem P4(h:de names m many r):fZ names m many r:=by
 cases r<;>trivial
theorem Tg(h:de names m many r):hR r=0:=by
 cases r<;>trivial
theorem Qf(h:de names m many r):LnR r:=by
 cases r with
 |ifr=>exact h.elim
 |again=>exact h.elim
 |_=>trivial
theorem ya(ht:ToldOk names m many)(ih:PRo ad k rm names m many n):PBl ad k rm names m many (n+1):=by
 intro e M Q E hd hn r v rv h;obtain⟨m2,m1,n0,n1,k0,k1⟩:=ht;have dd:e+1=(e+1:Nat):=by lia
 simp![T6,BK,kh,Uc];refine aN r.h (by lia) (by lia) λr1 M1 a1 b1 J=>?_
 have R1:=r.go (r.dr J);have S:Rv rm M1 v:=#[by rw[J.2 rm r.n1 r.n2];exact rv.1,rv.2]
 obtain⟨x,B,ex⟩:=lH a1 b1;simp![ex];refine am λQ' E' R _=>ih (e+1) 5 M1 Q' E' (by lia) (by lia) (by decide) (by decide) R1 v S λfirst M2 c2 p h2 l2 d2=>R _ _ ?_
 obtain⟨v2,F,c2⟩:=c2;have R2:=R1.go d2;simp![];refine aN R2.h (by decide) (by decide) λw M3 a3 b3 O=>?_
 have R3:=R2.go (R2.dr O);have f:Rv rm M3 v2:=#[by rw[O.2 rm r.n1 r.n2];exact F.1,F.2]
 simp![dd]
 by_cases Y:w<2
 .rw[if_pos Y]
  refine am λQ' E' R _=>ih (e+1) 5 M3 Q' E' (by lia) (by lia) (by decide) (by decide) R3 v2 f λP M4 X Z h4 l4 I=>R _ _ ?_
  obtain⟨v4,W,X⟩:=X;simp![];refine#[bh (by decide),bh (by decide),λl H=>ak (h [.ifr x _ _] l M4 #[v4,W,by simp[cRs,cR];lia] ?_ ?_ (by simp) ((r.dr J).trans<|d2.trans<|(R2.dr O).trans I) H)]
  .exact#[#[#[B,p.1,Z.1],trivial],#[#[by lia,p.2],by lia,Z.2],trivial]
  simp only[dD,hR];lia
 rw[if_neg Y]
 by_cases G:w=2
 .rw[if_pos G]
  refine#[bh (by decide),bh (by decide),λl H=>ak (h [.again x first] l M3 #[v2,f,by simp only[cRs,cR];lia] ?_ ?_ (by simp) ((r.dr J).trans<|d2.trans<|R2.dr O) H)]
  .simp only[bc,fZ,gw,LnR];exact#[#[#[B,p.1],trivial],#[by lia,p.2],trivial]
  .simp only[dD,hR];lia
 .rw[if_neg G]
  simp only[Uc];refine aN R3.h (by lia) (by lia) λr4 M4 a4 b4 I=>?_
  have R4:=R3.go (R3.dr I);obtain⟨y,hy,ey⟩:=lH a4 b4;simp![ey];refine aN R4.h (by split<;>lia) (by split<;>lia) λr5 M5 a5 b5 d5=>?_
  have T:r5<m:=by split at b5<;>lia
  simp![];refine#[bh (by decide),bh (by decide),bh (by decide),bh (by decide),bh (by rw[bX];lia),bh (by decide),bh (by decide),λl H=>ak ?_]
  have:=h [.put x r5,.put y (m-1),.again x (first++[.two "sum" x x y])] l M5 #[v2,#[by rw[d5.2 rm r.n1 r.n2,I.2 rm r.n1 r.n2];exact f.1,f.2],by simp only[cRs,cR,d_];lia] ?_ ?_ (by simp) ((r.dr J).trans<|d2.trans<|(R2.dr O).trans<|(R3.dr I).trans<|R4.dr d5) H
  .simp only[aJ,Rw.d,bU]at this
   exact this
  .simp only[bc,fZ,de,OkRs_append,gw,LnR,LnRs_append]
   exact#[#[#[B,a5,T],#[hy,by lia,by lia],#[B,p.1,#[.inl trivial,B,B,hy],trivial],trivial],trivial,trivial,#[by simp;lia,p.2,trivial,trivial],trivial]
  .simp only[dD,hR,dJ];lia
theorem SN:frz r.d M Q=Q r.d M:=by cases r<;>rfl
theorem zo{c:Int}(f:U[2]?=ap (ap<|.ref rm))(e:M rm=ap (.lst [.int v]))(h:D0.nx U (M.upd rm<|.lst [.int (v-c)])):
  aq (ah pA (ah av (ac 2)<|dC<|.int 0)<|dC<|.int c) (cY (ac 2)<|dC<|.int 0) D0 U M:=by
 simp![f,e,Fs];exact h
theorem QA(J:U[0]?=ap (ap<|.ref k.p))(I:U[2]?=ap (ap<|.ref rm))(O:U[3]?=ap (ap<|.int deep))(h:Has k M)(P:M rm=ap (.lst [.int v]))(R:∀M',4<v->deep<4->Dr k M M'->A D0 U M')(F:∀M',Dr k M M'->B D0 U M'):
  aE (kZ (al<|ah K_ (ah av (ac 2)<|dC<|.int 0)<|dC<|.int 4)<|kZ (al<|ah E6 (ac 3)<|dC<|.int 4)<|al<|ah bW (ao<|aj (aZ ad) EE 2<|aa (ac 0)<|aa (dC<|.int 4) ag)<|dC<|.int 0) A B D0 U M:=by
 simp![J,I,O,P,Fs]
 by_cases f:4<v
 .rw[if_pos f]
  by_cases e:deep<4
  .rw[if_pos e]
   refine aN h (by decide) (by decide) λw M2 T S G=>?_
   simp![]
   by_cases H:w=0
   .rw[if_pos H];exact R _ f e G
   rw[if_neg H];exact F _ G
  rw[if_neg e];exact F _ h.refl
 rw[if_neg f];exact F _ h.refl
theorem KB(f:U[2]?=ap (ap<|.ref rm))(e:M rm=ap (.lst [.int v]))(h:0<v->A D0 U M)(p:D0.nx U M):
  aE (al<|ah K_ (ah av (ac 2)<|dC<|.int 0)<|dC<|.int 0) A aB D0 U M:=by
 simp![f,e,Fs]
 simp_all
theorem Lf(R:U[0]?=ap (ap<|.ref k.p))(O:U[1]?=ap (ap<|kh names m many))(I:U[5]?=ap (ap<|.ref l))(J:Has k M)(P:ToldOk names m many)(n1:l≠k.p)(n2:l≠k.q)(F:M l=ap (.lst<|aJ aa4))(S:aa4.length<=1000)(h:∀(r:Rw) M',de names m many r->Dr k M M'->D0.nx U (M'.upd l<|.lst (aJ aa4++[r.d]))):
  a_ (iS "list" bj (ac 5)<|aa (ao<|aj (ug ad) EE 2<|aa (ac 0)<|aa (ac 1) ag) ag) D0 U M:=by
 simp![R,O,I,F];refine am λQ' E' G _=>Gg J P λH M3 e B=>G _ _ ?_;have f:M3 l=ap (.lst<|aJ aa4):=by rw[B.2 l n1 n2];exact F
 have sz:(aJ aa4).length+1<=sizeLine:=by rw[bX];exact fH (by lia)
 rw[SN];simp![f];exact#[sz,(h _ M3 e B)]
theorem KE(P:PBl ad k rm names m many n)(h0:U[0]?=ap (ap<|.ref k.p))(W:U[1]?=ap (ap<|kh names m many))(T:U[2]?=ap (ap<|.ref rm))(Y:U[3]?=ap (ap<|.int deep))(O:U[5]?=ap (ap<|.ref l))(S:deep<4)(hn:2*(4-deep)<=n)(R:Rm k rm M)(n1:l≠k.p)(n2:l≠k.q)(Z:l≠rm)(hl:M l=ap (.lst<|aJ aa4))(ha:aa4.length<=1000)(X:Rv rm M v)(h:∀(rs:List Rw)(e:cp)(M':Mem),(∃H,Rv rm M' H/\(cRs rs:Int)+H<=v+4)->bc names m many rs/\gw rs->dD rs+deep<=4->rs.length<=3->Kp k rm M M'->M' e=ca->D0.nx (U.set 5<|some<|.ref e) (M'.upd e<|.lst (aJ aa4++aJ rs))):
  aq (ah ba (ac 5)<|ao<|aj (Zm ad n) EE 4<|aa (ac 0)<|aa (ac 1)<|aa (ac 2)<|aa (ac 3) ag) (af 5) D0 U M:=by
 simp![h0,W,T,Y,O];refine am λQ' E' J _=>P _ M Q' E' S hn R v X λbl l2 M3 I f hh len3 G F=>J _ _ ?_;simp![Mem.upd_del,au F,(G.2.2 l _ n1 n2 Z hl)];exact#[by rw[bX,bX];exact bh (by lia),λe B=>h bl e M3 I f hh len3 G B]
structure RInv(k:Pt)(rm:cp)(names:aa')(m many:Int)(M:Mem)(v:Int)(deep:Nat)(n j:Nat)(aa4:List Rw)(l:cp)(M':Mem):Prop where
 cv:∃v',Rv rm M' v'/\(cRs aa4:Int)+v'<=v
 hj:n+j<=30
 ha:aa4.length<=3*j
 ok:bc names m many aa4
 ln:gw aa4
 hh:dD aa4+deep<=4
 kp:Kp k rm M M'
 hm:M' l=ap (.lst<|aJ aa4)
 n1:l≠k.p
 n2:l≠k.q
 n3:l≠rm
 h0:M l=ca
theorem RInv.len(I:RInv k rm names m many M v deep n j aa4 l M'):aa4.length<=100:=by
 have:=I.hj;have:=I.ha;lia
theorem oC(ht:ToldOk names m many)(ih:PBl ad k rm names m many n):PRo ad k rm names m many (n+1):=by
 intro deep Y M Q E hd hn h0 h1 r v0 S h;simp![S7,AK,cW];refine#[bh (by decide),λl O=>?_]
 have R1:=r.go (r.new O<|.lst []);refine aN R1.h h0 (by lia) λcnt M1 a1 b1 d1=>?_
 have H:=r.h.nep O;refine#[by lia,by lia,?_]
 refine cw (λxs U M'=>∃(j:Nat)(aa4:List Rw)(l:cp)(c6:Option D),RInv k rm names m many M v0 deep xs.length j aa4 l M'/\U=[ap (.ref k.p),ap _,ap (.ref rm),ap (.int deep),ap (.int Y),ap (.ref l),c6]) (λ_ _ _ _=>aL) ?_ ?_ _ _ _ #[0,[],l,ca,#[#[v0,#[?_,S.2],by simp[cRs]],?_,by simp,by trivial,by trivial,by simp only[dD];lia,(r.new O _).trans (R1.dr d1),?_,H.1,H.2,?_,O],rfl]
 .rintro U M' ⟨j,aa4,l,c6,I,rfl⟩
  simp![I.hm];exact ak (h aa4 M' I.cv #[I.ok,I.ln] I.hh I.len I.kp)
 .rintro x xs U M' ⟨j,aa4,l,c6,I,rfl⟩ D' P _ _ _
  have R:=r.go I.kp;have hj:=I.hj;have ha:=I.ha;simp at hj;obtain⟨v,⟨hv,hv0⟩,hcv⟩:=I.cv;refine QA rfl rfl rfl R.h hv (λM2 h4 h5 J=>?_) λM2 J=>?_
  .have W:=I.kp.trans (R.dr J)
   have R2:=r.go W;refine cy (zo rfl (by rw[J.2 rm r.n1 r.n2];exact hv) ?_)
   have X:=R2.set (v-4);dsimp only;refine KE (deep:=deep) (aa4:=aa4) ih rfl rfl rfl rfl rfl (by lia) (by lia) (R2.go X) I.n1 I.n2 I.n3 (by rw[ae I.n3,J.2 l I.n1 I.n2];exact I.hm) (by lia) (v:=v-4) #[Mem.upd_same,by lia] λbl Z M3 c3 f hh3 len3 k3 F=>?_
   have B:=(W.trans X).trans k3;have R3:=r.go B;have G:=R3.h.nep F;have T:Z≠rm:=by
    obtain⟨u,eu⟩:=R3.v;exact λe=>by simp_all
   have hM3:M Z=none:=by
    cases e:M Z with
    |none=>rfl
    |some o=>rw[B.2.2 Z o G.1 G.2 T e]at F;cases F
   obtain⟨v3,rv3,c3⟩:=c3;exact P _ _ #[j+1,aa4++bl,Z,_,#[#[v3,#[by rw[ae (UO T)];exact rv3.1,rv3.2],by rw[d_];lia],by lia,by rw[UG];lia,OkRs_append.mpr #[I.ok,f.1],LnRs_append.mpr #[I.ln,f.2],by rw[dJ];exact Uw (YW (Nat.add_max_add_right ..).symm) (Nat.max_le.mpr #[I.hh,hh3]),B.trans (R3.new F _),by rw[Mem.upd_same,bU],G.1,G.2,T,hM3],rfl]
  have W:=I.kp.trans (R.dr J);have R2:=r.go W;have hm2:M2 l=ap (.lst<|aJ aa4):=by rw[J.2 l I.n1 I.n2];exact I.hm
  refine KB rfl (by rw[J.2 rm r.n1 r.n2];exact hv) (λhz=>?_) ?_
  .refine cy (zo rfl (by rw[J.2 rm r.n1 r.n2];exact hv) ?_)
   have X:=R2.set (v-1);dsimp only;refine Lf (aa4:=aa4) rfl rfl rfl X.1 ht I.n1 I.n2 (by rw[ae I.n3];exact hm2) (by lia) λrw1 M3 f d3=>?_
   have B:=(W.trans X).trans ((R2.go X).dr d3);refine P _ _ #[j+1,aa4++[rw1],l,_,#[#[v-1,#[by rw[ae (UO I.n3),d3.2 rm r.n1 r.n2,Mem.upd_same],by lia],by rw[d_];simp only[cRs,Tz f];lia],by lia,by rw[UG,VH];lia,OkRs_append.mpr #[I.ok,by simp only[bc];exact#[P4 f,trivial]],LnRs_append.mpr #[I.ln,by simp only[gw];exact#[Qf f,trivial]],by rw[dJ];simp only[dD,Tg f,Nat.max_zero,Nat.max_self];exact I.hh,?_,by rw[Mem.upd_same,bU];rfl,I.n1,I.n2,I.n3,I.h0],rfl]
   refine#[B.1.upd #[I.n1,I.n2],?_,λb o h1 h2 h3 e=>?_]
   .obtain⟨u,eu⟩:=B.2.1
    exact#[u,by rw[ae (UO I.n3)];exact eu]
   .rw[ae (Mem.ne e I.h0)];exact B.2.2 b o h1 h2 h3 e
  .exact P _ _ #[j,aa4,l,_,#[#[v,#[by rw[J.2 rm r.n1 r.n2];exact hv,hv0],hcv],by lia,ha,I.ok,I.ln,I.hh,W,hm2,I.n1,I.n2,I.n3,I.h0],rfl]
 .rw[d1.2 rm r.n1 r.n2,ae (λz=>by rw[<- z,S.1]at O;cases O)];exact S.1
 .simp[cF];lia
 .rw[d1.2 l H.1 H.2,Mem.upd_same];rfl
 obtain⟨v,e⟩:=r.v;exact λe'=>by rw[e',e]at O;cases O
theorem jK(f:ToldOk names m many):∀n:Nat,PRo ad k rm names m many n/\PBl ad k rm names m many n
 |0=>#[λe p M Q E _ h=>by lia,λe M Q E _ h=>by lia]
 |n+1=>#[oC f (jK f n).2,ya f (jK f n).1]
def Kq(k:Pt)(M M':Mem):Prop:=Has k M'/\∀b o,b≠k.p->b≠k.q->M b=ap o->M' b=ap o
theorem Kq.trans{M1 M2:Mem}(a:Kq k M M1)(b:Kq k M1 M2):Kq k M M2:=#[b.1,λx o f e h=>b.2 x o f e (a.2 x o f e h)]
theorem Dr.kq(d:Dr k M M'):Kq k M M':=#[d.1,λb o h f e=>by rw[d.2 b h f];exact e]
structure PlG(m many:Int)(names:aa')(rows:List Rw)(mk:Str):Prop where
 t:ToldOk names m many
 nd:names.Nodup
 ok:bc names m many rows
 h:dD rows<=4
 cn:cRs rows<=60
 l:rows.length<=100
 ln:gw rows
 mkm:mk∈names
 one:∀x∈names,KA x
def j_(m many:Int)(names:aa')(rows:List Rw)(mk:Str):D:=.tup [.int m,.tup (names.map D.str),.int many,.tup (aJ rows),.str mk]
theorem DC(v0:0<=v)(v60:v<=60)(hp:Has k M)(h:∀(m many:Int)(names:aa')(rows:List Rw)(mk:Str)(M':Mem),PlG m many names rows mk->(cRs rows:Int)<=v->Kq k M M'->Q (j_ m many names rows mk) M'):yw ad [.ref k.p,.int v] M Q E:=by
 simp![U0,zI];refine aN hp (by decide) (by decide) λx1 M1 a1 b1 d1=>?_
 simp![];refine aN d1.1 (by decide) (by decide) λx2 M2 a2 b2 d2=>?_
 simp![];refine#[bh (by decide),λp f=>?_]
 rw[Mem.upd_del,au f];refine aN d2.1 (by decide) (by decide) λP M3 a3 b3 d3=>?_
 obtain⟨m,em,m2,m1⟩:∃m:Int,fJ [D.int 2,.int 3,.int (2+x1),.int (2+x2)] P=ap (.int m)/\2<=m/\m<=997:=by
  have:P=0\/P=1\/P=2\/P=3:=by lia
  rcases this with rfl|rfl|rfl|rfl
  .exact#[2,by simp,by lia,by lia]
  .exact#[3,by simp,by lia,by lia]
  .exact#[2+x1,by simp,by lia,by lia]
  .exact#[2+x2,by simp,by lia,by lia]
 simp![em];refine#[bh (by decide),λp f=>?_]
 rw[Mem.upd_del,au f];refine aN d3.1 (by decide) (by decide) λT M4 a4 b4 d4=>?_
 obtain⟨w,ew,w2,w1⟩:∃m:Int,fJ [D.int 3,.int 5,.int 12] T=ap (.int m)/\0<m/\m<=12:=by
  have:T=0\/T=1\/T=2:=by lia
  rcases this with rfl|rfl|rfl
  .exact#[3,by simp,by lia,by lia]
  .exact#[5,by simp,by lia,by lia]
  .exact#[12,by simp,by lia,by lia]
 simp![ew];refine aN d4.1 w2 (by lia) λx5 M5 a5 b5 d5=>?_
 simp![];obtain⟨nn,hnn⟩:∃nn:Nat,(1:Int)+x5=nn:=#[(1+x5).toNat,by lia]
 rw[hnn];refine am λQ' E' X _=>xa d5.1 (by lia) λnames M6 n6 Y on6 d6=>X _ _ ?_
 simp![];refine aN d6.1 (by decide) (by decide) λx7 M7 a7 b7 d7=>?_
 simp![];refine aN d7.1 (by decide) (by decide) λx8 M8 a8 b8 d8=>?_
 simp![];refine#[bh (by decide),λp f=>?_]
 rw[Mem.upd_del,au f];refine aN d8.1 (by decide) (by decide) λW M9 a9 b9 d9=>?_
 obtain⟨many,ek,k0,k1⟩:∃m:Int,fJ [D.int 0,.int (1+x7),.int x8] W=ap (.int m)/\0<=m/\m<=40:=by
  have:W=0\/W=1\/W=2:=by lia
  rcases this with rfl|rfl|rfl
  .exact#[0,by simp,by lia,by lia]
  .exact#[1+x7,by simp,by lia,by lia]
  .exact#[x8,by simp,by lia,by lia]
 simp![ek];refine#[bh (by decide),bh (by decide),λrm S=>#[bh (by decide),λp f=>?_]]
 rw[Mem.upd_del,au f];have D9:=d1.trans (d2.trans<|d3.trans<|d4.trans<|d5.trans<|d6.trans<|d7.trans<|d8.trans d9);have B:=d9.1.nep S;have R9:Rm k rm (M9.upd rm<|.lst [.int v]):=#[d9.1.upd B,B.1,B.2,v,Mem.upd_same];refine aN R9.h (by decide) (by decide) λF M10 a10 b10 I=>?_
 have R10:=R9.go (R9.dr I);obtain⟨J,eo,o0,o1⟩:∃m:Int,fJ [D.int 6,.int 12,.int 30] F=ap (.int m)/\0<m/\m<=30:=by
  have:F=0\/F=1\/F=2:=by lia
  rcases this with rfl|rfl|rfl
  .exact#[6,by simp,by lia,by lia]
  .exact#[12,by simp,by lia,by lia]
  .exact#[30,by simp,by lia,by lia]
 simp![eo];have ht:ToldOk names m many:=#[m2,m1,by lia,by lia,k0,k1]
 refine am λQ' E' X _=>(jK ht 24).1 0 J M10 Q' E' (by decide) (by decide) o0 o1 R10 v #[by rw[I.2 rm B.1 B.2,Mem.upd_same],v0] λrows M11 O G h11 l11 H=>X _ _ ?_
 obtain⟨v11,R,O⟩:=O;have v110:=R.2;simp![Uc];refine aN H.1 (by lia) (by lia) λx12 M12 a12 b12 Z=>?_
 obtain⟨mk,hmk,emk⟩:=lH a12 b12;simp![emk];refine#[bh (by decide),ak<|h m many names rows mk M12 #[ht,Y,G.1,by lia,by lia,l11,G.2,hmk,on6] (by lia) ?_]
 refine D9.kq.trans (Kq.trans ?_ Z.kq);refine#[H.1,λb o h1 h2 e=>?_];have hb:b≠rm:=Mem.ne e S;have:=(R9.dr I).2.2 b o h1 h2 hb (by rw[ae hb];exact e)
 exact H.2.2 b o h1 h2 hb this
theorem xT(T:Has k M)(pl:PlG m many names rows mk)(h:∀(nums e:aa_)(M':Mem),nums.length=names.length->(e.length:Int)=many->(∀v∈nums,0<=v/\v<m)->(∀v∈e,0<=v/\v<m)->Kq k M M'->Q (bC nums e) M'):z0 ad [.ref k.p,j_ m many names rows mk] M Q E:=by
 have t1:=pl.t.m1;have t2:=pl.t.m2;have t3:=pl.t.n1;have t4:=pl.t.k0;have t5:=pl.t.k1;refine bM (λxs aa4 U M'=>∃(nums:aa_)(F:Option D),xs.length+nums.length=names.length/\aa4=nums.map D.int/\U=[F,ap (.ref k.p),ap (j_ m many names rows mk)]/\Dr k M M'/\∀v∈nums,0<=v/\v<m) (λ_ _ _ _ _=>aL) ?_ ?_ ?_ _ _ _ _ #[[],ca,by simp,rfl,rfl,T.refl,by simp]
 .rintro aa4 U M' ⟨nums,F,R,rfl,rfl,S,hv⟩
  intro p H;simp![Mem.upd_del,au H,atI_2];refine#[by lia,by lia,?_]
  refine bM (λxs aa4 U M'=>∃(ps:aa_)(F:Option D),xs.length+ps.length=many.toNat/\aa4=ps.map D.int/\U=[F,ap (.ref k.p),ap (j_ m many names rows mk)]/\Dr k M M'/\∀v∈ps,0<=v/\v<m) (λ_ _ _ _ _=>aL) ?_ ?_ ?_ _ _ _ _ #[[],ca,by simp[cF],rfl,rfl,S,by simp]
  .rintro aa4 U M' ⟨ps,F,B,rfl,rfl,G,f⟩
   intro p H;simp![Mem.upd_del,au H];refine#[bh (by decide),ak<|h nums ps M' (by simpa using R) (by simp at B;lia) hv f G.kq]
  .rintro x xs aa4 U M' ⟨ps,F,B,rfl,rfl,G,f⟩ N I _
   simp![j_,atI_0];refine aN G.1 (by lia) (by lia) λr M3 O J P=>?_
   simp![];simp only[UB]at B;refine I _ _ _ (by simp;exact fH (by lia)) #[ps++[r],_,by simp;lia,by simp,rfl,G.trans P,λv hv=>?_]
   rcases Uz.mp hv with hv|hv
   .exact f v hv
   .simp at hv;subst hv;exact#[O,J]
  .rintro x xs aa4 U M' ⟨ps,F,B,rfl,rfl,G,f⟩
   simp at B ⊢;exact fH (by lia)
 .rintro x xs aa4 U M' ⟨ps,F,B,rfl,rfl,G,f⟩ N I _
  simp![j_,atI_0];refine aN G.1 (by lia) (by lia) λr M3 O J P=>?_
  simp![];simp only[UB]at B;refine I _ _ _ (by simp;exact fH (by lia)) #[ps++[r],_,by simp;lia,by simp,rfl,G.trans P,λv hv=>?_]
  rcases Uz.mp hv with hv|hv
  .exact f v hv
  .simp at hv;subst hv;exact#[O,J]
 .rintro x xs aa4 U M' ⟨ps,F,B,rfl,rfl,G,f⟩
  simp at B ⊢;exact fH (by lia)
theorem dB{b:BxC (af 0) tt te ok Q}{rest:Dl}{c:Option D}{xs:List D}(p:D->Bool)(f:D->D)(T:ok M)(W:xs.length<=100000)(S:∀x∈xs,∀K:Bool->Mem->Prop,K (p x) M->tt (ap x::rest) M K)(R:∀x∈xs,p x=true->∀K:DK,K (f x) M->te (ap x::rest) M K)(h:Q ((xs.filter p).map f) M):
  cV (af 0) tt te ok Q b xs [] (c::rest) M:=by
 refine bM (λG aa4 U N=>∃(us:List D)(B:Option D),xs=us++G/\aa4=(us.filter p).map f/\U=B::rest/\M=N) (by lia) ?_ ?_ ?_ _ _ _ _ #[[],c,rfl,rfl,rfl,rfl]
 .rintro aa4 U N ⟨us,B,e,rfl,rfl,rfl⟩
  simp_all
 .rintro y G aa4 U N ⟨us,B,e,rfl,rfl,rfl⟩ N' J F
  have O:y∈xs:=by rw[e];simp
  have H:=congrArg VO e;simp at H;have P:=UM p us;refine S y O _ ?_;cases I:p y with
  |true=>
   exact R y O I _ (J _ _ _ (by rw[Uc];exact fH (by lia)) #[us++[y],_,by simp[e],by simp[I],rfl,rfl])
  |false=>
   exact F _ _ _ #[us++[y],_,by simp[e],by simp[I],rfl,rfl]
 rintro y G aa4 U N ⟨us,B,e,rfl,rfl,rfl⟩
 have H:=congrArg VO e;simp at H;have P:=UM p us;rw[Uc];exact fH (by lia)
theorem dP{b:BxC (af 0) cS te ok Q}{rest:Dl}{c:Option D}{xs:List D}(f:D->D)(p:ok M)(F:xs.length<=100000)(B:∀x∈xs,∀K:DK,K (f x) M->te (ap x::rest) M K)(h:Q (xs.map f) M):cV (af 0) cS te ok Q b xs [] (c::rest) M:=by
 refine dB _ f p F (λx _ K q=>q) (λx e _=>B x e) ?_;rw[WN.mpr λ_ _=>rfl];exact h
instance lawKey:LawfulBEq aC where
 eq_of_beq {a b} h:=by
  cases a<;>cases b
  .exact congrArg VI (eq_of_beq (α:=Int) h)
  .cases h
  .cases h
  .exact congrArg UN (eq_of_beq (α:=Str) h)
 rfl {a}:=by
  cases a
  .exact beq_self_eq_true (α:=Int) _
  .exact beq_self_eq_true (α:=Str) _
noncomputable def kD:aC->D
 |.inl i=>.int i
 |.inr x=>.str x
theorem F9(a b:aC):aR (kD a) (kD b)=decide (a=b):=by
 cases a<;>cases b<;>simp[kD,aR]
theorem y0(n:Nat)(a:aC):cP n (kD a)=true:=by cases a<;>cases n<;>rfl
theorem lR(n:Nat):∀ks:List aC,fits n (ks.map kD)=true
 |[]=>by rfl
 |k::ks=>by simp[fits,y0,lR n ks]
theorem pT:∀ks:List aC,eR (ks.map kD)=ap ks
 |[]=>rfl
 |k::ks=>by
  cases k<;>simp[eR,kD,cN,(pT ks)]
theorem ym:∀a b:List aC,gE (a.map kD) (b.map kD)=decide (a=b)
 |[],[]=>rfl
 |[],_::_=>rfl
 |_::_,[]=>rfl
 |a::as,b::bs=>by
  simp only[Ue,gE,F9,ym as bs]
  simp_all
theorem EK:((ks.map kD).any λd=>aR d (kD k))=decide (k∈ks):=by
 induction ks with
 |nil=>rfl
 |cons a ks ih=>
  rw[Ue,WE,F9]
  by_cases h:a=k
  .simp[h]
  have:¬k=a:=λe=>h e.symm
  simp_all
def zX(ks:List aC):D:=.lst (ks.map kD)
theorem Se:dv M (kD k)=kD k:=by cases k<;>rfl
theorem IM:iG M (kD k) (zX ks)=ap (decide (k∈ks)):=by
 unfold iG zX
 simp_arith! only[aQ,Se,y0,lR,and_self,if_true,EK]
structure Cse where
 w:Int
 many:Nat
 names:List Str
 rows:List Rw
 mn:Str
 most:Nat
structure Sta where
 nums:List Int
 pieces:List Int
def Sta.d(s:Sta):D:=bC s.nums s.pieces
noncomputable def Cse.cf(C:Cse)(s:Sta):Cf:=#[C.w,s.pieces,C.most]
def Cse.d(C:Cse):D:=.tup [.int C.w,.tup (C.names.map D.str),.int (C.many:Nat),.tup (aJ C.rows),.str C.mn]
structure Cse.Ok(C:Cse):Prop where
 m2:2<=C.w
 m1:C.w<=997
 few:C.many<=100
 most:C.most<=10000
 nd:C.names.Nodup
 l0:0<C.names.length
 l1:C.names.length<=100
 ok:bc C.names C.w C.many C.rows
 h:dD C.rows<=7
 mn:C.mn∈C.names
structure SOk(C:Cse)(s:Sta):Prop where
 ln:s.nums.length=C.names.length
 lp:s.pieces.length=C.many
 rn:∀v∈s.nums,0<=v/\v<C.w
 rp:∀v∈s.pieces,0<=v/\v<C.w
def va(mk:Str)(r:Bool×Sx):D:=if r.1=true then .int (nm r.2.nums mk) else .non
def Cse.run(C:Cse)(s:Sta):Bool×Sx:=dq (C.cf s) C.names C.rows s.nums
def Cse.mark(C:Cse)(s:Sta):D:=va C.mn (C.run s)
section
variable{s:Sta}
theorem Cse.Ok.pl(o:C.Ok)(k:SOk C s):PlOk (C.cf s) C.names C.rows s.nums:=
 #[#[o.m2,o.m1,k.rp,by show s.pieces.length<=1000;rw[k.lp];have:=o.few;lia,o.most],k.ln.symm,o.nd,o.l0,by have:=o.l1;lia,k.rn,by show bc _ _ s.pieces.length _;rw[k.lp];exact o.ok,o.h]
theorem SOk.pd(k:SOk C s):C.d=aW (C.cf s) C.names C.rows C.mn:=by unfold Cse.d aW Cse.cf;rw[k.lp]
theorem wP(C:Cse)(s:Sta):C.mark s=.non\/∃v,C.mark s=.int v:=by
 unfold Cse.mark va
 split
 .exact .inr #[_,rfl]
 exact .inl rfl
theorem uE(h:Q (C.mark s) M):frz (C.mark s) M Q:=by rcases wP C s with e|⟨v,e⟩<;>rw[e]at h ⊢<;>exact h
theorem mG:∀{names:aa'},mk∈names->∃j,names.findIdx? (λy=>decide (y=mk))=ap j/\names[j]?=ap mk
 |[],h=>by simp at h
 |x::names,h=>by
  by_cases e:x=mk
  .subst e;exact#[0,by simp[WX],rfl]
  have f:mk∈names:=by
   rcases Uk.mp h with z|z
   .simp_all
   exact z
  obtain⟨j,p,B⟩:=mG f;exact#[j+1,by simp[WX,e,p],by trivial]
theorem dQ:∀names:List Str,jV (names.map D.str)=ap names
 |[]=>rfl
 |x::names=>by rw[Ue,jV,dQ _]
def E4(names:aa')(r:Bool×Sx):D:=.tup [.lst (ye r.2.steps),dz names r]
theorem Eg{b:BxQ EE λd M'=>frzT d M' Q}(p:PlOk c names rows nums)(h:Q (E4 names<|dq c names rows nums) M):
  calls (uV ad) EE [aW c names rows mk,bC nums c.pieces,.int (c.most:Nat)] M (λd M'=>frzT d M' Q) b:=by
 refine am λQ' E' B _=>EB p λl f=>B _ _ ?_;unfold E4 dz at h;unfold dz;cases e:(dq c _ _ _).1 with
 |true=>
  rw[e]at h;rw[if_pos rfl];simp![Mem.upd_del,au f];exact h
 |false=>
  rw[e]at h;rw[if_neg (by simp)]
  simp![Mem.upd_del,au f];exact h
theorem CJ(p:PlOk c names rows nums)(G:mk∈names)(h:Q (va mk<|dq c names rows nums) M):pU ad [aW c names rows mk,bC nums c.pieces,.int (c.most:Nat)] M Q E:=by
 obtain⟨j,f,F⟩:=mG G;simp![U3,AS];refine Eg p ?_;simp![E4];unfold va at h;unfold dz;cases e:(dq c _ _ _).1 with
 |true=>
  rw[e]at h;simp![aW,atI_1,atI_4,dQ,f];refine#[p.l1,?_];have B:fJ (names.map λx=>D.int (nm (dq c names rows nums).2.nums x)) j=ap (.int<|nm (dq c names rows nums).2.nums mk):=by
   rw[bG (by lia),UL,Uo,F];rfl
  simp![B];exact ak h
 |false=>
  rw[e]at h;exact ak h
theorem ql{b:BxQ EE Q}(o:C.Ok)(k:SOk C s)(h:Q (C.mark s) M):calls (pU ad) EE [C.d,s.d,.int (C.most:Nat)] M Q b:=by
 refine aH (λQ' E' q=>?_) h;rw[k.pd];exact CJ (o.pl k) o.mn q
def br(C:Cse)(s t:Sta):D:=.tup [C.d,s.d,t.d,.int (C.most:Nat)]
theorem csE{C:Cse}{s t:Sta}:br C s t=.tup [C.d,s.d,t.d,.int (C.most:Nat)]:=rfl
theorem E9{C:Cse}:C.d=.tup [.int C.w,.tup (C.names.map D.str),.int (C.many:Nat),.tup (aJ C.rows),.str C.mn]:=rfl
noncomputable def eA(C:Cse):List aC:=C.names.map UN++(Uu C.many).map λ(i:Nat)=>VI (i:Int)
def aI(C:Cse)(s:Sta):aC->Int
 |.inl i=>(s.pieces[i.toNat]?).getD 0
 |.inr x=>nm (C.names.zip s.nums) x
theorem kb:∀{names:aa'}{nums:aa_}{j:Nat}{x:Str},names.Nodup->names.length=nums.length->names[j]?=ap x->nums[j]?=ap (nm (names.zip nums) x)
 |[],_,j,x,_,_,h=>by simp at h
 |y::names,[],j,x,_,h,_=>by simp at h
 |y::names,v::nums,0,x,nd,hl,h=>by
  simp at h;subst h;simp[nm,gN]
 |y::names,v::nums,j+1,x,nd,hl,h=>by
  simp at h ⊢;have f:=VC.mp nd;have p:¬y=x:=λe=>f.1 (e▸Vk h);rw[kb f.2 (by simp_all) h]
  simp[nm,gN,p]
theorem gX(h:k∈eA C):(∃x,x∈C.names/\k=.inr x)\/∃i:Nat,i<C.many/\k=.inl (i:Int):=by
 rcases Uz.mp h with q|q
 .obtain⟨x,e,rfl⟩:=Ul.mp q
  exact .inl (by lia)
 obtain⟨i,f,rfl⟩:=Ul.mp q;exact .inr #[i,by simp_all,rfl]
theorem bH(o:C.Ok)(k:SOk C s)(f:t∈eA C):0<=aI C s t/\aI C s t<C.w:=by
 rcases gX f with⟨x,e,rfl⟩|⟨i,hi,rfl⟩
 .exact((o.pl k).nok.at e).2
 exact((o.pl k).co.piece<|by show _<s.pieces.length;rw[k.lp];lia).2
theorem dW(o:C.Ok)(k:SOk C s)(F:t∈eA C)(h:Q (.int<|aI C s t) M):oh ad [C.d,s.d,kD t] M Q E:=by
 have l1:=o.l1;rcases gX F with⟨x,f,rfl⟩|⟨i,hi,rfl⟩
 .obtain⟨j,p,B⟩:=mG f
  have e:fJ (s.nums.map D.int) j=ap (.int<|nm (C.names.zip s.nums) x):=by
   rw[bG (by lia),UL,Uo,kb o.nd k.ln.symm B];rfl
  simp![Nm,vZ,kD,Cse.d,Sta.d,bC,oM,atI_0,atI_1,dQ,p,Xc,XR,Xo];refine#[by lia,?_]
  simp![e];exact ak h
 have e:fJ (s.pieces.map D.int) i=ap (.int<|(s.pieces[(i:Int).toNat]?).getD 0):=by
  rw[bG (by lia),Uo,Ud (by rw[k.lp];exact hi)];rfl
 simp![Nm,vZ,kD,Sta.d,bC,oM,atI_1,e,Xc,XR,Xo];exact ak h
end
def lM(k:Wk)(c:Cf)(s:Sx)(M:Mem):Mem:=
 ((M.upd k.a<|.lst [.ref k.dn,.tup (c.pieces.map D.int),.ref k.ls,.int (c.most:Nat),.int c.m]).upd k.dn<|.dK<|eF s.nums).upd k.ls (.lst<|ye s.steps)
theorem oy:lM k c s M k.a=ap (.lst [.ref k.dn,.tup (c.pieces.map D.int),.ref k.ls,.int (c.most:Nat),.int c.m]):=by
 unfold lM;rw[ae k.h2,ae k.h1,Mem.upd_same]
theorem mQ:lM k c s M k.dn=ap (.dK<|eF s.nums):=by unfold lM;rw[ae k.h3,Mem.upd_same]
theorem Mx:lM k c s M k.ls=ap (.lst<|ye s.steps):=by unfold lM;simp_all
theorem HI{x:List (List Int×Int)}:(lM k c s M).upd k.ls (.lst<|ye x)=lM k c #[s.nums,x] M:=by unfold lM;simp_all
theorem Jo{x:cH}:(lM k c s M).upd k.dn (.dK<|eF x)=lM k c #[x,s.steps] M:=by
 unfold lM;rw[aA (UO k.h3),Mem.upd_upd]
theorem rZ(f:c.most<=10000)(e:s.steps.length<=c.most)(h:Q (.bl (nt c pl v s).1) (lM k c (nt c pl v s).2 M)):
  kM ad [.ref k.a,iy pl,.int v] (lM k c s M) Q E:=by
 unfold nt at h;simp![Ri,Az,oy,Mx,atI_2,atI_3,ye,Uc]
 by_cases q:s.steps.length<c.most
 .rw[if_pos q]at h
  rw[if_neg (by lia)]
  refine#[by trivial,fH (by lia),ak ?_]
  rw[<- HI]at h;simpa [ye] using h
 rw[if_neg q]at h;rw[if_pos (by lia)]
 exact ak h
theorem rM{b:BxQ EE Q}(p:c.most<=10000)(e:s.steps.length<=c.most)(h:Q (.bl (nt c pl v s).1) (lM k c (nt c pl v s).2 M)):
  calls (kM ad) EE [.ref k.a,iy pl,.int v] (lM k c s M) Q b:=
 am λ_ _ f _=>rZ p e (f _ _ h)
theorem vF(f:COk c){i:Int}(e:0<=i)(h:i<c.pieces.length):fJ (c.pieces.map D.int) i=ap (.int<|(c.pieces[i.toNat]?).getD 0):=by
 rw[bG e,Uo,Ud (by lia)];rfl
theorem sF(B:COk c)(p:NOk names c.m s.nums)(f:de names c.m c.pieces.length r)(h:Q (.int<|num c s.nums r) (lM k c s M)):
  vg ad [.ref k.a,r.d] (lM k c s M) Q E:=by
 have m2:=B.m2;have m1:=B.m1;cases r with
 |put x kk=>
  simp![Bc,mU,Rw.d,↓Dn,oy,mQ,atI_0,atI_2,atI_3,XO];exact ak h
 |take x i=>
  simp![Bc,mU,Rw.d,↓Dn,oy,mQ,atI_0,atI_2,atI_3,XO,vF B f.2.1 f.2.2];exact ak h
 |pick x y=>
  have F:=(p.at f.2.1).1;have I:=f.2.2;have X:=VP (nm s.nums y) (show (c.pieces.length:Int)≠0 by lia)
  have T:=Vx (nm s.nums y) I;simp![Bc,mU,Rw.d,↓Dn,oy,mQ,atI_0,atI_2,atI_3,XO,ci,F,Vq,Uc,vF B X T];exact#[I,ak h]
 |two w x y z=>
  obtain⟨R,Y,H,S⟩:=f;have F:=(p.at H).1;have W:=(p.at S).1;have Z:=(p.at H).2;have G:(w="put")=False/\(w="take")=False/\(w="pick")=False:=by
   rcases R with rfl|rfl|rfl|rfl
   .exact#[(eq_false<|by decide +kernel),(eq_false<|by decide +kernel),(eq_false<|by decide +kernel)]
   .exact#[(eq_false<|by decide +kernel),(eq_false<|by decide +kernel),(eq_false<|by decide +kernel)]
   .exact#[(eq_false<|by decide +kernel),(eq_false<|by decide +kernel),(eq_false<|by decide +kernel)]
   .exact#[(eq_false<|by decide +kernel),(eq_false<|by decide +kernel),(eq_false<|by decide +kernel)]
  simp![Bc,mU,Rw.d,↓Dn,oy,mQ,atI_0,atI_2,atI_3,ci,F,W,Vq,G.1,G.2.1,G.2.2];have e:Q (.int<|AD w (nm s.nums y) (nm s.nums z) c.m) (lM k c s M):=h;unfold AD at e
  by_cases J:w="sum"
  .rw[if_pos J]at e ⊢;exact#[by lia,ak e]
  .rw[if_neg J]at e ⊢
   by_cases O:w="by"
   .rw[if_pos O]at e ⊢;exact#[(.inl #[by lia,by lia]),by lia,ak e]
   .rw[if_neg O]at e ⊢
    by_cases P:w="less"
    .rw[if_pos P]at e ⊢
     split<;>rename_i q
     .rw[if_pos q]at e;exact ak e
     .rw[if_neg q]at e;exact ak e
    .rw[if_neg P]at e ⊢
     split<;>rename_i q
     .rw[if_pos q]at e;exact ak e
     .rw[if_neg q]at e;exact ak e
 |ifr=>exact f.elim
 |again=>exact f.elim
theorem rR{b:BxQ EE Q}(e:d=r.d)(B:COk c)(p:NOk names c.m s.nums)(F:de names c.m c.pieces.length r)(h:Q (.int<|num c s.nums r) (lM k c s M)):
  calls (vg ad) EE [.ref k.a,d] (lM k c s M) Q b:=
 e▸am λ_ _ f _=>sF B p F (f _ _ h)
section
variable{k:Wk}
def nS(ad:Ad)(k:Wk)(c:Cf)(names:aa')(n:Nat):Prop:=∀(rs:List Rw)(pl:aa_)(s:Sx)(M:Mem)(Q:DK)(E:DX),bc names c.m c.pieces.length rs->2*dD rs+1<=n->pl.length+2*dD rs+2<=1000->NOk names c.m s.nums->s.steps.length<=c.most->
 Q (.bl (bZ c rs pl 0 s).1) (lM k c (bZ c rs pl 0 s).2 M)->Zk ad n [.ref k.a,.tup (aJ rs),iy pl] (lM k c s M) Q E
def PF(ad:Ad)(k:Wk)(c:Cf)(names:aa')(n:Nat):Prop:=∀(x:Str)(a:List Rw)(pl:aa_)(s:Sx)(M:Mem)(Q:DK)(E:DX),fZ names c.m c.pieces.length (.again x a)->2*hR (.again x a)<=n->pl.length+2*hR (.again x a)+1<=1000->NOk names c.m s.nums->s.steps.length<=c.most->
 Q (.bl (iR c (.again x a) pl s).1) (lM k c (iR c (.again x a) pl s).2 M)->Zo ad n [.ref k.a,(Rw.again x a).d,iy pl] (lM k c s M) Q E
theorem KM:kY c r pl s=if (nt c pl (num c s.nums r) s).1=true then (true,#[sN s.nums (iC r) (num c s.nums r),(nt c pl (num c s.nums r) s).2.steps]) else nt c pl (num c s.nums r) s:=by
 unfold kY nt;lia
theorem Q0(f:NOk names c.m s.nums)(e:de names c.m c.pieces.length r):iC r∈s.nums.map (·.1):=by
 rw[f.keys];cases r with
 |two w x y z=>exact e.2.1
 |ifr=>exact e.elim
 |again=>exact e.elim
 |_=>exact e.1
theorem wH(B:COk c)(e:s.steps.length<=c.most)(G:U[0]?=ap (ap<|.ref k.a))(p:∀N K,K (iy pl) N->f U N K)(F:∀N K,K (.int v) N->h U N K)(q:K (!(nt c pl v s).1) (lM k c (nt c pl v s).2 M)):fU (cm<|ao<|aj (kM ad) EE 3<|aa (ac 0)<|aa f<|aa h ag) U (lM k c s M) K:=by
 simp_arith! only[fU,cm,ao,aj,aa,ac,G]
 exact p _ _ (F _ _ #[rfl,rM B.most e q])
theorem FD{rest:List D}{w:D}(e:gN s.nums x=ap (nm s.nums x))(h:U[0]?=ap (ap<|.ref k.a))(f:U[i]?=ap (ap<|.tup (w::.str x::rest)))(q:K (.int<|lk s.nums x) (lM k c s M)):
  oH (al<|ah bW (ah av (ah av (ac 0)<|dC<|.int 0)<|ah av (ac i)<|dC<|.int 1)<|dC<|.int 0) (dC<|.int 0) (dC<|.int 1) U (lM k c s M) K:=by
 simp![h,f,oy,mQ,atI_0,atI_1,ci,e,Vq];unfold lk at q;lia
theorem sG(p:pl.length<=1000)(f:U[i]?=ap (ap<|iy pl))(h:U[j]?=ap (ap<|.int v))(q:K (iy (pl++[v])) M):ah ba (ac i) (aU<|aa (ac j) ag) U M K:=by
 simp_arith! only[ah,ac,aU,aa,f,h,iy,ba,Uc,UB,WK]
 refine#[by trivial,bh (by lia),?_]
 have e:pl.map D.int++[.int v]=(pl++[v]).map D.int:=by simp
 rw[e];exact q
theorem GY(H:nS ad k c names n)(O:U[0]?=ap (ap<|.ref k.a))(I:∀N K,K (.tup<|aJ rs) N->p U N K)(G:∀N K,K (iy pl) N->B U N K)(ok:bc names c.m c.pieces.length rs)(J:2*dD rs+1<=n)(e:pl.length+2*dD rs+2<=1000)(h:NOk names c.m s.nums)(f:s.steps.length<=c.most)(q:K (!(bZ c rs pl 0 s).1) (lM k c (bZ c rs pl 0 s).2 M)):
  fU (cm<|ao<|aj (Zk ad n) EE 3<|aa (ac 0)<|aa p<|aa B ag) U (lM k c s M) K:=by
 simp_arith! only[fU,cm,ao,aj,aa,ac,O]
 refine I _ _ (G _ _ #[rfl,am λQ' E' F _=>H rs pl _ M Q' E' ok J e h f (F _ _ q)])
theorem KI(h:fZ names m many r)(e:bg r=true):de names m many r:=by
 cases r<;>first|assumption|cases e
theorem wo{n:cH}:lk n x=0\/lk n x=1:=by unfold lk;split<;>simp
theorem kx{EE:DX}{S0:Sd}{n:Nat}{x:Str}{a:List Rw}{pl:aa_}{M:Mem}{Q:DK}{D':DEnds}{ok:Mem->Prop}{bx:BxF (af 3) (mw ad S0 (Zk ad n) EE) D' ok}(J:COk c)(W:nS ad k c names n)(T:x∈names)(F:bc names c.m c.pieces.length a)(X:2*dD a+1<=n)(O:pl.length+2*dD a+3<=1000)
  (S:∀M,ok M) (e:D'.rt=_3.drp Q) (H:∀U M',_3.drp Q (.bl cx) M'->D'.nx U M'):∀(f t:Nat)(s:Sx)(R P:Option D),NOk names c.m s.nums->s.steps.length<=c.most->
  Q (.bl (fC c x pl (λt s=>bZ c a (pl++[(t:Int)]) 0 s) f t s).1) (lM k c (fC c x pl (λt s=>bZ c a (pl++[(t:Int)]) 0 s) f t s).2 M)->
  iX (af 3) (mw ad S0 (Zk ad n) EE) D' ok bx ((Wn t f).map λ(i:Nat)=>D.int (i:Int)) [ap (.ref k.a),ap (.tup [.str "again",.str x,.tup (aJ a)]),ap (iy pl),R,P] (lM k c s M)
 |0,t,s,R,P,hno,hst,h=>#[S _,H _ _<|ak h]
 |f+1,t,s,R,P,hno,hst,h=>by
  refine#[S _,?_];unfold fC at h;have B:=(nt_gr (pl:=pl++[(t:Int)]) (v:=lk s.nums x)).2 hst;have p:NOk names c.m (nt c (pl++[(t:Int)]) (lk s.nums x) s).2.nums:=by rw[fQ];exact hno
  refine FD (hno.at T).1 rfl rfl ?_;simp[af];unfold tF ai aE;refine wH J hst rfl (λN K=>sG (by lia) rfl rfl) (λN K q=>q) ?_
  cases I:(nt c _ _ s).1 with
  |false=>
   rw[if_neg (by rw[I];simp),I]at h
   simp[e];exact ak h
  |true=>
   rw[if_pos I]at h;simp[aB];have Y:∀K:Bool->Mem->Prop,K (decide _) (lM k c (nt c (pl++[(t:Int)]) (lk s.nums x) s).2 M)->al (ah bW (ac 4)<|dC<|.int 0) [ap (.ref k.a),ap (.tup [.str "again",.str x,.tup (aJ a)]),ap (iy pl),ap (.int t),ap (.int<|lk s.nums x)] _ K:=λK q=>by
    trivial
   refine Y _ ?_;rcases wo with hl|hl
   .rw[hl,if_neg (by decide),<- hl,I]at h
    simp[hl,e];rw[<- hl];exact ak h
   rw[hl,if_pos rfl,<- hl]at h;have n1:decide (lk s.nums x=0)=false:=by rw[hl];rfl
   simp[n1,aB];unfold tY aE;refine GY W rfl (λN K q=>?_) (λN K=>sG (by lia) rfl rfl) F X (by simp;lia) p B ?_
   .exact q
   cases G:(bZ c a _ 0 _).1 with
   |false=>
    rw[if_neg (by simp_all),G]at h
    simp[e];exact ak h
   |true=>
    rw[if_pos G]at h;exact kx J W T F X O S e H f _ _ _ _ (dF J a F _ _ _ p) ((fM a _ 0 _).2 B) h
theorem uG(G:COk c)(J:nS ad k c names n):PF ad k c names (n+1):=by
 intro x a pl s M Q E f I p F B h;simp only[hR]at I p;have H:=G.most;rw[Sl];unfold B6
 simp_arith! only[ai,cW,dR,aa,ah,ac,dC,dt,av,aQ,oy]
 refine#[by lia,by lia,?_]
 have e:cF 0 ((c.most:Int)+1).toNat=(Wn 0 (c.most+1)).map λ(i:Nat)=>D.int i:=by
  unfold cF;rw[V4]
  simp_all
 rw[e];exact kx G J f.1 f.2 (by lia) (by lia) (λ_=>aL) rfl (λ_ _ z=>z) _ 0 s _ _ F B h
theorem mJ{rest:List D}(f:U[4]?=ap (ap<|.tup (.str w::rest)))(q:K (decide (w=e)) M):al (ah bW (ah av (ac 4)<|dC<|.int 0)<|dC<|.str e) U M K:=by
 simp_arith! only[al,ah,ac,f]
 trivial
def RGo(D':DEnds)(k:Wk)(c:Cf)(M:Mem)(d1 d2:Option D)(r:Bool×Sx):Prop:=(r.1=true->∀c3 c4 c5 c6 c7 c8,D'.nx [ap (.ref k.a),d1,d2,c3,c4,c5,c6,c7,c8] (lM k c r.2 M))/\(r.1=cx->D'.rt (.bl cx) (lM k c r.2 M))
theorem FI(F:COk c)(e:NOk names c.m s.nums)(p:s.steps.length<=c.most)(H:names.length<=1000)(B:de names c.m c.pieces.length r)(g:RGo D' k c M d1 d2 (kY c r pl s)):lg ad S0 S1 EE D' [ap (.ref k.a),d1,d2,d3,ap r.d,ap (iy pl),d6,d7,d8] (lM k c s M):=by
 obtain⟨w,rest,G,_,_⟩:=k9 B;rw[KM]at g;unfold lg;generalize f:lN ad S0 S1 EE=K6;refine#[rfl,rR rfl F e B ?_];show af 8 _ _ _ _;simp[af];rw[<- f];unfold lN ai aE;refine wH F p rfl (λ_ _ q=>q) (λ_ _ q=>q) ?_;cases h:(nt c pl _ s).1 with
 |false=>
  rw[if_neg (by rw[h];simp)]at g
  exact g.2 h
 |true=>
  rw[if_pos h]at g;rw[G];simp![oy,mQ,atI_0,atI_1,fQ];refine#[(by rw[eF,Uc,<- Uc,e.keys];exact fH (by lia)),?_]
  rw[m7 (Q0 e B),(Jo (k:=k) (c:=c) (s:=(nt c pl (num c s.nums r) s).2) (M:=M) (x:=sN s.nums (iC r) (num c s.nums r)))];exact g.1 rfl _ _ _ _ _ _
theorem Lh{a b:List Rw}(P:COk c)(h:NOk names c.m s.nums)(f:s.steps.length<=c.most)(R:nS ad k c names n)(ok:fZ names c.m c.pieces.length (.ifr x a b))(B:2*dD a+1<=n/\2*dD b+1<=n/\pl.length+2*dD a+3<=1000/\pl.length+2*dD b+3<=1000)(g:RGo D' k c M d1 d2 (iR c (.ifr x a b) pl s)):
  qX ad S0 (Zk ad n) EE D' [ap (.ref k.a),d1,d2,d3,ap (.tup [.str "if",.str x,.tup (aJ a),.tup (aJ b)]),ap (iy pl),d6,d7,d8] (lM k c s M):=by
 refine FD (h.at ok.1).1 rfl rfl ?_;obtain⟨rs,G,J,O,I,S⟩:∃rs,fJ [D.tup (aJ b),.tup (aJ a)] (lk s.nums x)=ap (.tup _)/\(iR c (.ifr x a b) pl s=if (nt c pl (lk s.nums x) s).1=true then bZ c rs (pl++[lk s.nums x]) 0 (nt c pl (lk s.nums x) s).2 else nt c pl (lk s.nums x) s)/\bc _ _ _ rs/\2*dD rs+1<=n/\pl.length+2*dD rs+3<=1000:=by
  unfold iR;rcases wo with hl|hl<;>rw[hl]
  .exact#[b,rfl,rfl,ok.2.2,B.2.1,B.2.2.2]
  exact#[a,rfl,rfl,ok.2.1,B.1,B.2.2.1]
 rw[J]at g;unfold q_
 simp_arith! only[af,UA,ai,aq,ah,ac,dt,Ua,av,aQ]
 refine#[bh (by simp),λp H=>?_]
 simp_arith! only[frz,Mem.upd_same,Mem.upd_del,au H,G,af]
 unfold sx aE P9;refine wH P f rfl (λ_ _ q=>q) (λ_ _ q=>q) ?_;cases F:(nt c pl _ s).1 with
 |false=>
  rw[if_neg (by rw[F];simp)]at g
  exact g.2 F
 |true=>
  rw[if_pos F]at g;simp;refine GY R rfl (λN K q=>q) (λN K=>sG (by lia) rfl rfl) O I (by simp;lia) (by rw[fQ];exact h) (nt_gr.2 f) ?_
  cases e:(bZ c rs _ 0 _).1 with
  |false=>
   exact g.2 e
  |true=>
   exact g.1 e _ _ _ _ _ _
theorem Dw(hnl:names.length<=1000)(hc:COk c)(ihd:nS ad k c names n)(ihr:PF ad k c names n):nS ad k c names (n+1):=by
 intro rs pl s M Q E f hn I B p h;rw[TD];unfold AX
 simp_arith! only[ai,cW,vT,aa,ac,dt,Ua,aQ,oR]
 refine cw (λxs U M'=>∃(e:List Rw)(j:Nat)(G:Sx)(T R X P J O:Option D),xs=g5 j (aJ e)/\U=[ap _,ap _,ap _,T,R,X,P,J,O]/\M'=lM k c G M/\bc _ _ _ e/\2*dD e+1<=n+1/\pl.length+2*dD e+2<=1000/\NOk _ _ G.nums/\G.steps.length<=c.most/\
  Q (.bl (bZ c e pl j G).1) (lM k c (bZ c e pl j G).2 M)) (λ_ _ _ _=>aL) ?_ ?_ _ _ _ #[rs,0,s,_,_,_,_,_,_,rfl,rfl,rfl,f,hn,I,B,p,h]
 .rintro U M' ⟨e,j,G,T,R,X,P,J,O,Y,rfl,rfl,f,hn,I,B,p,h⟩
  cases e with
  |nil=>
   exact ak h
  |cons r rs=>trivial
 rintro x xs U M' ⟨e,j,G,T,R,X,P,J,O,Y,rfl,rfl,f,hn,I,B,p,h⟩ D' S _ Z _
 cases e with
 |nil=>simp[aJ,g5]at Y
 |cons r e=>
  simp only[aJ,g5,Vi]at Y;obtain⟨rfl,rfl⟩:=Y;simp only[bc]at f;have h1:hR r<=dD (r::e)/\dD e<=dD (r::e):=by simp only[dD];lia
  simp only[bZ]at h;have g:RGo D' k c M (ap<|.tup<|aJ rs) (ap<|iy pl) (iR c r (pl++[(j:Int)]) G):=#[λH T R X P J O=>by
   rw[if_pos H]at h;exact S _ _ #[e,j+1,_,T,R,X,P,J,O,rfl,rfl,rfl,f.2,by lia,by lia,rb hc r f.1 _ _ B,(tP r _ _).2 p,h],λH=>by
   rw[if_neg (by rw[H];simp),H]at h
   rw[show D'.rt=_3.drp Q from Z];exact ak h]
  clear S h
  simp_arith! only[dm,aM,dg,af,UA]
  refine#[rfl,?_];unfold nX ai aq;refine sG (by lia) rfl rfl ?_
  simp only[af,UA];unfold qZ aE
  by_cases F:bg r=true
  .have W:=KI f.1 F
   rw[cO F]at g;have ds:=FI (ad:=ad) (S0:=Zo ad n) (S1:=Zk ad n) (EE:=aG E) (d3:=ap (.int (j:Int))) (d6:=P) (d7:=J) (d8:=O) hc B p hnl W g;obtain⟨w,rest,er,hw1,hw2⟩:=k9 W;rw[er]at ds ⊢;have n1:decide (w=("again":Str))=false:=decide_eq_false λz=>by rw[hw1]at z;exact z
   have n2:decide (w=("if":Str))=false:=decide_eq_false λz=>by rw[hw2]at z;exact z
   refine mJ rfl ?_;simp only[n1,UW,if_false];unfold li aE;refine mJ rfl ?_;simp only[n2,UW,if_false];exact ds
  cases r with
  |again x a=>
   simp only[Rw.d];refine mJ rfl ?_;simp only[decide_true,if_true];unfold rN aE
   simp_arith! only[fU,cm,ao,aj,aa,ag,ac,dt,Ua]
   refine#[rfl,am λQ' E' hq _=>ihr x a (pl++[(j:Int)]) G M Q' E' f.1 (by lia) (by simp;lia) B p (hq _ _ ?_)]
   cases H:(iR c (.again x a) (pl++[(j:Int)]) G).1 with
   |true=>
    simp_arith! only[frz,E7,YD,UW,if_false,aB]
    exact g.1 H _ _ _ _ _ _
   |false=>
    simp_arith! only[frz,E7,Yo,if_true,az,dC]
    exact g.2 H
  |ifr x a b=>
   simp only[hR]at h1;simp only[Rw.d];have n1:decide (("if":Str)=("again":Str))=false:=by decide +kernel
   refine mJ rfl ?_;simp only[n1,UW,if_false];unfold li aE;refine mJ rfl ?_;simp only[decide_true,if_true];exact Lh hc B p ihd f.1 #[by lia,by lia,by simp;lia,by simp;lia] g
  |_=>exact absurd rfl F
theorem uk(e:names.length<=1000)(f:COk c):∀n:Nat,nS ad k c names n/\PF ad k c names n
 |0=>#[λrs pl s M Q E _ h=>by lia,λx a pl s M Q E _ h=>by simp[hR]at h;lia]
 |n+1=>by
  obtain⟨p,B⟩:=uk e f n;exact#[Dw e f p B,uG f p]
end
theorem NA(p:M k.a=ca)(h:M k.dn=ca):∀b o,(M.upd k.ls<|.lst<|ye s.steps) b=ap o->lM k c s M b=ap o:=by
 intro b o e
 by_cases f:b=k.ls
 .subst f;rw[Mem.upd_same]at e;rw[Mx];exact e
 rw[ae f]at e;unfold lM;rw[ae f,ae (Mem.ne e h),ae (Mem.ne e p)];exact e
theorem uT(p:PlOk c names rows nums)(h:∀l,M l=ca->Q (.tup [.ref l,dz names (dq c names rows nums)]) (M.upd l<|.lst<|ye (dq c names rows nums).2.steps)):
  oK ad [aW c names rows mk,bC nums c.pieces,.int (c.most:Nat)] M Q E:=by
 have hl1:=p.l1;simp![Sh,Ce,aW,bC,atI_0,atI_1,atI_3,eQ,Uc];refine#[p.ln,p.l0,p.l1,λdn X=>?_];simp![gx p.ln p.nd];refine#[bh (by decide),λls e=>#[bh (by decide),λa G=>#[bh (by decide),?_]]]
 have T:dn≠ls:=by rintro rfl;rw[Mem.upd_same]at e;cases e
 have J:M ls=none:=by rw[ae (UO T)]at e;exact e
 have n2:a≠ls:=by rintro rfl;rw[Mem.upd_same]at G;cases G
 have n1:a≠dn:=by rintro rfl;rw[ae T,Mem.upd_same]at G;cases G
 have Y:M a=none:=by rw[ae n2,ae n1]at G;exact G
 obtain⟨k,R,O,P⟩:∃k:Wk,k.a=a/\k.dn=dn/\k.ls=ls:=#[#[a,dn,ls,n1,n2,T],rfl,rfl,rfl];have e0:((M.upd dn<|.dK<|eF<|names.zip nums).upd ls<|.lst []).upd a (.lst [.ref dn,.tup (c.pieces.map D.int),.ref ls,.int (c.most:Nat),.int c.m])=lM k c #[names.zip nums,[]] M:=by
  unfold lM;rw[R,O,P,aA (UO n2),aA (UO n1)];rfl
 rw[e0];have hD:=(uk (ad:=ad) (k:=k) p.l1 p.co 24).1 rows [] #[names.zip nums,[]] M;have hn:NOk names c.m (dq c names rows nums).2.nums:=dF p.co rows p.ok [] 0 #[names.zip nums,[]] p.nok;have I:=h ls J;subst R O P;have f:=NA (c:=c) (k:=k) (s:=(dq c names rows nums).2) Y X;refine am λQ' E' W _=>hD Q' E' p.ok (by have:=p.h;lia) (by have:=p.h;simp;lia) p.nok (Vg _) (W _ _ ?_)
 have er:bZ c rows [] 0 #[names.zip nums,[]]=dq c names rows nums:=rfl;rw[er];unfold dz at I;cases Z:(dq c names rows nums).1 with
 |false=>
  rw[Z,if_neg (by simp)]at I
  simp![oy,atI_2];exact#[bh (by decide),#[_,f,I]]
 |true=>
  rw[Z,if_pos rfl]at I;simp![oy,atI_1,atI_2,↓aO]
  refine bM (λxs aa4 U M'=>∃n1 n2 S,names=n1++n2/\xs=n2.map D.str/\aa4=n1.map (λx=>D.int (nm (dq c names rows nums).2.nums x))/\U=[S,ap (.ref k.a)]/\M'=lM k c (dq c names rows nums).2 M)
   (λ_ _ _ _ _=>aL) ?_ ?_ ?_ _ _ _ _ #[[],names,ca,rfl,rfl,rfl,rfl,rfl]
  .rintro aa4 U M' ⟨n1,n2,S,B,F,rfl,rfl,rfl⟩ q W
   have:n2=[]:=by cases n2 with|nil=>rfl|cons _ _=>simp at F
   subst this;have en:n1=names:=by simpa using B.symm
   subst en;simp![Mem.upd_del,au W];exact#[bh (by decide),#[_,f,I]]
  .rintro x xs aa4 U M' ⟨n1,n2,S,B,F,rfl,rfl,rfl⟩ N hN _
   cases n2 with
   |nil=>simp at F
   |cons y n2=>
    simp only[Ue,Vi]at F;obtain⟨rfl,rfl⟩:=F;have hy:=(hn.at (x:=y)<|by rw[B];simp).1
    have H:n1.length+n2.length+1=names.length:=by rw[B];simp;lia
    simp![oy,mQ,atI_0,ci,hy,Vq];exact hN _ _ _ (by rw[Uc];exact fH (by lia)) #[n1++[y],n2,_,by rw[B];simp,rfl,by simp,rfl,rfl]
  .rintro x xs aa4 U M' ⟨n1,n2,S,B,F,rfl,rfl,rfl⟩
   have H:n1.length+n2.length=names.length:=by rw[B];simp
   rw[Uc];exact fH (by lia)
theorem kj{b:BxQ EE λd M'=>frzT d M' Q}(p:PlOk c names rows nums)(h:Q (E4 names<|dq c names rows nums) M):
  calls (oK ad) EE [aW c names rows mk,bC nums c.pieces,.int (c.most:Nat)] M (λd M'=>frzT d M' Q) b:=by
 refine am λQ' E' B _=>uT p λl f=>B _ _ ?_;unfold E4 dz at h;unfold dz;cases e:(dq c _ _ _).1 with
 |true=>
  rw[e]at h;rw[if_pos rfl];simp![Mem.upd_del,au f];exact h
 |false=>
  rw[e]at h;rw[if_neg (by simp)]
  simp![Mem.upd_del,au f];exact h
theorem whT(p:∀K:Bool->Mem->Prop,K true M->f U M K)(h:e { D' with nx:=cK f e D' bx n,ct:=cK f e D' bx n,bk:=D'.nx } U M):cK f e D' bx (n+1) U M:=by
 unfold cK
 simp_all
theorem whF(p:∀K:Bool->Mem->Prop,K cx M->e U M K)(h:D'.nx U M):cK e f D' bx (n+1) U M:=by
 unfold cK
 simp_all
theorem bJ{xs:List D}(e:M p=ca)(h:Q (.lst xs) M):frz (.ref p) (M.upd p<|.lst xs) Q:=by
 simp_arith! only[frz,Mem.upd_same,Mem.upd_del,au e]
 exact h
section
variable{s:Sta}
def aK(C:Cse)(s t:Sta):List aC:=(eA C).filter λk=>decide (aI C s k≠aI C t k)
theorem wc(o:C.Ok)(h:∀p,M p=ca->Q (.ref p) (M.upd p<|.lst<|(eA C).map kD)):vI ad [C.d] M Q E:=by
 have l1:=o.l1;have few:=o.few;rw[T7];unfold zC Cse.d;simp![atI_1,atI_2];intro I B;simp only[Mem.upd_del,au B];refine#[by lia,λH f=>?_]
 simp[au f];refine#[bh (by simp[cF];lia),λG F=>ak ?_]
 have:=h G F;have e:(eA C).map kD=C.names.map D.str++cF 0 (VY C.many):=by simp[eA];congr 1;exact UE λi _=>by simp[kD]
 rw[e]at this;exact this
theorem Gi(o:C.Ok)(H:SOk C s)(I:SOk C t)(h:∀p,M p=ca->Q (.ref p) (M.upd p<|.lst<|(aK C s t).map kD)):zq ad [C.d,s.d,t.d] M Q E:=by
 have l1:=o.l1;have few:=o.few;have J:(eA C).length=C.names.length+C.many:=by simp[eA]
 refine#[rfl,am λQ' E' G _=>wc o λp f=>G _ _ (bJ f ?_)];refine dB (λd=>match cN d with|some k=>decide (aI C s k≠aI C t k)|none=>cx) id aL (by simp;lia) (λx B K q=>?_) (λx B _ K q=>q) ?_
 .obtain⟨k,F,rfl⟩:=Ul.mp B
  refine#[rfl,aH (λ_ _ q=>dW o H F q) ?_];refine#[rfl,aH (λ_ _ q=>dW o I F q) ?_];refine#[rfl,rfl,?_];have e:cN (kD k)=ap k:=by cases k<;>rfl
  simp[e]at q
  assumption
 intro p f;have e:(((eA C).map kD).filter λd=>match cN d with|some k=>decide (aI C s k≠aI C t k)|none=>cx).map id=(aK C s t).map kD:=by
  rw[VE,Vm];congr 1;refine V1 λk _=>?_;cases k<;>rfl
 rw[e];exact ak (h p f)
theorem nD{b:Int}(o:C.Ok)(B:SOk C s)(F:SOk C t)(G:C.mark s=.int a)(p:C.mark t=.int b)(e:a≠b)(h:Q (.tup [.int a,.int b]) M):vA ad [br C s t] M Q E:=by
 rw[RH];unfold Ck tG;generalize f:tJ ad _=K;simp![br,atI_0,atI_1,atI_3];refine ql o B (uE ?_);rw[G];simp![br,atI_0,atI_2,atI_3];refine ql o F (uE ?_);rw[p,<- f];simp![e];exact#[by trivial,ak h]
theorem kQ{b:Int}{m:D}(e:m=.non\/∃v,m=.int v)(h:Q (.str (if aR m (.int a)=true then "sound" else if aR m (.int b)=true then "faulty" else "other")) M):Cj ad [.tup [.int a,.int b],m] M Q E:=by
 rcases e with rfl|⟨v,rfl⟩
 .simp![LQ,uf,atI_0,atI_1]
  exact ak h
 simp![LQ,uf,atI_0,atI_1];simp[aR]at h
 split
 .rename_i q;rw[if_pos q]at h;exact ak h
 rename_i q;rw[if_neg q]at h
 split
 .rename_i q;rw[if_pos q]at h;exact ak h
 rename_i q;rw[if_neg q]at h;exact ak h
end
section
variable{κ:Type}[DecidableEq κ]
theorem Jf{aa3:List (κ×D)}{k j:κ}{v:D}:(cM (eD aa3 k v) j).isSome=(decide (j=k)||(cM aa3 j).isSome):=by
 unfold eD
 split
 .rename_i h
  induction aa3 with
  |nil=>simp at h
  |cons p r ih=>
   obtain⟨f,J⟩:=p;simp only[Ue,cM,VX] at*
   by_cases e:f=k
   .subst e
    by_cases B:f=j
    .simp_all
    have H:¬j=f:=λz=>B z.symm;simp only[if_pos,B,decide_false,H,YE]
    by_cases G:(r.any λF=>decide (F.1=f))=true
    .have:=ih G
     simp only[H]at this;exact this
    have:r.map (λF=>if F.1=f then (F.1,v) else F)=r:=by
     conv=>rhs;rw[<- VE r]
     refine UE λq I=>?_;have:¬q.1=f:=λz=>G (WB.mpr #[q,I,by simp[z]])
     simp[this]
    rw[this]
   rw[if_neg e]
   by_cases B:f=j
   .simp_all
   simp only[B];exact ih (by simp_all)
 unfold cM;rw[List.find?_append];cases q:aa3.find? _ with
 |some x=>simp
 |none=>
  by_cases e:j=k
  .subst e;simp
  have B:¬k=j:=λz=>e z.symm;simp[e,B]
theorem nE{aa3:List (κ×D)}{j:κ}:∀{a0:List (κ×D)},(cM (aa3.foldl (λa p=>eD a p.1 p.2) a0) j).isSome=(decide (j∈aa3.map (·.1))||(cM a0 j).isSome):=by
 induction aa3 with
 |nil=>simp
 |cons p r ih=>
  intro a0;rw[VD,ih,Jf,Ue]
  by_cases e:j=p.1
  .simp[e]
  simp only[Uk,e,false_or,decide_false,YE]
theorem tQ{aa3:List (κ×D)}:∀{a0:List (κ×D)},(a0.map (·.1)++aa3.map (·.1)).Nodup->aa3.foldl (λa p=>eD a p.1 p.2) a0=a0++aa3:=by
 induction aa3 with
 |nil=>simp
 |cons p r ih=>
  intro a0 h;have e:eD a0 p.1 p.2=a0++[p]:=by
   unfold eD;rw[if_neg];intro z;obtain⟨q,f,e⟩:=WB.mp z;exact(Ws.mp h).2.2 _ (UK f) _ Ux (by lia)
  simp_all
end
noncomputable def uD(u:List aC):List (aC×D):=u.map λk=>(k,D.bl true)
theorem sy:(uD u).map (·.1)=u:=by
 unfold uD;rw[Us];exact VE u
theorem ma:(cM (uD u) k).isSome=decide (k∈u):=by
 have:=@nE _ _ (uD u) k []
 induction u with
 |nil=>rfl
 |cons a r ih=>
  unfold uD cM;rw[Ue,VX]
  by_cases e:a=k
  .subst e;simp
  have f:¬k=a:=λz=>e z.symm;simp only[e,Uk,f,false_or];exact ih (@nE _ _ _ k [] |>.trans (by rw[sy]))
theorem vU:pS (uD u) k=uD (u.filter λx=>decide (x≠k)):=by
 unfold pS uD;rw[Vm];rfl
theorem k8:∀ks:List aC,wt (ks.map λk=>D.tup [kD k,.bl true])=ap (uD ks)
 |[]=>rfl
 |k::ks=>by
  have e:cN (kD k)=ap k:=by cases k<;>rfl
  simp[wt,e,k8 ks];rfl
theorem fG:cN (kD k)=ap k:=by cases k<;>rfl
theorem t6{a:cp}(h:M a=ap (.dK aa3)):iG M (kD k) (.ref a)=ap (cM aa3 k).isSome:=by
 unfold iG;have:aQ M (.ref a)=none:=by simp_arith! only[aQ,h]
 rw[this];unfold uM;simp[h,fG]
theorem tO(o:C.Ok)(S:ks.length<=1000)(h:∀p,M p=ca->Q (.ref p) (M.upd p<|.lst<|((eA C).filter λk=>decide (k∈ks)).map kD)):A9 ad [C.d,zX ks] M Q E:=by
 have l1:=o.l1;have few:=o.few;have T:(eA C).length=C.names.length+C.many:=by simp[eA]
 rw[Th];unfold Cb;generalize O:la ad (aG E)=K;unfold zX
 simp_arith! only[ai,aq,bi,aa,ao,aO,bz,ac,ag,Ua,dt,aQ,bn,bt,Ue,UX,UD,Uv]
 refine dP (λd=>.tup [d,.bl true]) aL (by simp;lia) (λx F K q=>?_) ?_
 .simp_arith! only[aU,aa,ac,dC,ag,Ua,dt]
  exact#[bh (by simp),q]
 .intro p R
  refine bJ R ?_;have e:(ks.map kD).map (λd=>D.tup [d,.bl true])=ks.map λk=>D.tup [kD k,.bl true]:=by simp
  rw[e]
  simp_arith! only[ag,gJ,Fi,cC,k8]
  refine#[trivial,by simp[uD];lia,λP I=>?_]
  simp only[af,UA];rw[<- O];unfold la
  simp_arith! only[az,aO,bz,ao,aj,aa,ac,ag,Ua,dt]
  refine#[rfl,am λQ' E' J _=>wc o λW H=>J _ _ (bJ H ?_)]
  simp_arith! only[aQ,bn,bt,Ue,UX,UD,Uv,Ua,dt,US]
  refine dB (λd=>match cN d with|some k=>decide (k∈ks)|none=>cx) id aL (by simp;lia) (λx F K q=>?_) (λx F _ K q=>q) ?_
  .obtain⟨k,S,rfl⟩:=Ul.mp F
   simp only[fG]at q
   simp_arith! only[al,ah,ac,Ua,dt,wl,t6 (Mem.upd_same),nE,sy]
   simpa [cM] using q
  .intro B f
   have e:(((eA C).map kD).filter λd=>match cN d with|some k=>decide (k∈ks)|none=>cx).map id=((eA C).filter λk=>decide (k∈ks)).map kD:=by
    rw[VE,Vm];congr 1;refine V1 λk _=>?_;simp only[Function.comp,fG]
   rw[e];have n1:B≠P:=λz=>by rw[z,Mem.upd_same]at f;cases f
   rw[ae n1]at f;refine#[M.upd B (.lst<|((eA C).filter λk=>decide (k∈ks)).map kD),λb X e=>?_,h B f]
   by_cases G:b=B
   .subst G;rw[Mem.upd_same]at e ⊢;exact e
   .rw[ae G]at e ⊢
    rw[ae (λz=>by rw[z,I]at e;cases e)]
    exact e
noncomputable def fD:Rw->List Str
 |.pick _ y=>[y]
 |.two _ _ y z=>[y,z]
 |.ifr x _ _=>[x]
 |.again x _=>[x]
 |_=>[]
theorem oA(B:fZ names m many r)(h:∀p,M p=ca->Q (.ref p) (M.upd p<|.lst<|(fD r).map D.str)):A7 ad [r.d] M Q E:=by
 cases r with
 |put x k=>simp![pQ,jr,Rw.d,atI_0];exact#[bh (by decide),λp e=>ak (h p e)]
 |take x i=>simp![pQ,jr,Rw.d,atI_0];exact#[bh (by decide),λp e=>ak (h p e)]
 |pick x y=>simp![pQ,jr,Rw.d,atI_0];exact λp e=>ak (h p e)
 |two w x y z=>
  obtain⟨f,_⟩:=B;rcases f with rfl|rfl|rfl|rfl<;>(simp![pQ,jr,Rw.d,atI_0];exact λp e=>ak (h p e))
 |ifr x a b=>simp![pQ,jr,Rw.d,atI_0,atI_1];exact#[bh (by decide),λp e=>ak (h p e)]
 |again x a=>simp![pQ,jr,Rw.d,atI_0,atI_1];exact#[bh (by decide),λp e=>ak (h p e)]
structure Gk where
 a:cp
 dn:cp
 lp:cp
 du:cp
 h1:a≠dn
 h2:a≠lp
 h3:a≠du
 h4:dn≠lp
 h5:dn≠du
 h6:lp≠du
structure Gs where
 n:cH
 ps:List Int
 u:List aC
 td:List Rw
 left:Int
def o_:List Rw->D
 |[]=>.non
 |r::rs=>.tup [r.d,o_ rs]
noncomputable def gF(k:Gk)(td:D)(left:Int):List (Str×D):=[("numbers",.ref k.dn),("pieces",.ref k.lp),("unsettled",.ref k.du),("todo",td),("left",.int left)]
def gM(ad:Ad)(k:Gk)(g:Gs)(M:Mem):Mem:=(((M.upd k.a<|.ins ad.C_Going<|gF k (o_ g.td) g.left).upd k.dn<|.dK<|eF g.n).upd k.lp<|.lst<|g.ps.map D.int).upd k.du (.dK<|uD g.u)
theorem gp:gM ad k g M k.du=ap (.dK<|uD g.u):=by unfold gM;simp_all
theorem qc:gM ad k g M k.lp=ap (.lst<|g.ps.map D.int):=by unfold gM;rw[ae k.h6,Mem.upd_same]
theorem gy:gM ad k g M k.dn=ap (.dK<|eF g.n):=by unfold gM;rw[ae k.h5,ae k.h4,Mem.upd_same]
theorem cU:gM ad k g M k.a=ap (.ins ad.C_Going<|gF k (o_ g.td) g.left):=by unfold gM;rw[ae k.h3,ae k.h2,ae k.h1,Mem.upd_same]
theorem nz(f:b≠k.a)(e:b≠k.dn)(h:b≠k.lp)(p:b≠k.du):gM ad k g M b=M b:=by
 unfold gM;rw[ae p,ae h,ae e,ae f]
structure Gk.Fr(k:Gk)(M:Mem):Prop where
 a:M k.a=ca
 dn:M k.dn=ca
 lp:M k.lp=ca
 du:M k.du=ca
theorem cj(h:gM ad k g M b=ca):b≠k.a/\b≠k.dn/\b≠k.lp/\b≠k.du/\M b=none:=by
 have p:b≠k.a:=λz=>by rw[z,cU]at h;cases h
 have f:b≠k.dn:=λz=>by rw[z,gy]at h;cases h
 have B:b≠k.lp:=λz=>by rw[z,qc]at h;cases h
 have e:b≠k.du:=λz=>by rw[z,gp]at h;cases h
 rw[nz p f B e]at h;trivial
theorem dN(f:k.Fr M)(e:M b=ap o):gM ad k g M b=ap o:=by
 rw[nz (λz=>by rw[z,f.a]at e;cases e) (λz=>by rw[z,f.dn]at e;cases e) (λz=>by rw[z,f.lp]at e;cases e) (λz=>by rw[z,f.du]at e;cases e)]
 exact e
theorem rE(f:k.Fr M)(e:M b=ap o):(gM ad k g M).upd b h=gM ad k g (M.upd b h):=by
 have n1:k.a≠b:=λz=>by rw[<- z,f.a]at e;cases e
 have n2:k.dn≠b:=λz=>by rw[<- z,f.dn]at e;cases e
 have p:k.lp≠b:=λz=>by rw[<- z,f.lp]at e;cases e
 unfold gM;rw[aA (λz=>by rw[<- z,f.du]at e;cases e),aA p,aA n2,aA n1]
theorem vW:(gM ad k g M).upd k.a (.ins ad.C_Going<|gF k (o_ td) left)=gM ad k { g with td:=td,left:=left } M:=by
 unfold gM;rw[aA (UO k.h3),aA (UO k.h2),aA (UO k.h1),Mem.upd_upd]
theorem MU{n:cH}:(gM ad k g M).upd k.dn (.dK<|eF n)=gM ad k { g with n:=n } M:=by
 unfold gM;rw[aA (UO k.h5),aA (UO k.h4),Mem.upd_upd]
theorem Re:(gM ad k g M).upd k.lp (.lst<|ps.map D.int)=gM ad k { g with ps:=ps } M:=by
 unfold gM;rw[aA (UO k.h6),Mem.upd_upd]
theorem N6:(gM ad k g M).upd k.du (.dK<|uD u)=gM ad k { g with u:=u } M:=by
 unfold gM
 simp_all
theorem Mi:UZ ("numbers":Str) (gF k td left)=ap (.ref k.dn):=rfl
theorem gf1:UZ ("pieces":Str) (gF k td left)=ap (.ref k.lp):=rfl
theorem LI:UZ ("unsettled":Str) (gF k td left)=ap (.ref k.du):=rfl
theorem R8:UZ ("todo":Str) (gF k td left)=ap td:=rfl
theorem gf4:UZ ("left":Str) (gF k td left)=ap (.int left):=rfl
theorem gfs:UZ ("settled":Str) (gF k td left)=none:=rfl
theorem QU:bV "todo" d (gF k td left)=gF k d left:=rfl
theorem TL:bV "left" (.int v) (gF k td left)=gF k td v:=rfl
theorem gfl:(gF k td left).length=5:=rfl
theorem eV(h:Q (o_ (rs++td)) M):oO ad [.tup (aJ rs),o_ td] M Q E:=by
 rw[Sw];unfold C8
 simp_arith! only[ai,cW,Pj,aa,ac,ag,Ua,dt]
 refine cw (λF U N=>∃(c:Option D)(us p:List Rw),rs=us++p/\F=(aJ us).reverse/\U=[ap (.tup<|aJ rs),ap (o_ (p++td)),c]/\N=M) (λ_ _ _ _=>aL) ?_ ?_ _ _ _ #[ca,rs,[],by simp,rfl,rfl,rfl]
 .rintro U N ⟨c,us,p,B,f,rfl,rfl⟩
  have:us=[]:=by
   cases us with
   |nil=>rfl
   |cons a b=>rw[aJ]at f;simp at f
  subst this;rw[Uv]at B;subst B
  simp_arith! only[az,ac,Ua,dt]
  exact ak h
 .rintro y F U N ⟨c,us,p,B,f,rfl,rfl⟩ D' G _ _ _
  obtain⟨e,r,rfl⟩:∃e r,us=e++[r]:=by
   rcases List.eq_nil_or_concat us with z|⟨e,r,z⟩
   .subst z;rw[aJ]at f;simp at f
   .exact#[e,r,by simpa using z]
  rw[gY,VW,List.reverse_append]at f;simp only[Ue,UX,XJ,List.reverse_nil,Uv,UD,Vi]at f;obtain⟨rfl,rfl⟩:=f;simp only[af,UA];unfold tV
  simp_arith! only[aq,aU,aa,ac,ag,af,UA,Ua,dt]
  exact#[bh (by simp),G _ _ #[_,e,r::p,by simp[B],by rw[gY],rfl,rfl]]
structure GOk(C:Cse)(g:Gs):Prop where
 n:NOk C.names C.w g.n
 lp:g.ps.length=C.many
 rp:∀v∈g.ps,0<=v/\v<C.w
 td:bc C.names C.w C.many g.td
noncomputable def Gs.cf(C:Cse)(g:Gs):Cf:=#[C.w,g.ps,C.most]
theorem GOk.pd(k:GOk C g):C.d=aW (g.cf C) C.names C.rows C.mn:=by unfold Cse.d aW Gs.cf;rw[k.lp]
theorem GOk.co(k:GOk C g)(o:C.Ok):COk (g.cf C):=#[o.m2,o.m1,k.rp,by show g.ps.length<=_;rw[k.lp];have:=o.few;lia,o.most]
def MC(C:Cse)(n:cH):Rw->Option Int
 |.take _ i=>ap i
 |.pick _ y=>ap (nm n y % (C.many:Int))
 |_=>ca
noncomputable def O1(o:Option Int):D:=match o with
 |some i=>.int i
 |none=>.non
theorem hV(h:fZ names m many r)(e:bg r=true):de names m many r:=by
 cases r<;>first|exact h|cases e
theorem ko(k:GOk C g)(B:fZ C.names C.w C.many r)(F:M p=ap (.dK<|eF g.n))(h:Q (O1<|MC C g.n r) M):oS ad [C.d,.ref p,r.d] M Q E:=by
 cases f:bg r with
 |true=>
  rw[k.pd];refine cz k.n (by have:=hV B f;rw[<- k.lp]at this;exact this) F ?_
  have e:((g.cf C).pieces.length:Int)=C.many:=by show (g.ps.length:Int)=_;rw[k.lp]
  cases r with
  |pick x y=>
   show Q (.int _) M;rw[e];exact h
  |_=>exact h
 |false=>
  cases r with
  |ifr x a b=>simp![qg,jm,Cse.d,Rw.d,atI_0];exact ak h
  |again x a=>simp![qg,jm,Rw.d,atI_0];exact ak h
  |_=>cases f
theorem wR(o:C.Ok)(k:GOk C g)(X:fZ C.names C.w C.many r)(O:bg r=true)(T:M P=ap (.dK<|eF g.n))(W:M lp=ap (.lst<|g.ps.map D.int))(h:Q (.int<|num (g.cf C) g.n r) M):
  nq ad [C.d,.ref P,.ref lp,r.d] M Q E:=by
 have hm1:=o.m1;have hm2:=o.m2;have hc:=k.co o;have f:=hV X O;have J:=k.lp;have F:∀i:Nat,i<C.many->(g.ps.map D.int)[i]?=ap (.int<|(g.ps[i]?).getD 0):=λi hi=>by
  rw[Uo,Ud (by lia)];rfl
 have p:∀{K:DK},K (O1<|MC C g.n r) M->∀Q' E',(∀d M,K d M->Q' d M)->oS ad [C.d,.ref P,r.d] M Q' E':=λ{K} q Q' E' e=>ko k X T (e _ _ q);have B:=@E9 C;cases r with
 |put x v=>
  simp![kO,gj,B,Rw.d,atI_0,atI_2];exact ak h
 |take x i=>
  obtain⟨S,G,h1⟩:=f;have I:=F i.toNat (by lia)
  rw[Rw.d]at p ⊢;simp![kO,gj,atI_0,atI_2];refine am λQ' E' e _=>p (K:=λd M=>_) ?_ Q' E' e;simp![MC,O1,W,bG G,I];exact ak h
 |pick x y=>
  obtain⟨S,R,G⟩:=f;have g0:=VP (nm g.n y) (show (C.many:Int)≠0 by lia)
  have g1:=Vx (nm g.n y) G;have I:=F (nm g.n y % (C.many:Int)).toNat (by lia)
  have e2:num (g.cf C) g.n (.pick x y)=(g.ps[(nm g.n y % (C.many:Int)).toNat]?).getD 0:=by show (g.ps[(nm g.n y % (g.ps.length:Int)).toNat]?).getD 0=_;rw[J]
  rw[e2]at h;rw[Rw.d]at p ⊢;simp![kO,gj,atI_0,atI_2];refine am λQ' E' e _=>p (K:=λd M=>_) ?_ Q' E' e;simp![MC,O1,W,bG g0,I];exact ak h
 |two w x y z=>
  obtain⟨Y,S,R,Z⟩:=f;have a1:=k.n.at R;have a2:=k.n.at Z;have H:((w=WT "put")=False):=by rcases Y with rfl|rfl|rfl|rfl<;>exact eq_false (by decide +kernel)
  rw[Rw.d]at p ⊢;simp![kO,gj,atI_0,atI_2,H];refine am λQ' E' e _=>p (K:=λd M=>_) ?_ Q' E' e;simp![MC,O1,B,atI_0,atI_2,atI_3,T,ci,a1.1,a2.1,Vq];exact aH (d:=.int (num (g.cf C) g.n<|.two w x y z)) (λ_ _ q=>kG (by lia) (by lia) (by lia) q) (ak h)
 |ifr=>cases O
 |again=>cases O
def fK(C:Cse)(g:Gs)(r:Rw):Option aC:=
 if g.u=[] then ca else match (eA C).filter λk=>decide (k∈((fD r).filter λx=>decide ((UN x:aC)∈g.u)).map UN) with
  |k::_=>ap k
  |[]=>match MC C g.n r with
   |some i=>if (VI i:aC)∈g.u then ap (.inl i) else ca
   |none=>ca
def L1:Option aC->D
 |some k=>kD k
 |none=>.non
theorem BE(h:fZ names m many r):∀x∈fD r,x∈names:=by
 cases r with
 |pick x y=>intro z e;simp[fD]at e;subst e;exact h.2.1
 |two w x y z=>intro v f;simp[fD]at f;rcases f with rfl|rfl;exact h.2.2.1;exact h.2.2.2
 |ifr x a b=>intro z e;simp[fD]at e;subst e;exact h.1
 |again x a=>intro z e;simp[fD]at e;subst e;exact h.1
 |_=>simp[fD]
theorem GG:(fD r).length<=2:=by cases r<;>simp[fD]
theorem uD_emp:(uD u).isEmpty=u.isEmpty:=by cases u<;>rfl
theorem EO:iG (gM ad k g M) (.str x) (.ref k.du)=ap (decide ((UN x:aC)∈g.u)):=by
 have:=t6 (k:=.inr x) (gp (ad:=ad) (k:=k) (g:=g) (M:=M));rw[ma]at this;exact this
theorem sv(o:C.Ok)(ok:GOk C g)(R:fZ C.names C.w C.many r)(h:Q (L1<|fK C g r) (gM ad k g M)):Bo ad [C.d,.ref k.a,r.d] (gM ad k g M) Q E:=by
 have I:=BE R;have P:=GG (r:=r);rw[RW];unfold AO
 simp_arith! only[ai,aE,fU,cm,aV,ac,Ua,dt,cU,LI,E7,gp]
 refine#[trivial,?_];unfold fK at h;cases T:g.u with
 |nil=>
  rw[if_pos T]at h;exact ak h
 |cons u0 ur=>
  rw[if_neg (by rw[T];simp)]at h
  refine#[rfl,am λQ' E' J _=>oA R λp f=>J _ _ (bJ f ?_)]
  simp_arith! only[aQ,bt,Ue,UX,UD,Uv,Ua,dt,US]
  refine dB (λd=>match d with|.str x=>decide ((UN x)∈g.u)|_=>cx) id aL (by simp;lia) (λx F K q=>?_) (λx F _ K q=>q) ?_
  .obtain⟨y,hy,rfl⟩:=Ul.mp F
   simp_arith! only[al,ah,ac,aV,Ua,dt,cU,LI,wl,EO]
   trivial
  intro p f;generalize O:((fD r).filter _)=fnd at h;have e:(((fD r).map D.str).filter λd=>match d with|.str x=>decide ((UN x:aC)∈g.u)|_=>cx).map id=(fnd.map UN).map kD:=by
   rw[VE,Vm,<- O,Us];rfl
  have Z:∀x∈fnd,x∈C.names:=λx F=>by rw[<- O]at F;exact I x (Ut.mp F).1
  have hfl:fnd.length<=2:=by rw[<- O];exact Uw (UM _ _) P
  rw[e];refine bJ (Q:=λd M'=>(mv ad<|aG E) _ [ap C.d,ap (.ref k.a),ap r.d,ap d,ca] M') f ?_;unfold mv
  simp_arith! only[ai,aE,cm,ac,Ua,dt,E7]
  cases G:fnd with
  |nil=>
   have Y:((eA C).filter λk=>decide (k∈(fnd.map UN:List aC)))=[]:=by rw[G];simp
   rw[Y]at h;simp only[aB];unfold r8 rS
   simp_arith! only[ai,aq,ao,aj,aa,ac,ag,aV,Ua,dt,cU,Mi]
   refine#[trivial,rfl,aH (λ_ _ q=>ko ok R gy q) ?_];cases f:MC C g.n r with
   |none=>
    simp only[f]at h
    simp_arith! only[O1,frz,af,UA,az,oH,al,ah,ac,dC,aV,Ua,dt,cU,LI,F_,yk,gp]
    refine#[trivial,?_];exact ak h
   |some i=>
    simp only[f]at h;have H:=t6 (k:=.inl i) (gp (ad:=ad) (k:=k) (g:=g) (M:=M));rw[ma]at H;simp only[kD]at H
    simp_arith! only[O1,frz,af,UA,az,oH,al,ah,ac,dC,aV,Ua,dt,cU,LI,F_,yk,H]
    refine#[trivial,?_]
    by_cases c:(VI i:aC)∈g.u
    .rw[if_pos c]at h
     rw[if_pos (by simpa using c)]
     exact ak h
    .rw[if_neg c]at h
     rw[if_neg (by simpa using c)]
     exact ak h
  |cons f0 fr=>
   have B:∃W X,((eA C).filter λk=>decide (k∈(fnd.map UN:List aC)))=W::X:=by
    have:(UN f0:aC)∈(eA C).filter λk=>decide (k∈(fnd.map UN:List aC)):=by
     refine Ut.mpr #[Vl _ (by simp_all),?_]
     rw[G];simp
    cases q:(eA C).filter _ with
    |nil=>rw[q]at this;cases this
    |cons a b=>exact#[a,b,rfl]
   obtain⟨W,X,S⟩:=B;rw[S]at h;simp only at h;refine#[rfl,am λQ' E' J _=>tO o (by rw[<- G,Uc];lia) λp f=>J _ _ (bJ f ?_)]
   rw[<- G,S];exact ak h
theorem okRs_app{names:aa'}{m many:Int}:∀{a b:List Rw},bc names m many (a++b)↔bc names m many a/\bc names m many b
 |[],b=>by simp[bc]
 |r::a,b=>by simp[bc,okRs_app,and_assoc]
def pL(C:Cse)(g:Gs)(rest:List Rw):Rw->Gs
 |.ifr x a b=>{ g with left:=g.left-1,td:=(if nm g.n x=0 then b else a)++rest }
 |.again x a=>{ g with left:=g.left-1,td:=if nm g.n x=0 then rest else a++(.again x a::rest) }
 |r=>{ g with left:=g.left-1,td:=rest,n:=sN g.n (iC r) (num (g.cf C) g.n r),u:=g.u.filter λk=>decide (k≠.inr (iC r)) }
theorem oQ:(pL C g rest r).left=g.left-1:=by cases r<;>rfl
theorem G0(o:C.Ok)(ok:GOk C g)(f:fZ C.names C.w C.many r)(e:bg r=true):0<=num (g.cf C) g.n r/\num (g.cf C) g.n r<C.w:=
 Ap (ok.co o) ok.n (by have:=hV f e;rw[<- ok.lp]at this;exact this)
theorem xh(o:C.Ok)(ok:GOk C g)(e:g.td=r::rest):GOk C (pL C g rest r):=by
 have h:=ok.td;rw[e]at h;obtain⟨B,f⟩:=h;have p:bg r=true->GOk C { g with left:=g.left-1,td:=rest,n:=sN _ (iC r) _,u:=g.u.filter λk=>decide (k≠.inr (iC r)) }:=λF=>
  #[Hk (c:=g.cf C) ok.n (G0 o ok B F),ok.lp,ok.rp,f]
 cases r with
 |ifr x a b=>
  refine#[ok.n,ok.lp,ok.rp,okRs_app.mpr #[?_,f]]
  split
  .exact B.2.2
  exact B.2.1
 |again x a=>
  refine#[ok.n,ok.lp,ok.rp,?_];show bc _ _ _ (if nm _ x=0 then rest else a++(.again x a::rest))
  split
  .exact f
  exact okRs_app.mpr #[B.2,B,f]
 |_=>exact p rfl
theorem xN(h:de names m many r):iC r∈names:=by
 cases r with
 |two w x y z=>exact h.2.1
 |ifr=>exact h.elim
 |again=>exact h.elim
 |_=>exact h.1
theorem Gq:R0 (gM ad k g M) (.ref k.du)=true:=by simp[R0,gp]
theorem Jv(h:k∉u):u.filter (λx=>decide (x≠k))=u:=WN.mpr (by lia)
theorem Px(o:C.Ok)(ok:GOk C g)(p:fZ C.names C.w C.many r)(f:bg r=true)(h:D'.nx [ap C.d,ap (.ref k.a),ap r.d] (gM ad k { g with n:=sN g.n (iC r) (num (g.cf C) g.n r),u:=g.u.filter λk=>decide (k≠.inr (iC r)) } M)):
  gT ad EE D' [ap C.d,ap (.ref k.a),ap r.d] (gM ad k g M):=by
 have e:∀{M:Mem}{K:DK},K (.str<|iC r) M->av r.d (.int 1) M K:=λq=>by
  cases r<;>assumption
 unfold gT rF
 simp_arith! only[ai,aq,ao,aj,aa,ac,aV,Ua,dt,cU,Mi]
 refine#[trivial,trivial,rfl,aH (λ_ _ q=>wR o ok p f gy qc q) ?_]
 simp_arith! only[frz,cY,aV,ah,ac,dC,Ua,dt,cU,Mi]
 refine#[trivial,e ?_];have B:(eF g.n).length<sizeLine:=by
  have G:(eF g.n).length=C.names.length:=by rw[<- ok.n.keys];simp[eF]
  have:=o.l1;exact fH (by lia)
 simp_arith! only[sW,gy,cN,m7 (by rw[ok.n.keys];exact(xN<|hV p f)),MU]
 refine#[B,?_]
 simp_arith! only[a_,FJ,aV,ah,ac,dC,Ua,dt,cU,LI,Gq]
 refine#[trivial,trivial,e ?_]
 simp_arith! only[gp,cN]
 cases H:cM (uD _) _ with
 |some v=>simp only[LA,vU,N6];exact h
 |none=>
  have F:(UN<|iC r)∉g.u:=λz=>by
   have:=ma (u:=g.u) (k:=.inr (iC r))
   simp_all
  rw[Jv F]at h;exact h
theorem nJ{rest:List D}(f:U[2]?=ap (ap<|.tup (.str w::rest)))(q:K (decide (w=e)) M):al (ah bW (ah av (ac 2)<|dC<|.int 0)<|dC<|.str e) U M K:=by
 simp_arith! only[al,ah,ac,f]
 trivial
theorem Dy(h:fZ C.names C.w C.many r)(e:bg r=true):∃w rest,r.d=.tup (.str w::rest)/\decide (w=("if":Str))=cx/\decide (w=("again":Str))=false:=by
 cases r with
 |ifr=>cases e
 |again=>cases e
 |two w x y z=>
  obtain⟨f,_⟩:=h;refine#[_,_,rfl,?_];rcases f with rfl|rfl|rfl|rfl<;>exact#[by rfl,by rfl]
 |_=>exact#[_,_,rfl,by rfl,by rfl]
theorem xE(o:C.Ok)(ok:GOk C g)(e:g.td=r::rest)(h:Q .non (gM ad k (pL C g rest r) M)):BS ad [C.d,.ref k.a,r.d] (gM ad k g M) Q E:=by
 have htd:=ok.td;rw[e]at htd;obtain⟨hr,hrest⟩:=htd;have ok1:GOk C { g with td:=rest,left:=g.left-1 }:=#[ok.n,ok.lp,ok.rp,hrest];rw[Ro];unfold Au tR;have etd:o_ g.td=.tup [r.d,o_ rest]:=by rw[e];rfl
 have u1:=vW (ad:=ad) (k:=k) (g:=g) (M:=M) (td:=g.td) (left:=g.left-1)
 simp_arith! only[ai,rQ,cE,aV,ah,ac,dC,Ua,dt,cU,gf4,gfl,TL,u1]
 refine#[trivial,by decide,trivial,trivial,?_]
 have u2:=vW (ad:=ad) (k:=k) (g:={ g with left:=g.left-1 }) (M:=M) (td:=rest) (left:=g.left-1);have u3:=vW (ad:=ad) (k:=k) (g:=g) (M:=M) (td:=rest) (left:=g.left-1)
 simp_arith! only[R8,gf4,TL,Mem.upd_same,Mem.upd_upd,u3,etd,dC,ac,av,aQ,atI_1,Ua,dt,cU,gfl,QU,u2]
 refine#[trivial,by decide,?_]
 have hset:bg r=true->∀{D':DEnds}{EE:DX},D'.nx [ap C.d,ap (.ref k.a),ap r.d] (gM ad k (pL C g rest r) M)->gT ad EE D' _ (gM ad k _ M):=λhs D' EE q=>Px o ok1 hr hs (by
  cases r<;>trivial)
 have hset':bg r=true->(gT ad<|aG E) { nx:=λ_ M'=>drp Q .non M',rt:=drp Q } _ _:=λhs=>by
  exact hset hs (ak h)
 by_cases hs:bg r=true
 .obtain⟨w,wr,er,n1,n2⟩:=Dy hr hs
  have:=hset' hs;rw[er]at this ⊢;refine nJ rfl ?_;simp only[n1,if_false];refine nJ rfl ?_
  simp_all
 cases r with
 |ifr x a b=>
  have hx:=hr.1;have hn:=(ok1.n.at hx).1;have u3:=λl=>vW (ad:=ad) (k:=k) (g:={ g with td:=rest,left:=g.left-1 }) (M:=M) (td:=l) (left:=g.left-1);have fin:∀l:List Rw,(pL C g rest<|.ifr x a b).td=l++rest->calls (oO ad) (aG E) [.tup (aJ l),o_ rest] (gM ad k { g with td:=rest,left:=g.left-1 } M) (λd M'=>frz d M' λy M1=>match M1 k.a with
    |some (MO.ins C' fs)=>C'=ad.C_Going/\fs.length<1000/\drp Q D.non (M1.upd k.a<|MO.ins ad.C_Going<|bV (WT "todo") y fs)
    |_=>False) #[]:=λl hl=>by
   refine aH (λ_ _ q=>eV q) ?_;have ft:∀{l:List Rw}{M:Mem}{Q:DK},Q (o_ l) M->frz (o_ l) M Q:=λ{l} {M} {Q} q=>by cases l<;>exact q
   refine ft ?_;simp only[cU,gfl,QU,u3];rw[<- hl];exact#[trivial,by decide,ak h]
  simp only[Rw.d];refine nJ rfl ?_;simp![atI_1,atI_2,atI_3,cU,Mi,R8,gy,ci,hn,Vq]
  by_cases c:nm g.n x=0
  .simp only[c,if_true]
   exact fin b (by simp only[pL,c,if_true])
  .simp only[c]
   exact fin a (by simp only[pL,c,if_false])
 |again x a=>
  have hx:=hr.1;have hn:=(ok1.n.at hx).1;have u3:=λl=>vW (ad:=ad) (k:=k) (g:={ g with td:=rest,left:=g.left-1 }) (M:=M) (td:=l) (left:=g.left-1);have n1:decide ("again"="if")=false:=by rfl
  simp only[Rw.d];refine nJ rfl ?_;refine nJ rfl ?_;simp;simp![atI_1,atI_2,cU,Mi,R8,gy,ci,hn,Vq]
  by_cases c:nm g.n x=0
  .simp only[c,decide_true]
   refine ak ?_;have:pL C g rest (.again x a)={ g with td:=rest,left:=g.left-1 }:=by simp only[pL,c,if_true]
   simp_all
  simp only[c,decide_false,Yo,if_true];refine#[bh (by decide),?_]
  refine aH (λ_ _ q=>eV (td:=.again x a::rest) q) ?_;have ft:∀{l:List Rw}{M:Mem}{Q:DK},Q (o_ l) M->frz (o_ l) M Q:=λ{l} {M} {Q} q=>by cases l<;>exact q
  refine ft ?_
  simp_arith! only[ac,Ua,dt,cU,gfl,QU,u3]
  have:pL C g rest (.again x a)={ g with td:=a++(.again x a::rest),left:=g.left-1 }:=by simp only[pL,c,if_false]
  rw[<- this];exact#[trivial,by decide,ak h]
 |_=>trivial
def b_(C:Cse):Nat->Gs->Option aC×Gs
 |0,g=>(ca,g)
 |f+1,g=>match g.td with
  |[]=>(if (UN C.mn:aC)∈g.u then ap (.inr C.mn) else ca,g)
  |r::rest=>if g.left<=0 then (ca,g) else match fK C g r with
   |some k=>(ap k,g)
   |none=>b_ C f (pL C g rest r)
section
variable{k:Gk}
theorem Ol:kF (o_ td)=td.isEmpty:=by cases td<;>rfl
theorem sR(o:C.Ok):∀(f:Nat)(g:Gs),GOk C g->GOk C (b_ C f g).2
 |0,g,h=>h
 |f+1,g,h=>by
  unfold b_;cases e:g.td with
  |nil=>exact h
  |cons r rest=>
   dsimp only
   split
   .exact h
   cases a:fK C g r with
   |some k=>exact h
   |none=>exact sR o f _ (xh o h e)
theorem Jq(o:C.Ok)(ok:GOk C g)(e:g.td=r::rest)(S:g.left<=0->D'.rt .non (gM ad k g M))(R:¬g.left<=0->∀q,fK C g r=ap q->D'.rt (kD q) (gM ad k g M))(h3:¬g.left<=0->fK C g r=ca->∀G F,D'.nx [ap C.d,ap (.ref k.a),G,F] (gM ad k (pL C g rest r) M)):gW ad EE D' [ap C.d,ap (.ref k.a),G,F] (gM ad k g M):=by
 have f:=ok.td;rw[e]at f;obtain⟨P,h⟩:=f;have p:o_ g.td=.tup [r.d,o_ rest]:=by rw[e];rfl
 unfold gW
 simp_arith! only[ai,aE,al,ah,aV,ac,dC,oLe,lE,Ua,dt,cU,gf4]
 refine#[trivial,?_]
 by_cases B:g.left<=0
 .rw[if_pos (by simp_all)]
  exact S B
 rw[if_neg (by simp_all)]
 simp[aB];unfold sY tM
 simp_arith! only[ai,aq,ah,aV,ac,Ua,dt,cU,p]
 refine#[trivial,rfl,aH (λ_ _ q=>sv o ok P q) ?_];have I:∀{q:Option _}{M:Mem}{Q:DK},Q (L1 q) M->frz (L1 q) M Q:=λ{q} {M} {Q} z=>by
  cases q with
  |none=>exact z
  |some k=>cases k<;>exact z
 refine I ?_;unfold qP uc;have J:kF (L1<|fK C g r)=(fK C g r).isNone:=by
  cases fK C g r with
  |none=>rfl
  |some k=>cases k<;>rfl
 simp_arith! only[af,UA,ai,aE,al,ah,ac,dC,fc,Ua,dt,J]
 cases H:fK C g r with
 |some q=>
  exact R B q H
 |none=>
  exact#[rfl,am λQ' E' O _=>xE o ok e (O _ _<|h3 B H _ _)]
theorem qx{EE:DX}{D':DEnds}{bx:BxW (al<|ah fc (aV ad.C_Going (ac 1) "todo")<|dC .non) (gW ad EE) D'}(o:C.Ok):∀(f:Nat)(g:Gs)(p h:Option D),GOk C g->g.left<f->
  (∀p h g',(b_ C f g)=(if (UN C.mn:aC)∈g'.u then ap (.inr C.mn) else ca,g')->g'.td=[]->D'.nx [ap C.d,ap (.ref k.a),p,h] (gM ad k g' M))->
  (∀g' q,b_ C f g=(q,g')->D'.rt (L1 q) (gM ad k g' M))->0<=g.left->
  cK (al<|ah fc (aV ad.C_Going (ac 1) "todo")<|dC .non) (gW ad EE) D' bx (f+1) [ap C.d,ap (.ref k.a),p,h] (gM ad k g M)
 |0,g,p,h,ok,hf,h1,h2,h0=>by lia
 |f+1,g,p,h,ok,hf,h1,h2,h0=>by
  have H:∀K:Bool->Mem->Prop,K _ _->al (ah fc (aV _ (ac 1) "todo")<|dC .non) [ap C.d,ap (.ref k.a),p,h] (gM ad k g M) K:=λK q=>by
   simp_arith! only[al,ah,aV,ac,dC,Ua,dt,cU,R8,fc,Ol]
   trivial
  cases e:g.td with
  |nil=>
   refine whF (by simp_all) (h1 p h g ?_ e)
   unfold b_;rw[e]
  |cons r rest=>
   have F:b_ C (f+1) g=if g.left<=0 then (ca,g) else match fK C g r with
    |some k=>(ap k,g)
    |none=>b_ C f (pL C g rest r):=by conv=>lhs;unfold b_;rw[e]
   have I:(pL C g rest r).left=g.left-1:=oQ;refine whT (by simp_all) (Jq o ok e (λB=>?_) (λB q G=>?_) λB G p h=>?_)
   .rw[if_pos B]at F
    exact h2 g _ F
   .rw[if_neg B,G]at F
    exact h2 g _ F
   exact qx o f _ _ _ (xh o ok e) (by lia) (by simp_all) (by lia) (by lia)
theorem CN{f:Nat}(o:C.Ok)(ok:GOk C g)(B:0<=g.left)(F:g.left<f)(h:Q (L1 (b_ C f g).1) (gM ad k (b_ C f g).2 M)):Ab ad [C.d,.ref k.a] (gM ad k g M) Q E:=by
 refine#[_,qx o f g _ _ ok F (λG H p e _=>?_) (λp q e=>?_) B]
 .unfold tu
  rw[e]at h
  simp_arith! only[(@E9 C),az,oH,al,ah,aV,ac,dC,Ua,dt,av,aQ,atI_4,cU,LI,wl,EO]
  refine#[trivial,?_]
  by_cases c:(UN C.mn)∈p.u
  .simp[if_pos c]at h
   rw[if_pos (by simpa using c)]
   exact ak h
  simp only[if_neg c]at h;rw[if_neg (by simpa using c)]
  exact ak h
 rw[e]at h;exact ak h
def Ra(C:Cse)(g:Gs):D:=if g.td=[] then .int (nm g.n C.mn) else .non
theorem uX(o:C.Ok)(ok:GOk C g)(h:Q (Ra C g) (gM ad k g M)):Cu ad [C.d,.ref k.a] (gM ad k g M) Q E:=by
 rw[Sy];unfold C7
 simp_arith! only[az,oH,al,ah,aV,ac,dC,Ua,dt,cU,R8,kU]
 refine#[trivial,?_];unfold Ra at h;cases e:g.td with
 |nil=>
  rw[if_pos e]at h
  simp_arith! only[(@E9 C),ah,ac,dC,Mi,av,aQ,atI_4,Ua,dt,gy,uM,cN,ci,((ok.n.at o.mn).1)]
  exact#[trivial,ak h]
 |cons r rest=>
  rw[if_neg (by rw[e];simp)]at h
  exact ak h
end
def eW(g:Gs)(q:aC)(v:Int):Gs:=match q with
 |.inl i=>{ g with u:=g.u.filter λk=>decide (k≠q),ps:=g.ps.set i.toNat v }
 |.inr x=>{ g with u:=g.u.filter λk=>decide (k≠q),n:=sN g.n x v }
theorem qU(ok:GOk C g)(e:0<=v/\v<C.w):GOk C (eW g q v):=by
 cases q with
 |inl i=>
  refine#[ok.n,by show (g.ps.set _ _).length=_;rw[VL];exact ok.lp,λz f=>?_,ok.td]
  rcases List.mem_or_eq_of_mem_set f with h|h
  .exact ok.rp z h
  rw[h];exact e
 |inr x=>exact#[Hk (c:=g.cf C) ok.n e,ok.lp,ok.rp,ok.td]
theorem e_:(eW g q v).u=g.u.filter λk=>decide (k≠q):=by cases q<;>rfl
theorem fg:(eW g q v).left=g.left:=by cases q<;>rfl
theorem nc{x:cp}(h:Q .non (M.upd x<|.ins ad.C_Going [("numbers",e),("pieces",f),("unsettled",d3),("todo",td),("left",.int left)])):
  FL ad [.ref x,e,f,d3,td,.int left] (M.upd x<|.ins ad.C_Going []) Q E:=by
 have F:bV _ e []=[(("numbers":Str),e)]:=rfl;have G:bV "pieces" f [("numbers",e)]=[(("numbers":Str),e),("pieces",f)]:=rfl;have p:bV "unsettled" d3 [("numbers",e),("pieces",f)]=[(("numbers":Str),e),("pieces",f),("unsettled",d3)]:=rfl;have B:bV "todo" td [("numbers",e),("pieces",f),("unsettled",d3)]=[(("numbers":Str),e),("pieces",f),("unsettled",d3),("todo",td)]:=rfl;rw[u_q1];unfold Kh;simp![Mem.upd_upd,F,G,p,B];exact#[by decide,by decide,by decide,by decide,by decide,ak h]
structure Gat(ad:Ad)(k:Gk)(g:Gs)(N:Mem):Prop where
 a:N k.a=ap (.ins ad.C_Going<|gF k (o_ g.td) g.left)
 dn:N k.dn=ap (.dK<|eF g.n)
 lp:N k.lp=ap (.lst<|g.ps.map D.int)
 du:N k.du=ap (.dK<|uD g.u)
theorem Gat.of:Gat ad k g (gM ad k g M):=#[cU,gy,qc,gp]
theorem Gat.more(h:Gat ad k g M)(f:k1.Fr M):Gat ad k g (gM ad k1 e M):=#[dN f h.a,dN f h.dn,dN f h.lp,dN f h.du]
theorem tj(at':Gat ad k g N)(o:C.Ok)(ok:GOk C g)(hk:q∈eA C)(hu:q∈g.u)(h:∀Y:Gk,Y.Fr N->Q (.ref Y.a) (gM ad Y (eW g q v) N)):
  EA ad [.ref k.a,kD q,.int v] N Q E:=by
 obtain⟨G,hdn,X,I⟩:=at';rw[u_q5];unfold IC
 simp_arith! only[ai,aq,ir,aa,bi,aV,ac,dt,G,Mi,jW,hdn]
 refine#[trivial,λR W=>?_];have a1:=Mem.ne G W;have l1:=Mem.ne X W;have u1:=Mem.ne I W
 simp_arith! only[ae a1,G,gf1,eJ,aQ,ae l1,X]
 refine#[trivial,λP S=>?_];have F:=Mem.ne Mem.upd_same S;rw[ae F.symm]at S;have a2:=Mem.ne G S;have u2:=Mem.ne I S
 simp_arith! only[aa,bi,jW,aV,ac,dt,ae a2,ae a1,G,LI,ae u2,ae u1,I]
 refine#[trivial,λT O=>?_];have B:=Mem.ne Mem.upd_same O;rw[ae B.symm]at O;have J:=Mem.ne Mem.upd_same O;rw[ae J.symm]at O;have a3:=Mem.ne G O
 simp_arith! only[aa,aV,ac,dt,ae a3,ae a2,ae a1,G,R8]
 refine#[trivial,trivial,rfl,λx H=>?_];have e:=Mem.ne Mem.upd_same H;rw[ae e.symm]at H;have p:=Mem.ne Mem.upd_same H;rw[ae p.symm]at H;have f:=Mem.ne Mem.upd_same H;rw[ae f.symm]at H;refine am λQ' E' hq _=>nc (hq _ _ ?_);have Z:((((N.upd R<|.dK<|eF g.n).upd P<|.lst<|g.ps.map D.int).upd T<|.dK<|uD g.u).upd x<|.ins ad.C_Going [("numbers",.ref R),("pieces",.ref P),("unsettled",.ref T),("todo",o_ g.td),("left",.int g.left)])=gM ad #[x,R,P,T,f.symm,p.symm,e.symm,F,J,B] g N:=by
  unfold gM gF;rw[aA e,aA p,aA f]
 rw[Z];have hfr:Gk.Fr #[x,R,P,T,f.symm,p.symm,e.symm,F,J,B] N:=#[H,W,S,O];have hh:=h _ hfr;generalize hk':(#[x,R,P,T,_,_,_,_,_,_]:Gk)=Y at *;have ex:x=Y.a:=by rw[<- hk']
 rw[ex];simp[af,UA];unfold xw;have hv:=VN.mp (by rw[ma];simpa using hu)
 obtain⟨w,hv⟩:=hv
 simp_arith! only[ai,a_,Gz,aV,ac,Ua,dt,cU,LI,Gq,gp,fG,hv,vU,N6]
 rcases gX hk with⟨y,hy,rfl⟩|⟨i,hi,rfl⟩
 .have nl:(eF g.n).length<sizeLine:=by
   have W:(eF g.n).length=C.names.length:=by rw[<- ok.n.keys];simp[eF]
   have:=o.l1;exact fH (by lia)
  simp only[kD]at hh ⊢;simp![bQ,oM,Xc,XR,Xe,YE,Xo,cU,Mi,gy,m7 (by rw[ok.n.keys];exact hy),MU]
  exact#[nl,ak hh]
 .have e3:xP (g.ps.map D.int).length i=ap i:=by
   rw[jL (by lia) (by rw[Uc,ok.lp];lia),UL]
  have e4:(g.ps.map D.int).set i (.int v)=(g.ps.set i v).map D.int:=by simp_all
  simp only[kD]at hh ⊢;simp![oM,Xc,XR,Xo,cU,gf1,qc,e3,e4,Re];exact ak hh
noncomputable def eO(ad:Ad)(L c:Nat):MO:=.ins ad.C_Ends [("limit",.int (L:Nat)),("count",.int (c:Nat))]
inductive Tr where
 |e (m:D)|a (q:aC) (x y:Tr)
def Tr.d:Tr->D
 |.e m=>.tup [.str "end",m]
 |.a q x y=>.tup [.str "ask",kD q,x.d,y.d]
def Tr.asks:Tr->Nat
 |.e _=>0
 |.a _ x y=>1+x.asks+y.asks
def df(C:Cse)(s t:Sta):Nat->Gs->Tr
 |0,_=>.e .non
 |n+1,g=>match (b_ C (C.most+1) g).1 with
  |none=>.e (Ra C (b_ C (C.most+1) g).2)
  |some q=>.a q (df C s t n<|eW (b_ C (C.most+1) g).2 q<|aI C s q) (df C s t n<|eW (b_ C (C.most+1) g).2 q<|aI C t q)
section
variable{s:Sta}
theorem jd{c:Nat}(f:M e=ap (eO ad L c))(H:c+1<=L)(h:Q .non (M.upd e<|eO ad L (c+1))):Ei ad [.ref e] M Q E:=by
 have F:∀v,bV "count" _ [("limit",D.int _),("count",D.int c)]=[(("limit":Str),D.int L),("count",D.int v)]:=λ_=>rfl;have B:∀v,UZ ("count":Str) [("limit",D.int L),("count",D.int v)]=ap _:=λ_=>rfl;have G:∀v,UZ ("limit":Str) [("limit",D.int L),("count",D.int v)]=ap _:=λ_=>rfl;have p:decide ((L:Int)<c+1)=false:=decide_eq_false (by lia)
 unfold eO at f h;rw[u_q8];unfold Jg wO
 simp_arith! only[ai,rP,aE,al,ah,aV,ac,dC,dt,f,F,B,G,Mem.upd_same,lE,p]
 refine#[trivial,by simp,trivial,trivial,trivial,?_]
 refine ak ?_
 assumption
theorem GS{a:cp}{m:Str}(f:∀K:DK,K (.ref a) M->e U M K)(p:M a=ap (.ins Cl fs))(B:fs.lookup m=ca)(h:t U M λds M2=>ds.length+1=n/\calls T EE (.ref a::ds) M2 Q #[]):dy Cl m T EE n e t U M Q:=by
 refine f _ ?_;simp[zy,p];trivial
theorem RQ(f:Gat ad k g N)(o:C.Ok)(I:SOk C z)(ok:GOk C g)(B:q∈eA C)(H:q∈g.u)(h:∀k1:Gk,k1.Fr N->K (.ref k1.a) (gM ad k1 (eW g q<|aI C z q) N)):
  ao (dy ad.C_Going "settled" (EA ad) iD 3 (ac 2)<|aa (ac 1)<|aa (ao<|aj (oh ad) iD 3<|aa (ah av (ac 3)<|dC<|.int 0)<|aa (ac 0)<|aa (ac 1) ag) ag) [ap z.d,ap (kD q),ap (.ref k.a),ap (br C s t)] N K:=by
 have F:∀{a:cp}{M:Mem}{Q:DK}{fs:List _},M a=ap (.ins ad.C_Going fs)->Q _ M->frz (.ref a) M Q:=λ{a M Q fs} e z=>by simp_arith! only[frz,e];exact z
 exact GS (λK q=>q) f.a gfs #[rfl,aH (λ_ _ z=>dW o I B z)<|(λz=>z) #[rfl,am λQ' E' G _=>tj f o ok B H λk1 p=>G _ _ (F cU<|h k1 p)]]
theorem pH(e:Gat ad k g N)(o:C.Ok)(R:SOk C s)(J:SOk C t)(ok:GOk C g)(P:q∈eA C)(O:q∈g.u)(h:∀(k1 k2:Gk)(p:cp),k1.Fr N->k2.Fr (gM ad k1 (eW g q<|aI C s q) N)->gM ad k2 (eW g q<|aI C t q) (gM ad k1 (eW g q<|aI C s q) N) p=ca->
   Q (.ref p) ((gM ad k2 (eW g q<|aI C t q)<|gM ad k1 (eW g q<|aI C s q) N).upd p<|.lst [.ref k1.a,.ref k2.a])):
  yh ad [br C s t,.ref k.a,kD q] N Q E:=by
 rw[Rg];unfold zU;generalize f:ao (dy _ _ _ _ 3 _ _)=te;have F:∀{N:Mem}{z:Sta}{K:DK},Gat ad k g N->SOk C z->(∀k1:Gk,k1.Fr N->K _ _)->te [ap _,ap _,ap _,ap (br C s t)] N K:=λ{N z K} G I hh=>by
  rw[<- f];exact RQ G o I ok P O hh
 refine#[aL,?_];refine F e R λk1 B=>#[by trivial,?_]
 exact#[aL,F (e.more B) J λk2 H=>#[fH (by simp),#[aL,λp S=>ak (by simp_all)]]]
end
theorem F0(h:M b=ap o):M.upd b o=M:=by
 funext c;unfold Mem.upd
 simp_all
theorem Jk(h:k2.Fr (gM ad k1 e N)):gM ad k2 G (gM ad k1 e N)=gM ad k1 e (gM ad k2 G N):=by
 obtain⟨T,I,S,a4,_⟩:=cj h.a;obtain⟨R,b2,P,J,_⟩:=cj h.dn;obtain⟨O,W,X,H,_⟩:=cj h.lp;obtain⟨d1,Z,d3,Y,_⟩:=cj h.du;funext b
 by_cases B:b=k2.a
 .subst B;rw[cU,nz T I S a4,cU]
 by_cases p:b=k2.dn
 .subst p;rw[gy,nz R b2 P J,gy]
 by_cases f:b=k2.lp
 .subst f;rw[qc,nz O W X H,qc]
 by_cases F:b=k2.du
 .subst F;rw[gp,nz d1 Z d3 Y,gp]
 unfold gM;simp[Mem.upd,B,p,f,F]
section
variable{s:Sta}
theorem OS(h:fK C g r=ap q):q∈g.u:=by
 unfold fK at h
 split at h
 .cases h
 split at h
 .rename_i p B e
  cases h;have:q∈(eA C).filter λk=>decide (k∈((fD r).filter λx=>decide ((UN x)∈g.u)).map UN):=by rw[e];simp
  obtain⟨x,f,rfl⟩:=Ul.mp (of_decide_eq_true<|(Ut.mp this).2)
  simp_all
 split at h
 .split at h
  .simp_all
  cases h
 cases h
theorem S2:(pL C g rest r).u.length<=g.u.length/\∀x∈(pL C g rest r).u,x∈g.u:=by
 have f:∀z:aC,(g.u.filter λk=>decide (k≠z)).length<=g.u.length/\∀x∈g.u.filter (λk=>decide (k≠z)),x∈g.u:=λz=>#[UM _ _,λx e=>(Ut.mp e).1];cases r with
 |ifr=>exact#[Um _,λ_ h=>h]
 |again=>exact#[Um _,λ_ h=>h]
 |_=>exact f _
theorem jR:∀(f:Nat)(g:Gs),((b_ C f g).2.u.length<=g.u.length/\∀x∈(b_ C f g).2.u,x∈g.u)/\(0<=g.left->0<=(b_ C f g).2.left/\(b_ C f g).2.left<=g.left)/\∀q,(b_ C f g).1=ap q->q∈(b_ C f g).2.u
 |0,g=>#[#[Um _,λ_ h=>h],λh=>#[h,Xy _],λq h=>by cases h]
 |f+1,g=>by
  unfold b_;cases e:g.td with
  |nil=>
   simp_all
  |cons r rest=>
   dsimp only
   split
   .simp_all
   cases a:fK C g r with
   |some k=>
    refine#[by lia,by lia,λq h=>?_]
    cases h;exact OS a
   |none=>
    obtain⟨⟨B,I⟩,F,p⟩:=jR f _;obtain⟨G,H⟩:=S2;have J:(pL C g rest r).left=g.left-1:=oQ;exact#[#[Uw B G,by simp_all],λh=>#[(F<|by lia).1,by dsimp only;lia],p]
theorem ua(h:q∈u):(u.filter λk=>decide (k≠q)).length<u.length:=by
 rw[List.length_filter_lt_length_iff_exists]
 simp_all
theorem iA(o:C.Ok)(hs:SOk C s)(ht:SOk C t):∀(n:Nat)(g:Gs)(k:Gk)(M:Mem)(c:Nat)(Q:DK)(E:DX),GOk C g->0<=g.left->g.left<=C.most->(∀x∈g.u,x∈eA C)->g.u.length<n->M e=ap (eO ad L c)->k.Fr M->
  c+(df C s t n g).asks<=L->Q (df C s t n g).d (M.upd e<|eO ad L (c+(df C s t n g).asks))->Zt ad n [br C s t,.ref k.a,.ref e] (gM ad k g M) Q E
 |0,g,k,M,c,Q,E,ok,h0,hm,hu,hn,he,hf,hc,h=>by lia
 |n+1,g,k,M,c,Q,E,ok,h0,hm,hu,hn,he,hf,hc,h=>by
  have I:=sR o (C.most+1) g ok;obtain⟨⟨hlen,T⟩,hlft,X⟩:=jR (C:=C) (C.most+1) g;rw[Rx];unfold A8;refine#[rfl,am λQ' E' H _=>CN (f:=C.most+1) o ok h0 (by lia) (H _ _ ?_)]
  have fo:∀{q:Option aC}{M:Mem}{Q:DK},Q (L1 q) M->frz (L1 q) M Q:=λ{q} {M} {Q} z=>by
   cases q with
   |none=>exact z
   |some k=>cases k<;>exact z
  refine fo ?_;simp only[af,UA];unfold df at h hc;generalize hgo:b_ C (C.most+1) g=go at *;obtain⟨a,J⟩:=go;dsimp only at *;unfold rj;cases a with
  |none=>
   refine#[rfl,aH (λ_ _ z=>uX o I z) #[bh (by simp),?_]]
   simp only[Tr.asks,Tr.d,Nat.add_zero,F0 he]at h;exact#[M,λb ob eb=>dN hf eb,h]
  |some q=>
   have P:=X q rfl;have O:=hu q (T q P);have fl:=ua P;simp only[Tr.asks,Tr.d]at h hc;have nn:kF (kD q)=false:=by cases q<;>rfl
   simp_arith! only[ai,aE,al,ah,ac,dC,L1,kU,nn,aB,Ua,dt]
   rw[if_neg (by simp)]
   have lo:UZ ("one_more":Str) [(("limit":Str),D.int (L:Nat)),(("count":Str),D.int (c:Nat))]=none:=rfl;refine GS (a:=e) (λK q=>q) (dN hf he) lo ?_;refine#[rfl,am λQ' E' H _=>jd (dN hf he) (by lia) (H _ _ ?_)]
   rw[rE hf he];have Y:(M.upd e<|eO ad L (c+1)) e=ap (eO ad L (c+1)):=Mem.upd_same;have F:∀{o':MO},k.Fr (M.upd e o'):=λ{o'}=>#[by rw[ae (λz=>by rw[<- z,hf.a]at he;cases he)];exact hf.a,by rw[ae (λz=>by rw[<- z,hf.dn]at he;cases he)];exact hf.dn,by rw[ae (λz=>by rw[<- z,hf.lp]at he;cases he)];exact hf.lp,by rw[ae (λz=>by rw[<- z,hf.du]at he;cases he)];exact hf.du]
   refine#[rfl,am λQ' E' H _=>pH .of o hs ht I O P λk1 k2 p h1 G hp=>H _ _ (bJ hp ?_)];generalize hg1:eW J q (aI C s q)=g1 at *;generalize hg2:eW J q (aI C t q)=g2 at *;have S:g1.u.length<n/\(∀x∈g1.u,x∈eA C)/\g1.left=J.left/\GOk C g1:=by
    rw[<- hg1];exact#[by rw[e_];lia,λx hx=>by rw[e_]at hx;simp_all,fg,qU I<|bH o hs O]
   have R:g2.u.length<n/\(∀x∈g2.u,x∈eA C)/\g2.left=J.left/\GOk C g2:=by
    rw[<- hg2];exact#[by rw[e_];lia,λx hx=>by rw[e_]at hx;simp_all,fg,qU I<|bH o ht O]
   rw[Jk G];have B:k2.Fr _:=#[(cj G.a).2.2.2.2,(cj G.dn).2.2.2.2,(cj G.lp).2.2.2.2,(cj G.du).2.2.2.2];obtain⟨a1,a2,a3,a4,_⟩:=cj G.a;obtain⟨b1,b2,b3,b4,_⟩:=cj G.dn;obtain⟨c1,c2,c3,c4,_⟩:=cj G.lp;obtain⟨d1,d2,d3,d4,_⟩:=cj G.du;have Z:gM ad k J (M.upd e<|eO ad L (c+1)) e=ap (eO ad L (c+1)):=dN F Y;refine#[rfl,am λQ' E' H _=>iA o hs ht n g1 k1 _ (c+1) _ _ S.2.2.2 (by lia) (by lia) S.2.1 S.1 (dN B Z) #[by rw[nz a1.symm b1.symm c1.symm d1.symm];exact h1.a,by rw[nz a2.symm b2.symm c2.symm d2.symm];exact h1.dn,by rw[nz a3.symm b3.symm c3.symm d3.symm];exact h1.lp,by rw[nz a4.symm b4.symm c4.symm d4.symm];exact h1.du] (by lia) (H _ _ ?_)]
   rw[rE B Z,rE F Y,Mem.upd_upd];have W:k2.Fr (gM ad k J<|M.upd e<|eO ad L (c+1+(df C s t n g1).asks)):=by
    have z:∀{b:cp},gM ad k J (M.upd e<|eO ad L (c+1)) b=ca->gM ad k J (M.upd e<|eO ad L (c+1+(df C s t n g1).asks)) b=none:=λ{b} hb=>by
     obtain⟨n1,n2,n3,n4,n5⟩:=cj hb;rw[nz n1 n2 n3 n4];have:b≠e:=λz=>by rw[z,Mem.upd_same]at n5;cases n5
     rw[ae this]at n5 ⊢;exact n5
    exact#[z B.a,z B.dn,z B.lp,z B.du]
   refine#[rfl,am λQ' E' H _=>iA o hs ht n g2 k2 _ (c+1+(df C s t n g1).asks) _ _ R.2.2.2 (by lia) (by lia) R.2.1 R.1 (dN F Mem.upd_same) W (by lia) (H _ _ ?_)]
   rw[rE F Mem.upd_same,Mem.upd_upd];refine#[bh (by simp),M.upd e (eO ad L (c+(1+(df C s t n g1).asks+(df C s t n g2).asks))),λb ob eb=>?_,h]
   have ec:c+1+(df C s t n g1).asks+(df C s t n g2).asks=c+(1+(df C s t n g1).asks+(df C s t n g2).asks):=by lia
   rw[ec];exact dN F eb
end
def g0(C:Cse)(s t:Sta):Gs:=#[C.names.zip s.nums,s.pieces,aK C s t,C.rows,(C.most:Nat)]
section
variable{s:Sta}
theorem sH(o:C.Ok):(aK C s t).Nodup:=by
 refine List.Pairwise.filter _ ?_;show (eA C).Nodup;unfold eA;rw[Ws];refine#[?_,?_,?_]
 .exact Yn _ (by lia) o.nd
 .exact Yn _ (by lia) Xi
 intro a f b e z;obtain⟨x,_,rfl⟩:=Ul.mp f;obtain⟨y,_,rfl⟩:=Ul.mp e;cases z
theorem sf:∀x∈aK C s t,x∈eA C:=λx e=>(Ut.mp e).1
theorem oN(o:C.Ok):(aK C s t).length<=200:=by
 have f:(aK C s t).length<=(eA C).length:=UM _ _;have e:(eA C).length=C.names.length+C.many:=by simp[eA]
 have:=o.l1;have:=o.few;lia
theorem eU(o:C.Ok)(B:SOk C s)(F:SOk C t)(h:∀p,M p=ca->Q (.ref p) (M.upd p<|.lst<|(aK C s t).map kD)):qv ad [br C s t] M Q E:=by
 exact#[rfl,am λQ' E' f _=>Gi o B F λp e=>f _ _ (ak<|h p e)]
theorem MT(o:C.Ok)(e:SOk C s):GOk C (g0 C s t):=#[(o.pl e).nok,e.lp,e.rp,o.ok]
theorem sdE:s.d=.tup [.tup (s.nums.map D.int),.tup (s.pieces.map D.int)]:=rfl
theorem xW(o:C.Ok)(hs:SOk C s)(ht:SOk C t)(h:∀k:Gk,k.Fr M->Q (.ref k.a) (gM ad k (g0 C s t) M)):zL ad [br C s t] M Q E:=by
 have ul:=oN (s:=s) (t:=t) o;rw[SF];refine#[rfl,am λQ' E' Y _=>eU o hs ht λp Z=>Y _ _ (bJ Z ?_)];refine dP (λd=>.tup [d,.bl true]) aL (by simp;lia) (λx f K q=>?_) ?_
 .exact#[bh (by simp),q]
 intro p Z;refine bJ Z ?_;have e:((aK C s t).map kD).map (λd=>D.tup [d,.bl true])=(aK C s t).map λk=>D.tup [kD k,.bl true]:=by simp
 rw[e];have T:(([]:List (aC×D)).map (·.1)++(uD<|aK C s t).map (·.1)).Nodup:=by rw[sy];exact sH o
 simp_arith! only[gJ,Fi,cC,k8,tQ T]
 refine#[trivial,by simp[uD];lia,λR h3=>?_]
 simp[af];unfold sh
 simp_arith! only[az,ir,aa,gQ,ah,ac,dC,dt,Ua,E9,sdE,av,aQ,atI_0,atI_1,eQ,Uc]
 refine#[hs.ln.symm,o.l0,Uw o.l1 (by decide),λS X=>?_]
 have I:=Mem.ne Mem.upd_same X;rw[ae I.symm]at X;intro P O;have J:=Mem.ne Mem.upd_same O;rw[ae J.symm]at O;have B:=Mem.ne Mem.upd_same O;rw[ae B.symm]at O;refine#[rfl,aH (λ_ _ q=>eV (td:=[]) q) ?_];have ft:∀{l:List Rw}{M:Mem}{Q:DK},Q (o_ l) M->frz (o_ l) M Q:=λ{l} {M} {Q} q=>by cases l<;>exact q
 rw[U9];refine ft ?_;refine#[rfl,λx f=>?_];have H:=Mem.ne Mem.upd_same f;rw[ae H.symm]at f;have G:=Mem.ne Mem.upd_same f;rw[ae G.symm]at f;have F:=Mem.ne Mem.upd_same f;rw[ae F.symm]at f;refine am λQ' E' Y _=>nc (Y _ _ ?_);rw[gx hs.ln.symm o.nd];have W:((((M.upd R<|.dK<|uD<|aK C s t).upd S<|.dK<|eF<|C.names.zip s.nums).upd P<|.lst<|s.pieces.map D.int).upd x<|.ins ad.C_Going [("numbers",.ref S),("pieces",.ref P),("unsettled",.ref R),("todo",o_ C.rows),("left",.int C.most)])=gM ad #[x,S,P,R,G.symm,H.symm,F.symm,J,I.symm,B.symm] (g0 C s t) M:=by
  unfold gM gF g0;rw[aA H,aA G,aA F,aA I,aA B]
 rw[W];exact ak (h #[x,S,P,R,_,_,_,_,_,_] #[f,X,O,h3])
def Cse.tree(C:Cse)(s t:Sta):Tr:=df C s t 24 (g0 C s t)
theorem CL{b:Int}(o:C.Ok)(p:SOk C s)(B:SOk C t)(P:C.mark s=.int a)(f:C.mark t=.int b)(F:a≠b)(R:(aK C s t).length<24)(O:1+(C.tree s t).asks<=L)(h:Q (C.tree s t).d M):
  BP ad [br C s t,.int (L:Nat)] M Q E:=by
 refine#[rfl,aH (λ_ _ q=>nD o p B P f F q) #[rfl,λe J=>?_]];have I:bV _ _ []=[(("limit":Str),D.int L)]:=rfl;refine am λQ' E' hq _=>?_;rw[u_q7];unfold Lo;simp![I];refine#[by decide,by decide,ak<|hq _ _ ?_]
 simp[U4];refine GS (λK q=>q) Mem.upd_same rfl ?_;refine#[rfl,am λQ' E' hq _=>jd (c:=0) Mem.upd_same (by lia) (hq _ _ ?_)]
 rw[Mem.upd_upd];refine#[rfl,am λQ' E' hq _=>xW o p B λk H=>hq _ _ ?_];have G:∀{M:Mem}{Q:DK}{fs:List _},M k.a=ap (.ins ad.C_Going fs)->Q _ M->frz (.ref k.a) M Q:=λ{M Q fs} e z=>by simp_arith! only[frz,e];exact z
 refine G cU #[rfl,am λQ' E' hq _=>iA o p B 24 _ k _ 1 _ _ (MT o p) (by show (0:Int)<=C.most;lia) (Xy _) sf R Mem.upd_same H O (hq _ _ ?_)]
 rw[Mem.upd_upd];refine#[M,λb S f=>?_,h];rw[ae (Mem.ne f J)];exact f
end
theorem D2(a b:Nat):Xu (a:Int) (b:Int)=((a ||| b:Nat):Int):=by
 have e:(-(-(a:Int)-1)-1).toNat=a:=by lia
 have f:(-(-(b:Int)-1)-1).toNat=b:=by lia
 unfold Xu V0 Builtin.bitNot;rw[(decide_eq_false<|by lia),(decide_eq_false<|by lia)]
 simp only[e,f];lia
theorem HR(a:Nat):V0 (a:Int) 1=((a % 2:Nat):Int):=by
 unfold V0
 simp_all
noncomputable def LB(b:Nat):Nat:=Vz (b:Int)
def aD(b:Nat):List Nat:=(Uu<|LB b).filter λi=>b.testBit i
theorem GE{b m:Nat}(h:b<2 ^ m):LB b<=m:=by
 unfold LB Vz
 split
 .lia
 rw[Int.natAbs_natCast];have:=(Nat.log2_lt<|by lia).mpr h
 lia
theorem cZ{b m:Nat}(h:b<2 ^ m):aD b=(Uu m).filter λi=>b.testBit i:=by
 obtain⟨d,rfl⟩:∃d,m=LB b+d:=#[m-LB b,by have:=GE h;lia]
 unfold aD;rw[List.range_add,WY];have:((Uu d).map (LB b+·)).filter b.testBit=[]:=by
  rw[Wt];intro i f;obtain⟨j,_,rfl⟩:=Ul.mp f;have e:b<2 ^ LB b:=by
   unfold LB Vz
   split
   .simp_all
   exact Nat.lt_log2_self
  rw[Vt (Ur e<|UP (by decide)<|by lia)]
  simp
 rw[this,U9]
theorem gu{b:Nat}(I:b<2 ^ 200)(h:∀p,M p=ca->Q (.ref p) (M.upd p<|.lst ((aD b).map λ(i:Nat)=>D.int (i:Int)))):ku ad [.int (b:Nat)] M Q E:=by
 have H:=GE I;rw[Sb];unfold yG
 simp_arith! only[az,aO,dt,bt,Ue,UX,UD,Uv,US]
 have F:(Vz b)<=200:=by have:Vz _<=200:=H;lia
 refine#[rfl,by lia,by lia,?_]
 refine dB (λd=>match d with|.int i=>b.testBit i.toNat|_=>cx) id aL ?_ (λx f K q=>?_) (λx f _ K q=>q) ?_
 .simp[cF,Uc];lia
 .simp only[cF,Ul]at f
  obtain⟨i,J,rfl⟩:=f;rw[Int.zero_add]at q ⊢;have G:(b:Int) / 2 ^ ((i:Int)).toNat=(b / 2 ^ i:Nat):=by simp
  simp_arith! only[al,ah,ac,dC,dt,Ua,Ig,oI,lE,G,HR,bW,dv,cP,aR]
  simp[Nat.testBit_eq_decide_div_mod_eq]at q;have O:decide (((b / 2 ^ i % 2:Nat):Int)=1)=decide (b / 2 ^ i % 2=1):=by congr 1;exact propext (by lia)
  simp_all
 intro p B;have e:((cF 0<|VY (Vz b:Nat)).filter λd=>match d with|.int i=>b.testBit i.toNat|_=>cx).map id=(aD b).map λ(i:Nat)=>D.int i:=by
  rw[VE];unfold cF aD LB;rw[Vm];have:∀l:List _,l.map (λ(i:Nat)=>D.int (0+i))=l.map λ(i:Nat)=>D.int i:=λl=>UE (by lia)
  rw[this];congr 1;refine V1 λi _=>?_;simp
 rw[e];exact ak (h p B)
theorem zx{b:BxC (dm 2<|aM (af 0)<|aM (af 1) dg) cS te ok Q}{rest:Dl}(f:Nat->D->D)(e:ok M):∀(xs:List D)(j:Nat)(aa4:List D)(F B:Option D),aa4.length+xs.length<=100000->
  (∀(i:Nat) x,xs[i]?=ap x->∀K:DK,K (f (j+i) x) M->te (ap (.int ((j+i:Nat):Int))::ap x::rest) M K)->Q (aa4++(xs.zipIdx j).map λp=>f p.2 p.1) M->
  cV (dm 2<|aM (af 0)<|aM (af 1) dg) cS te ok Q b (g5 j xs) aa4 (F::B::rest) M
 |[],j,aa4,F,B,hl,he,h=>by
  unfold g5 cV;exact#[e,by simpa using h]
 |x::xs,j,aa4,F,B,hl,he,h=>by
  simp only[UB]at hl;unfold g5 cV;refine#[e,?_]
  simp_arith! only[dm,aM,dg,af,UA,cS,if_true]
  refine#[rfl,he 0 x rfl _ #[fH (by lia),?_]]
  refine zx f e xs (j+1) _ _ _ (by simp;lia) (λi y G K q=>?_) ?_
  .have:=he (i+1) y (by simpa using G) K (by rw[show j+(i+1)=j+1+i by lia];exact q)
   rw[show j+(i+1)=j+1+i by lia]at this
   exact this
  .simpa [Xh] using h
structure Out where
 v:Str
 s:Nat
 f:Nat
noncomputable def Ed(ad:Ad)(x:Out):MO:=.ins ad.C_Outcome [("verdict",.str x.v),("sound",.int (x.s:Nat)),("faulty",.int (x.f:Nat))]
def Ext(M M':Mem):Prop:=∀b o,M b=ap o->M' b=ap o
theorem Ext.refl:Ext M M:=λ_ _ e=>e
theorem Ext.trans{M1 M2:Mem}(a:Ext M M1)(b:Ext M1 M2):Ext M M2:=λx o e=>b x o (a x o e)
theorem Ext.no(h:Ext M M')(e:M' b=ca):M b=none:=by
 cases q:M b with
 |none=>rfl
 |some o=>rw[h b o q]at e;cases e
theorem Ext.new(h:M b=ca):Ext M (M.upd b o):=λx u e=>by rw[ae (Mem.ne e h)];exact e
theorem Ext.upd(x:Ext M M')(h:M b=ca):Ext M (M'.upd b o):=λc u e=>by rw[ae (Mem.ne e h)];exact x c u e
theorem Ext.del(x:Ext M M')(h:M b=ca):Ext M (M'.del b):=λc u e=>by unfold Mem.del;rw[if_neg (Mem.ne e h)];exact x c u e
inductive Lay(ad:Ad)(M:Mem):List cp->List Out->Prop
 |nil:Lay ad M [] []
 |cons {a:cp} {x:Out} {as:abb} {xs:List Out} (h:M a=ap (Ed ad x)) (t:Lay ad M as xs):Lay ad M (a::as) (x::xs)
theorem Lay.go{ad:Ad}{M M':Mem}:∀{as:abb}{xs:List Out},Lay ad M as xs->(∀a x,M a=ap (Ed ad x)->M' a=ap (Ed ad x))->Lay ad M' as xs
 |_,_,.nil,_=>.nil
 |_,_,.cons h t,g=>.cons (g _ _ h) (t.go g)
theorem Lay.snoc{ad:Ad}{M:Mem}{a:cp}{x:Out}(h:M a=ap (Ed ad x)):∀{as:abb}{xs:List Out},Lay ad M as xs->Lay ad M (as++[a]) (xs++[x])
 |_,_,.nil=>.cons h .nil
 |_,_,.cons h' t=>.cons h' (t.snoc h)
theorem Lay.length{ad:Ad}{M:Mem}:∀{as:abb}{xs:List Out},Lay ad M as xs->as.length=xs.length
 |_,_,.nil=>rfl
 |_,_,.cons _ t=>congrArg _ t.length
theorem GW{xs:List D}(h:M l=ap (.lst xs))(a:cp)(x:Out)(e:M a=ap (Ed ad x)):(M.upd l<|.lst ys) a=ap (Ed ad x):=by
 rw[ae (λz=>by rw[z,h]at e;cases e)];exact e
noncomputable def k7(a b:Int)(m:D):Str:=if aR m (.int a)=true then "sound" else if aR m (.int b)=true then "faulty" else "other"
noncomputable def bitK(us:List aC)(q:aC):Nat:=2 ^ us.idxOf q
def g9(a b:Int)(us:List aC):Tr->Nat->Nat->List Out
 |.e m,S,F=>[#[k7 a b m,S,F]]
 |.a q x y,S,F=>g9 a b us y S (F ||| bitK us q)++g9 a b us x (S ||| bitK us q) F
def Ly(us:List aC):Tr->Prop
 |.e m=>m=.non\/∃v,m=.int v
 |.a q x y=>q∈us/\Ly us x/\Ly us y
def f_:Tr->Nat
 |.e _=>1
 |.a _ x y=>1+f_ x+f_ y
def wD(w:Tr×Nat×Nat):D:=.tup [w.1.d,.int (w.2.1:Nat),.int (w.2.2:Nat)]
def xG(a b:Int)(us:List aC)(ws:List (Tr×Nat×Nat)):List Out:=(ws.map λw=>g9 a b us w.1 w.2.1 w.2.2).flatten
def cX(ws:List (Tr×Nat×Nat)):Nat:=(ws.map λw=>f_ w.1).sum
theorem qe:∀t:Tr,1<=f_ t
 |.e _=>Um _
 |.a _ x y=>by unfold f_;lia
theorem Rn:∀e:List (Tr×Nat×Nat),e.length<=cX e
 |[]=>Um _
 |w::e=>by
  have:=Rn e;have:=qe w.1;simp[cX]at *;lia
noncomputable def bD(us:List aC):List (aC×D):=us.zipIdx.map λp=>(p.1,D.int ((2 ^ p.2:Nat):Int))
theorem Kg:(bD us).map (·.1)=us:=by
 unfold bD;rw[Us];exact List.zipIdx_map_fst 0 us
theorem P_(h:q∈us):cM (bD us) q=ap (.int ((bitK us q:Nat):Int)):=by
 have f:∀(l:List _)(j:Nat),q∈l->cM ((l.zipIdx j).map λp=>(p.1,D.int (2 ^ p.2))) q=ap (.int (2 ^ (j+l.idxOf q):Nat)):=by
  intro l
  induction l with
  |nil=>simp_all
  |cons a r ih=>
   intro j h;rw[Xh,Ue];unfold cM;rw[VX]
   by_cases e:a=q
   .simp_all
   have B:(a==q)=false:=by simpa using e
   simp only[e,decide_false];have:=ih (j+1) (by rcases Uk.mp h with z|z;exact absurd z.symm e;exact z)
   unfold cM at this;rw[this,List.idxOf_cons,B];congr 4;simp;lia
 have:=f us 0 h;rw[Wx]at this;exact this
theorem x6{x:cp}{y:Out}(h:Q .non (M.upd x<|Ed ad y)):JM ad [.ref x,.str y.v,.int (y.s:Nat),.int (y.f:Nat)] (M.upd x<|.ins ad.C_Outcome []) Q E:=by
 have e:bV _ _ []=[(("verdict":Str),D.str y.v)]:=rfl;have p:bV "sound" _ [("verdict",D.str y.v)]=[(("verdict":Str),D.str _),("sound",D.int y.s)]:=rfl;rw[u_q0];unfold Jj;simp![Mem.upd_upd,e,p];exact#[by decide,by decide,by decide,ak h]
structure OK(ad:Ad)(M0:Mem)(us:List aC)(db lf lw:cp)(as:abb)(ds:List Out)(ws:List (Tr×Nat×Nat))(N:Mem):Prop where
 x:Ext M0 N
 f:M0 lf=ca
 w:M0 lw=ca
 b:M0 db=ca
 bd:N db=ap (.dK<|bD us)
 lf':N lf=ap (.lst<|as.map D.ref)
 lw':N lw=ap (.lst (ws.map wD).reverse)
 ne:lf≠lw
 nb:lf≠db
 ny:Lay ad N as ds
 few:as.length+cX ws<=100000
 tr:∀w∈ws,Ly us w.1
theorem wDE:wD (e,S,F)=.tup [e.d,.int (S:Nat),.int (F:Nat)]:=rfl
theorem H_{b:Int}{w:Tr×Nat×Nat}(I:OK ad M0 us J P B as ds (w::p) N)(h:∀as' ds' R N' c6 c7 c8 c9,OK ad M0 us J P B as' ds' R N'->cX R<cX (w::p)->ds'++xG a b us R=ds++xG a b us (w::p)->D'.nx [ap cs,ap ld,ap (.tup [.int a,.int b]),ap (.ref J),ap (.ref P),ap (.ref B),c6,c7,c8,c9] N'):
  ie ad EE D' [ap cs,ap ld,ap (.tup [.int a,.int b]),ap (.ref J),ap (.ref P),ap (.ref B),c6,c7,c8,c9] N:=by
 obtain⟨tr,S,F⟩:=w;have ew:((((tr,S,F)::p).map wD).reverse)=(p.map wD).reverse++[wD (tr,S,F)]:=by simp
 have O:=I.lw';rw[ew]at O;have W:((p.map wD).reverse++[wD (tr,S,F)])[((p.map wD).reverse++[wD (tr,S,F)]).length-1]?=ap (wD (tr,S,F)):=by simp
 have T:=I.tr _ Ux;have few:=I.few;have len:=Rn p;simp only[cX,Ue,XC]at few len;unfold ie
 simp_arith! only[ai,aq,iS,ac,ag,dt,Ua,cJ,O,DM,W,List.dropLast_concat]
 refine#[trivial,?_];unfold sJ r9
 simp_arith! only[ai,aq,ah,ac,dC,wDE,av,aQ,atI_1,atI_2,af,UA,dt,Ua]
 have I1:∀{u:D},(N.upd B<|.lst (p.map wD).reverse) P=ap _:=λ{u}=>by rw[ae I.ne];exact I.lf'
 have ex1:Ext M0 (N.upd B<|.lst (p.map wD).reverse):=I.x.upd I.w;have Y:Lay ad (N.upd B<|.lst (p.map wD).reverse) as ds:=I.ny.go λa x=>GW O a x;have X:J≠B:=λz=>by have:=I.bd;simp_all
 have G:(N.upd B<|.lst (p.map wD).reverse) J=ap (.dK<|bD us):=by rw[ae X];exact I.bd
 generalize hN1:N.upd B _=N1 at *;have H:N1 B=ap (.lst (p.map wD).reverse):=by rw[<- hN1,Mem.upd_same]
 have Iz:N1 P=ap _:=I1 (u:=.non);unfold ra;cases tr with
 |e m=>
  unfold tz
  simp_arith! only[aE,al,ah,ac,dC,av,aQ,atI_0,atI_1,Tr.d,bW,dv,cP,aR,if_true,dt,Ua,a_,iS,cJ,Iz,aa,ir,ao,aj,ag]
  refine#[trivial,trivial,trivial,rfl,aH (λ_ _ q=>kQ T q) ?_];refine (λz=>z) #[rfl,λx Z=>am λQ' E' hq _=>x6 (y:=#[k7 a b m,S,F]) (hq _ _ ?_)];have nx:P≠x:=Mem.ne Iz Z;have nw:B≠x:=Mem.ne H Z;have nd:J≠x:=Mem.ne G Z
  simp_arith! only[ag,bj,ae nx,Iz]
  refine#[by simp[f_]at *;exact fH (by lia),?_]
  refine h (as++[x]) (ds++[#[k7 a b m,S,F]]) p _ _ _ _ _ #[(ex1.upd<|ex1.no Z).upd I.f,I.f,I.w,I.b,?_,?_,?_,I.ne,I.nb,?_,?_,λw hw=>I.tr w (Uj _ hw)] ?_ ?_
  .rw[ae (UO I.nb),ae nd];exact G
  .rw[Mem.upd_same];simp
  .rw[ae (UO I.ne),ae nw];exact H
  .refine Lay.snoc ?_ (Y.go λa y e=>?_)
   .rw[ae (UO nx),Mem.upd_same]
   .rw[ae (λz=>by rw[z,Iz]at e;cases e),ae (Mem.ne e Z)];exact e
  .simp only[cX,UG,VH,f_]at few ⊢;lia
  .simp[cX,f_]
  .simp[xG,g9]
 |a q x y=>
  obtain⟨hq,htx,hty⟩:=T;have hne:decide (("ask":Str)=("end":Str))=false:=by decide +kernel
  have gd:uM N1 J (kD q)=ap (ap<|.int ((bitK us q:Nat):Int)):=by simp_arith! only[uM,G,fG,P_ hq]
  unfold rg tI tq
  simp_arith! only[aE,al,ah,ac,dC,av,atI_0,atI_1,atI_2,atI_3,Tr.d,bW,dv,cP,aR,hne,dt,Ua,ai,aq,aQ,G,gd,af,UA,a_,iS,cJ,H,aa,aU,ag,oOr,lE,D2,bj,Mem.upd_same,Mem.upd_upd]
  refine#[trivial,trivial,?_];have hr:(p.map wD).reverse.length=p.length:=by simp
  refine#[trivial,bh (by simp),by rw[hr];exact fH (by lia),trivial,bh (by simp),by exact fH (by simp;lia),?_]
  have er:((p.map wD).reverse++[D.tup [x.d,.int ((S ||| bitK us q:Nat):Int),.int (F:Nat)]])++[D.tup [y.d,.int (S:Nat),.int ((F ||| bitK us q:Nat):Int)]]=(((y,S,F ||| bitK us q)::(x,S ||| bitK us q,F)::p).map wD).reverse:=by simp[wD]
  rw[er];refine h as ds _ _ _ _ _ _ #[ex1.upd I.w,I.f,I.w,I.b,by rw[ae X];exact G,by rw[ae I.ne];exact Iz,Mem.upd_same,I.ne,I.nb,Y.go λa x=>GW H a x,?_,?_] ?_ ?_
  .simp only[cX,Ue,XC,f_]at few ⊢;lia
  .intro w hw
   rcases Uk.mp hw with z|hw
   .rw[z];exact hty
   .rcases Uk.mp hw with z|hw
    .rw[z];exact htx
    .exact I.tr w (by simp_all)
  .simp only[cX,Ue,XC,f_];lia
  .simp[xG,g9]
section
variable{s t:Sta}
theorem vb{us:List aC}{a b:Int}:∀(n:Nat)(as:abb)(ds:List Out)(ws:List (Tr×Nat×Nat))(N:Mem)(B e p f:Option D),cX ws<=n->OK ad M0 us G H J as ds ws N->
  (∀F N' B e p f,OK ad M0 us G H J F (ds++xG a b us ws) [] N'->D'.nx [ap R,ap P,ap (.tup [.int a,.int b]),ap (.ref G),ap (.ref H),ap (.ref J),B,e,p,f] N')->
  cK (cm<|ac 5) (ie ad EE) D' bx (n+1) [ap R,ap P,ap (.tup [.int a,.int b]),ap (.ref G),ap (.ref H),ap (.ref J),B,e,p,f] N
 |n,as,ds,[],N,B,e,p,f,hn,I,h=>by
  refine whF (λK q=>?_) (h as N B e p f<|by simpa [xG] using I)
  simp_arith! only[cm,ac,dt,Ua,E7,I.lw']
  exact q
 |0,as,ds,w::ws,N,B,e,p,f,hn,I,h=>by
  have:=qe w.1;simp[cX]at hn;lia
 |n+1,as,ds,w::ws,N,B,e,p,f,hn,I,h=>by
  refine whT (λK q=>?_) (H_ I λF S ws' N' d6 W d8 T I' X he=>?_)
  .have:((((w::ws).map wD).reverse).isEmpty)=false:=by simp
   simp_arith! only[cm,ac,dt,Ua,E7,I.lw',this]
   exact q
  exact vb n _ _ _ N' d6 W d8 T (by lia) I' λO N2 Z e7 e8 Y I2=>h O N2 Z e7 e8 Y (by simp_all)
theorem qO{us:List aC}:∀(n:Nat)(g:Gs),(∀x∈g.u,x∈us)->Ly us (df C s t n g)
 |0,g,h=>.inl rfl
 |n+1,g,h=>by
  obtain⟨⟨p,f⟩,F,B⟩:=jR (C:=C) (C.most+1) g;unfold df;cases e:(b_ C _ g).1 with
  |none=>
   show Ra C _=.non\/_;unfold Ra
   split
   .simp_all
   simp_all
  |some q=>
   have hs:∀v,∀x∈(eW (b_ C (C.most+1) g).2 q v).u,x∈us:=λv x G=>by rw[e_]at G;simp_all
   exact#[by simp_all,qO n _ (hs _),qO n _<|hs _]
theorem oE:∀t:Tr,f_ t=2*t.asks+1
 |.e _=>rfl
 |.a _ x y=>by unfold f_ Tr.asks;rw[oE x,oE y];lia
theorem qI:∀(us:List aC)(j:Nat),wt ((us.zipIdx j).map λp=>D.tup [kD p.1,.int ((2 ^ p.2:Nat):Int)])=ap ((us.zipIdx j).map λp=>(p.1,D.int ((2 ^ p.2:Nat):Int)))
 |[],_=>rfl
 |k::ks,j=>by simp only[Xh,Ue,wt,fG,qI ks _]
theorem pe{b:Int}(o:C.Ok)(T:SOk C s)(S:SOk C t)(ea:C.mark s=.int a)(eb:C.mark t=.int b)(J:a≠b)(hu:(aK C s t).length<24)(hc:1+(C.tree s t).asks<=L)(hL:L<=10000)(h:∀p as N,Ext M N->N p=ap (.lst<|as.map D.ref)->M p=ca->Lay ad N as (g9 a b (aK C s t) (C.tree s t) 0 0)->Q (.ref p) N):BU ad [br C s t,.int (L:Nat)] M Q E:=by
 have ft:∀{xs:List D}{M:Mem}{Q:DK},Q _ M->frz (.tup xs) M Q:=λz=>z;refine#[rfl,aH (λ_ _ q=>nD o T S ea eb J q)<|ft ?_];refine#[rfl,am λQ' E' hq _=>eU o T S λp R=>hq _ _ (bJ R ?_)]
 simp_arith! only[aQ,oR]
 refine zx (λi d=>.tup [d,.int (2 ^ i:Nat)]) aL _ 0 [] _ _ (by simp;lia) (λi x Y K q=>?_) ?_
 .have hi:i<200:=by
   have h1:i<((aK C s t).map kD).length:=by
    rcases VV i _ with z|z
    .exact z
    simp_all
   rw[Uc]at h1;lia
  refine#[#[by lia,by lia,by decide],bh (by simp),?_]
  simp_all
 intro p R;refine bJ R ?_;have e:[]++(((aK C s t).map kD).zipIdx 0).map (λp=>D.tup [p.1,.int (2 ^ p.2:Nat)])=((aK C s t).zipIdx 0).map λp=>D.tup [kD p.1,.int (2 ^ p.2:Nat)]:=by
  rw[List.zipIdx_map,Us];rfl
 rw[e];have P:(([]:List (aC×D)).map (·.1)++(bD<|aK C s t).map (·.1)).Nodup:=by rw[Kg];exact sH o
 have F:=tQ P
 simp_arith! only[gJ,Fi,cC,qI]
 refine#[trivial,by simp;lia,λX H=>?_]
 have G:(List.foldl _ []<|List.map (λp=>(p.1,D.int _))<|List.zipIdx _)=bD _:=F;rw[G];refine#[by trivial,λO B=>?_]
 have n1:=Mem.ne Mem.upd_same B;rw[ae n1.symm]at B;refine#[rfl,aH (λ_ _ q=>CL o T S ea eb J hu hc q) #[bh (by simp),bh (by simp),λZ f=>?_]]
 have n2:=Mem.ne Mem.upd_same f;rw[ae n2.symm]at f;have W:=Mem.ne Mem.upd_same f;rw[ae W.symm]at f;have I:OK ad M (aK C s t) X O Z [] [] [(C.tree s t,0,0)] (((M.upd X _).upd O<|.lst []).upd Z _):=
  #[((Ext.new H).upd B).upd f,B,f,H,by rw[ae W,ae n1,Mem.upd_same],by rw[ae n2,Mem.upd_same];rfl,Mem.upd_same,n2,n1.symm,.nil,by simp[cX,Ue,UX,XC,List.sum_nil,WK,oE];lia,λw hw=>by
   rcases Uk.mp hw with z|z
   .rw[z];exact qO 24 _ λx Y=>Y
   cases z]
 refine#[_,vb _ _ _ _ _ _ _ _ _ (Um _) I λas' N' c6 c7 c8 c9 I'=>?_];refine ak (h O _ N' I'.x I'.lf' B ?_);simpa [xG] using I'.ny
end
def tm(cf:Cf)(n:cH)(rest:List Rw):Rw->cH×List Rw
 |.ifr x a b=>(n,(if nm n x=0 then b else a)++rest)
 |.again x a=>(n,if nm n x=0 then rest else a++(.again x a::rest))
 |r=>(sN n (iC r) (num cf n r),rest)
def fin(cf:Cf):Nat->cH->List Rw->Option cH
 |_,n,[]=>ap n
 |0,_,_::_=>ca
 |k+1,n,r::rest=>fin cf k (tm cf n rest r).1 (tm cf n rest r).2
theorem dE{n:cH}:fin cf k n []=ap n:=by cases k<;>rfl
def Dc(cf:Cf)(b:Bool×Sx)(rest:List Rw):Option cH:=if b.1=true then fin cf (cf.most-b.2.steps.length) b.2.nums rest else ca
section
variable{cf:Cf}
theorem Br:Dc cf (true,s) rest=fin cf (cf.most-s.steps.length) s.nums rest:=by rfl
theorem GD:Dc cf (cx,s) rest=none:=by rfl
theorem RI(h:s.steps.length<cf.most):nt cf pl v s=(true,#[s.nums,s.steps++[(pl,v)]]):=by unfold nt;rw[if_pos h]
theorem Sg(h:¬s.steps.length<cf.most):nt cf pl v s=(cx,s):=by unfold nt;rw[if_neg h]
theorem rL{n:cH}(h:¬s.steps.length<cf.most):fin cf (cf.most-s.steps.length) n (r::rest)=none:=by
 have:cf.most-s.steps.length=0:=by lia
 rw[this];rfl
theorem wL{n:cH}(h:s.steps.length<cf.most):fin cf (cf.most-s.steps.length) n (r::rest)=fin cf (cf.most-(s.steps++[p]).length) (tm cf n rest r).1 (tm cf n rest r).2:=by
 have:cf.most-s.steps.length=(cf.most-(s.steps++[p]).length)+1:=by simp;lia
 rw[this];rfl
theorem v_{x:Str}{a:List Rw}(F:∀pl s rest,fin cf (cf.most-s.steps.length) s.nums (a++rest)=Dc cf (bZ cf a pl 0 s) rest):∀(f t:Nat)(s:Sx)(rest:List Rw),cf.most-s.steps.length<f->
  fin cf (cf.most-s.steps.length) s.nums (.again x a::rest)=Dc cf (fC cf x pl (λt s=>bZ cf a (pl++[(t:Int)]) 0 s) f t s) rest
 |0,t,s,rest,h=>by lia
 |f+1,t,s,rest,h=>by
  unfold fC
  by_cases c:s.steps.length<cf.most
  .rw[RI c,if_pos rfl,wL c]
   by_cases e:nm s.nums x=0
   .have p:lk s.nums x=0:=by unfold lk;rw[if_pos e]
    rw[p,if_neg (by decide),Br]
    simp[tm,if_pos e]
   have p:lk s.nums x=1:=by unfold lk;rw[if_neg e]
   rw[p];simp only[tm,if_neg e];have i1:=F (pl++[(t:Int)]) #[s.nums,s.steps++[(pl++[(t:Int)],1)]] (.again x a::rest);generalize G:bZ cf a _ 0 _=ex at *;obtain⟨b,s2⟩:=ex;rw[i1];cases b with
   |true=>
    have B:s.steps.length+1<=s2.steps.length:=by
     have:=(fM (c:=cf) a (pl++[(t:Int)]) 0 #[s.nums,s.steps++[(pl++[(t:Int)],1)]]).1
     simp_all
    exact v_ F f _ s2 _ (by lia)
   |false=>rfl
  rw[Sg c];exact rL c
theorem lj(f:bg r=true):fin cf (cf.most-s.steps.length) s.nums (r::rest)=Dc cf (iR cf r pl s) rest:=by
 rw[cO f];unfold kY;have e:tm cf s.nums rest r=(sN s.nums (iC r) (num cf s.nums r),rest):=by
  cases r<;>trivial
 by_cases c:s.steps.length<cf.most
 .rw[if_pos c,Br,wL c,e]
 rw[if_neg c];exact rL c
mutual
theorem Tb:∀(r:Rw)(pl:aa_)(s:Sx)(rest:List Rw),fin cf (cf.most-s.steps.length) s.nums (r::rest)=Dc cf (iR cf r pl s) rest
 |.ifr x a b,pl,s,rest=>by
  unfold iR
  by_cases c:s.steps.length<cf.most
  .rw[RI c,if_pos rfl,wL (p:=(pl,lk s.nums x)) c]
   by_cases e:nm s.nums x=0
   .have f:lk s.nums x=0:=by unfold lk;rw[if_pos e]
    rw[f,if_neg (by decide)]
    simp only[tm,if_pos e];exact iH b (pl++[0]) 0 #[s.nums,s.steps++[(pl,0)]] rest
   .have f:lk s.nums x=1:=by unfold lk;rw[if_neg e]
    rw[f,if_pos rfl];simp only[tm,if_neg e];exact iH a (pl++[1]) 0 #[s.nums,s.steps++[(pl,1)]] rest
  .rw[Sg c,if_neg (by simp),GD]
   exact rL c
 |.again x a,pl,s,rest=>by
  unfold iR;exact v_ (λpl s rest=>iH a pl 0 s rest) _ _ _ _ (by lia)
 |.put x k,pl,s,rest=>lj rfl
 |.take x k,pl,s,rest=>lj rfl
 |.pick x y,pl,s,rest=>lj rfl
 |.two w x y z,pl,s,rest=>lj rfl
theorem iH:∀(rs:List Rw)(pl:aa_)(j:Nat)(s:Sx)(rest:List Rw),fin cf (cf.most-s.steps.length) s.nums (rs++rest)=Dc cf (bZ cf rs pl j s) rest
 |[],pl,j,s,rest=>by unfold bZ;rw[Br];rfl
 |r::rs,pl,j,s,rest=>by
  unfold bZ;rw[UD,Tb r (pl++[(j:Int)]) s (rs++rest)];generalize iR cf r (pl++[(j:Int)]) s=ex;obtain⟨b,s2⟩:=ex;cases b with
  |true=>rw[Br,if_pos rfl];exact iH rs pl (j+1) s2 rest
  |false=>rw[GD,if_neg (by simp),GD]
end
end
def mkO(mn:Str):Option cH->D
 |some n=>.int (nm n mn)
 |none=>.non
theorem vN:C.mark z=mkO C.mn (fin (C.cf z) C.most (C.names.zip z.nums) C.rows):=by
 have h:=iH (cf:=C.cf z) C.rows [] 0 #[C.names.zip z.nums,[]] [];rw[U9]at h;have e:fin _ C.most _ _=Dc _ (C.run z) []:=h;rw[e];unfold Cse.mark va Dc
 split
 .rw[dE];rfl
 rfl
def Mu(p:aC->Bool):Tr->D
 |.e m=>m
 |.a q x y=>if p q=true then Mu p y else Mu p x
theorem ix{n:cH}(h:x∈n.map (·.1)):nm (sN n x v) y=if y=x then v else nm n y:=by
 unfold nm;rw[S9 h]
 split<;>rfl
structure Rl(C:Cse)(z:Sta)(g:Gs)(n:cH):Prop where
 nk:∀x,(UN x:aC)∉g.u->nm g.n x=nm n x
 nu:∀x,(UN x:aC)∈g.u->nm n x=aI C z (.inr x)
 pk:∀i:Nat,(VI (i:Int):aC)∉g.u->(g.ps[i]?).getD 0=(z.pieces[i]?).getD 0
 k:n.map (·.1)=C.names
section
variable{s t:Sta}{n:cH}{p:aC->Bool}
theorem Ga(F:fZ C.names C.w C.many r)(h:fK C g r=ca):(∀x∈fD r,(UN x:aC)∉g.u)/\∀i,MC C g.n r=ap i->(VI i:aC)∉g.u:=by
 unfold fK at h
 split at h
 .simp_all
 split at h
 .cases h
 rename_i e
 refine#[λx B f=>?_,λi G f=>?_]
 .have:(UN x)∈(eA C).filter λk=>decide (k∈((fD r).filter λx=>decide ((UN x)∈g.u)).map UN):=by
   rw[Ut];refine#[Uz.mpr (.inl<|Ul.mpr #[x,BE F x B,rfl]),decide_eq_true ?_]
   simp_all
  rw[e]at this;cases this
 simp_all
theorem Rl.num(R:Rl C z g n)(ok:GOk C g)(J:SOk C z)(f:de C.names C.w C.many r)(h:fK C g r=ca):num (g.cf C) g.n r=num (C.cf z) n r:=by
 have F:fZ C.names C.w C.many r:=by
  cases r with
  |ifr=>exact f.elim
  |again=>exact f.elim
  |_=>exact f
 obtain⟨B,G⟩:=Ga F h;have I:g.ps.length=z.pieces.length:=by rw[ok.lp,J.lp]
 cases r with
 |put x k=>rfl
 |take x i=>
  exact(R.pk _<|by rw[Zj f.2.1];exact G i rfl)
 |pick x y=>
  have e:=R.nk y (B y<|by simp[fD])
  have H:=G _ rfl;have O:=f.2.2;rw[<- Zj (VP _<|by lia)]at H
  show (g.ps[(nm g.n y % (g.ps.length:Int)).toNat]?).getD 0=(z.pieces[(nm n y % (z.pieces.length:Int)).toNat]?).getD 0;rw[<- e,<- I,ok.lp];exact(R.pk _ H)
 |two w x y u=>
  show AD w _ _ C.w=AD w _ _ C.w;rw[R.nk y (B y<|by simp[fD]),R.nk u (B u<|by simp[fD])]
 |_=>exact f.elim
theorem Rl.step(R:Rl C z g n)(ok:GOk C g)(S:SOk C z)(J:fZ C.names C.w C.many r)(h:fK C g r=ca):Rl C z (pL C g rest r) (tm (C.cf z) n rest r).1/\(pL C g rest r).td=(tm (C.cf z) n rest r).2:=by
 have look:=λx B=>R.nk x ((Ga J h).1 x B);have set:∀H,r=H->bg r=true->Rl C z { g with left:=g.left-1,td:=rest,n:=sN g.n _ (_T.num _ _ r),u:=g.u.filter λk=>decide (k≠.inr _) } (sN n _ _):=λH _ P=>by
  have e:=hV J P;have B:=xN e;have f:iC r∈n.map (·.1):=by rw[R.k];exact B
  rw[R.num ok S e h];refine#[λy F=>?_,λy F=>?_,λi O=>?_,by rw[iW];exact R.k]
  .rw[ix (by rw[ok.n.keys];exact B),ix f]
   split
   .rfl
   rename_i c
   refine R.nk y λI=>F ?_;rw[Ut];exact#[I,decide_eq_true λz=>c (Sum.inr.inj z)]
  .have G:=Ut.mp F
   rw[ix f,if_neg (by lia)]
   exact R.nu y G.1
  refine R.pk i λI=>O ?_;rw[Ut];trivial
 cases r with
 |ifr x a b=>
  refine#[#[R.nk,R.nu,R.pk,R.k],?_];show (if nm _ x=0 then b else a)++rest=(if nm n x=0 then b else a)++rest
  rw[look x (by simp[fD])]
 |again x a=>
  refine#[#[R.nk,R.nu,R.pk,R.k],?_];show (if nm _ x=0 then rest else a++(.again x a::rest))=(if nm n x=0 then rest else a++(.again x a::rest))
  rw[look x (by simp[fD])]
 |_=>exact#[set _ rfl rfl,rfl]
theorem Am(o:C.Ok)(F:SOk C z):∀(f:Nat)(g:Gs)(n:cH),Rl C z g n->GOk C g->0<=g.left->g.left<f->∃B,Rl C z (b_ C f g).2 B/\fin (C.cf z) g.left.toNat n g.td=fin (C.cf z) (b_ C f g).2.left.toNat B (b_ C f g).2.td/\
  ((b_ C f g).1=ca->((b_ C f g).2.td=[]/\(UN C.mn:aC)∉(b_ C f g).2.u)\/((b_ C f g).2.td≠[]/\(b_ C f g).2.left<=0))
 |0,g,n,R,ok,h0,hf=>by lia
 |f+1,g,n,R,ok,h0,hf=>by
  unfold b_;cases e:g.td with
  |nil=>
   refine#[n,R,by rw[e],λh=>.inl #[e,?_]]
   simp_all
  |cons r rest=>
   dsimp only;have J:fZ C.names C.w C.many r:=by
    have:=ok.td;rw[e]at this;exact this.1
   split
   .exact#[n,R,by rw[e],by lia]
   cases a:fK C g r with
   |some k=>exact#[n,R,by rw[e],by lia]
   |none=>
    obtain⟨R1,I⟩:=R.step ok F J a;have G:(pL C g rest r).left=g.left-1:=oQ;obtain⟨B,R2,O,H⟩:=Am o F f _ _ R1 (xh o ok e) (by lia) (by lia)
    refine#[B,R2,?_,H];rw[<- O,G,I];have:g.left.toNat=(g.left-1).toNat+1:=by lia
    rw[this];rfl
theorem Rl.set(R:Rl C z g n)(ok:GOk C g)(hq:q∈eA C)(hu:q∈g.u):Rl C z (eW g q<|aI C z q) n:=by
 cases q with
 |inr x=>
  have hx:x∈C.names:=by
   rcases gX hq with⟨y,hy,e⟩|⟨i,_,e⟩
   .simp_all
   cases e
  refine#[λy hy=>?_,λy hy=>R.nu y (Ut.mp hy).1,λi hi=>R.pk i λhu=>hi (Ut.mpr<|by trivial),R.k]
  show nm (sN _ x _) y=_;rw[ix (by rw[ok.n.keys];exact hx)]
  split
  .rename_i c;subst c;exact(R.nu _ hu).symm
  exact R.nk y λhu=>hy (Ut.mpr<|by lia)
 |inl j=>
  obtain⟨i,hi,e⟩:∃i:Nat,i<C.many/\j=i:=by
   rcases gX hq with⟨y,hy,e⟩|⟨i,h,e⟩
   .cases e
   exact#[i,h,by lia]
  subst e;refine#[λy hy=>R.nk y λhu=>hy (Ut.mpr<|by trivial),λy hy=>R.nu y (Ut.mp hy).1,λk hk=>?_,R.k]
  show ((g.ps.set _ _)[k]?).getD 0=_;rw[XN]
  split
  .rename_i c
   subst c;rw[if_pos (by rw[ok.lp];exact hi)]
   rfl
  exact R.pk k λhu=>hk (Ut.mpr<|by lia)
theorem C0(o:C.Ok)(hs:SOk C s)(ht:SOk C t)(P:SOk C z):∀(f:Nat)(g:Gs)(n:cH),(∀q∈g.u,aI C z q=aI C (if p q=true then t else s) q)->Rl C z g n->GOk C g->0<=g.left->g.left<=C.most->(∀x∈g.u,x∈eA C)->g.u.length<f->
  Mu p (df C s t f g)=mkO C.mn (fin (C.cf z) g.left.toNat n g.td)
 |0,g,n,hp,R,ok,h0,hm,hu,hf=>by lia
 |f+1,g,n,hp,R,ok,h0,hm,hu,hf=>by
  obtain⟨n',R',e,J⟩:=Am o P (C.most+1) g n R ok h0 (by lia)
  have G:=sR o (C.most+1) g ok;obtain⟨⟨W,B⟩,X,I⟩:=jR _ g;unfold df;rw[e];generalize b_ C _ g=go at *;obtain⟨a,F⟩:=go;dsimp only at *;cases a with
  |none=>
   unfold Ra;rcases J rfl with⟨T,S⟩|⟨T,S⟩
   .rw[T,dE]
    show D.int _=D.int _;rw[R'.nk _ S]
   .have:F.left.toNat=0:=by lia
    rw[this];cases e3:F.td<;>trivial
  |some q=>
   have h:=I q rfl;have H:=hu q (B q h);have fl:=ua h;have way:∀y:Sta,aI C z q=aI C y q->SOk C y->Mu p (df C s t f<|eW F q<|aI C y q)=mkO _ _:=λy Y ky=>by
    rw[<- Y]
    have:=C0 o hs ht P f _ n' (λk hk=>by rw[e_]at hk;simp_all) (R'.set G H h) (qU G<|bH o P H) (by rw[fg];lia) (by rw[fg];lia)
     (λx Z=>by rw[e_]at Z;simp_all) (by rw[e_];lia)
    rw[fg]at this;have O:(eW F q<|aI C z q).td=F.td:=by cases q<;>rfl
    rw[O]at this;exact this
   show (if p q=true then Mu p _ else Mu p _)=_
   simp_all
theorem qJ(f:C.names.length=nums.length)(h:x∉C.names):nm (C.names.zip nums) x=0:=by
 unfold nm gN;rw[List.find?_eq_none.mpr]
 .rfl
 intro q e;have:=(Wj e).1;lia
theorem xu(o:C.Ok)(B:SOk C s)(J:SOk C t)(h:SOk C z)(O:(aK C s t).length<24)(F:∀q∈eA C,aI C z q=aI C (if p q=true then t else s) q):Mu p (C.tree s t)=C.mark z:=by
 rw[vN];have same:∀q∈eA C,q∉aK C s t->aI C z q=aI C s q:=λq f I=>by
  rw[F q f];have:aI C s q=aI C t q:=Vn λc=>I (Ut.mpr #[f,decide_eq_true c])
  split
  .exact this.symm
  .rfl
 have:=C0 (p:=p) o B J h 24 (g0 C s t) (C.names.zip z.nums) (λq f=>F q (sf q f)) #[λx G=>?_,λx _=>rfl,λi H=>?_,gs h.ln.symm] (MT o B) (by show (0:Int)<=((C.most:Nat):Int);lia) (Xy _) sf O
 .have e:(g0 C s t).left.toNat=C.most:=rfl
  rw[e]at this;exact this
 .by_cases c:x∈C.names
  .exact(same (.inr x) (Uz.mpr<|.inl<|Ul.mpr #[x,c,rfl]) G).symm
  .show nm (C.names.zip s.nums) x=_
   rw[qJ B.ln.symm c,qJ h.ln.symm c]
 .show (s.pieces[i]?).getD 0=_
  by_cases c:i<C.many
  .have:=same (.inl (i:Int)) (Uz.mpr<|.inr<|Ul.mpr #[i,UJ.mpr c,rfl]) H
   exact this.symm
  .rw[Vu (by rw[B.lp];lia),Vu (by rw[h.lp];lia)]
theorem jP:∀(f:Nat)(g:Gs),(df C s t f g).asks+1<=2 ^ g.u.length
 |0,g=>Nat.one_le_two_pow
 |f+1,g=>by
  obtain⟨⟨G,F⟩,_,h⟩:=jR (C:=C) (C.most+1) g;unfold df;generalize b_ C (C.most+1) g=go at *;obtain⟨a,B⟩:=go;dsimp only at *;cases a with
  |none=>exact Nat.one_le_two_pow
  |some q=>
   have J:=ua (h q rfl);have I:=jP f (eW B q<|aI C s q);have H:=jP f (eW B q<|aI C t q);rw[e_]at I H;have e:2 ^ ((B.u.filter λk=>decide (k≠q)).length+1)<=2 ^ g.u.length:=UP (by decide) (by lia)
   rw[Nat.pow_succ]at e;show 1+_+_+1<=_;lia
theorem qd:1+(C.tree s t).asks<=2 ^ (aK C s t).length:=by
 have:=jP (C:=C) (s:=s) (t:=t) 24 (g0 C s t);have e:(g0 C s t).u=aK C s t:=rfl;rw[e]at this;show 1+(df C s t 24 _).asks<=_;lia
end
structure OutOk(n:Nat)(x:Out):Prop where
 s:x.s<2 ^ n
 f:x.f<2 ^ n
 l:(aD x.f).length+(aD x.s).length<=n
theorem bO{b:Nat}(h:b<2 ^ n):i∈aD b↔i<n/\b.testBit i=true:=by
 rw[cZ h,Ut,UJ]
def TrN:Tr->List aC->Prop
 |.e _,_=>True
 |.a q x y,u=>q∈u/\TrN x (u.filter λk=>decide (k≠q))/\TrN y (u.filter λk=>decide (k≠q))
theorem TrN.mono:∀{t:Tr}{u v:List aC},TrN t u->(∀k∈u,k∈v)->TrN t v
 |.e _,_,_,_,_=>trivial
 |.a q x y,u,v,h,s=>#[s q h.1,h.2.1.mono (by simp_all),h.2.2.mono<|by simp_all]
theorem vJ{C:Cse}{s:Sta}:∀(f:Nat)(g:Gs),TrN (df C s t f g) g.u
 |0,_=>trivial
 |f+1,g=>by
  obtain⟨⟨_,e⟩,_,h⟩:=jR _ g;unfold df;generalize b_ C _ g=go at *;obtain⟨a,p⟩:=go;cases a with
  |none=>trivial
  |some q=>
   have w:∀v,TrN _ (g.u.filter λk=>decide (k≠q)):=λv=>by
    have:=vJ (C:=C) (s:=s) (t:=t) f (eW p q v);rw[e_]at this;exact this.mono (by simp_all)
   exact#[by simp_all,w _,w _]
structure Wy(us:List aC)(u:List aC)(S F:Nat):Prop where
 s:S<2 ^ us.length
 f:F<2 ^ us.length
 sub:∀q∈u,q∈us
 no:∀q∈u,S.testBit (us.idxOf q)=cx/\F.testBit (us.idxOf q)=cx
 dis:∀i,¬(S.testBit i=true/\F.testBit i=true)
section
variable{b:Int}
theorem Pe(e:q∈us):bitK us q<2 ^ us.length:=Nat.pow_lt_pow_right (by decide) (WQ e)
theorem wU:(bitK us q).testBit i=decide (us.idxOf q=i):=by unfold bitK;grind
theorem JU(p:k∈us)(e:q∈us)(h:us.idxOf q=us.idxOf k):k=q:=by
 have f:=List.getElem_idxOf (WQ e)
 simp_all
theorem Wy.swap(w:Wy us u S F):Wy us u F S:=#[w.f,w.s,w.sub,λq e=>(w.no q e).symm,λi h=>w.dis i h.symm]
theorem Wy.fa(w:Wy us u S F)(G:q∈u):Wy us (u.filter λk=>decide (k≠q)) S (F ||| bitK us q):=by
 have e:=w.sub q G;refine#[w.s,Nat.or_lt_two_pow w.f (Pe e),λk B=>w.sub k (Ut.mp B).1,λk B=>?_,λi h=>?_]
 .obtain⟨p,H⟩:=Ut.mp B
  refine#[(w.no k p).1,?_];rw[Yw,(w.no k p).2,wU];exact decide_eq_false λz=>(of_decide_eq_true H) (JU (w.sub k p) e z)
 rw[Yw,wU]at h
 by_cases c:us.idxOf q=i
 .subst c;rw[(w.no q G).1]at h;exact absurd h.1 (by simp)
 rw[decide_eq_false c,Xe]at h;exact w.dis i h
theorem Wy.so(w:Wy us u S F)(e:q∈u):Wy us (u.filter λk=>decide (k≠q)) (S ||| bitK us q) F:=(w.swap.fa e).swap
theorem wj{r:Nat->Bool}:∀(l:List Nat),(∀i,¬(p i=true/\r i=true))->(l.filter p).length+(l.filter r).length<=l.length
 |[],_=>by simp
 |i::l,h=>by
  have:=wj l h;rw[UC,UC]
  split<;>split<;>simp_all<;>lia
theorem Wy.ok(w:Wy us u S F){v:Str}:OutOk us.length #[v,S,F]:=by
 refine#[w.s,w.f,?_];rw[cZ w.f,cZ w.s];have:=wj (Uu us.length) λi h=>w.dis i h.symm
 simp_all
theorem rW:∀(t:Tr)(u:List aC)(S F:Nat),TrN t u->Wy us u S F->∀x∈g9 a b us t S F,OutOk us.length x
 |.e m,u,S,F,_,w,x,hx=>by
  have:x=#[k7 a b m,S,F]:=by simpa [g9] using hx
  subst this;exact w.ok
 |.a q x y,u,S,F,h,w,o,ho=>by
  rcases Uz.mp ho with h1|h1
  .exact rW y _ _ _ h.2.2 (w.fa h.1) o h1
  exact rW x _ _ _ h.2.1 (w.so h.1) o h1
theorem Wy.zero(h:∀q∈u,q∈us):Wy us u 0 0:=#[Ye _,Ye _,h,λq _=>#[Nat.zero_testBit _,Nat.zero_testBit _],by simp_all]
end
section
variable{s:Sta}
theorem uI:TrN (C.tree s t) (aK C s t):=vJ 24 _
end
theorem jG{a b:Int}{us:List aC}:∀(t:Tr){S F:Nat},(g9 a b us t S F).length=t.asks+1
 |.e m,S,F=>rfl
 |.a q x y,S,F=>by unfold g9 Tr.asks;rw[UG,jG x,jG y];lia
def flt(rs:List Rw):List Rw:=rs.filter bg
noncomputable def EL(d:D):Bool:=match d with
 |.tup (.str w::_)=>!(decide (w=("if":Str))||decide (w=("again":Str)))
 |_=>true
theorem Qk(h:fZ names m many r):EL r.d=bg r:=by
 have e:∀w rest,EL (.tup (.str w::rest))=!(decide _||decide _):=λ_ _=>rfl
 cases r with
 |two w x y z=>
  simp[Rw.d,e,bg];rcases h.1 with rfl|rfl|rfl|rfl<;>decide +kernel
 |_=>rfl
theorem Ao{names:aa'}{m many:Int}:∀{rs:List Rw},bc names m many rs->(aJ rs).filter EL=aJ (flt rs)
 |[],_=>rfl
 |r::rs,h=>by
  have e:=Ao h.2;unfold flt at e ⊢;rw[aJ,UC,UC,Qk h.1,e]
  split<;>rfl
theorem xt{names:aa'}{m many:Int}:∀{rs:List Rw},bc names m many rs->bc names m many (flt rs)
 |[],_=>trivial
 |r::rs,h=>by
  have e:=xt h.2;unfold flt at e ⊢;rw[UC]
  split
  .exact#[h.1,e]
  exact e
theorem su(h:fZ names m many r):∃(w:Str)(rest:List D),r.d=.tup (.str w::.str (iC r)::rest):=by
 cases r<;>exact#[_,_,rfl]
theorem uR(h:d∈aJ rs):∃r∈rs,d=r.d:=by
 rw[gY]at h;obtain⟨r,e,rfl⟩:=Ul.mp h;exact#[r,e,rfl]
theorem jw{names:aa'}{m many:Int}:∀{rs:List Rw}{r:Rw},bc names m many rs->r∈rs->fZ names m many r
 |r::rs,q,h,hq=>by
  rcases Uk.mp hq with rfl|hq
  .exact h.1
  exact jw h.2 hq
theorem qk(J:rs.length<=1000)(ok:bc names m many rs)(h:Q (.tup<|aJ<|flt rs) M):wx ad [.tup (aJ rs)] M Q E:=by
 refine dB EL id aL (by rw[bX];lia) (λx G K q=>?_) (λx G _ K q=>q) ?_
 .obtain⟨r,I,rfl⟩:=uR G
  obtain⟨w,rest,e⟩:=su (jw ok I);have H:EL r.d=!(decide (w="if")||decide (w="again")):=by rw[e];rfl
  rw[H]at q;rw[e];simp![atI_0];refine#[by trivial,λp f=>?_]
  rw[Mem.upd_del,au f];rcases Decidable.em (w="if") with c1|c1
  .subst c1
   assumption
  rcases Decidable.em (w="again") with c2|c2
  .subst c2
   assumption
  have B:¬"if"=w:=λz=>c1 z.symm;have F:¬"again"=w:=λz=>c2 z.symm;simpa [aR,c1,c2,B,F] using q
 intro p f;rw[VE,Ao ok];exact bJ f (ak h)
theorem fR(B:Has k M)(G:2<=m)(f:m<=997)(F:0<=v/\v<m)(h:∀w M',0<=w->w<m->w≠v->Dr k M M'->Q (.int w) M'):oG ad [.ref k.p,.int m,.int v] M Q E:=by
 rw[SH];unfold BY;simp![];refine aN B (by lia) (by lia) λr M' a b d=>?_
 refine#[by lia,ak<|h _ _ (VP _<|by lia) (Vx _<|by lia) ?_ d]
 intro z
 by_cases c:v+1+r<m
 .rw[Int.emod_eq_of_lt (by lia) c]at z;lia
 have e:(v+1+r) % m=v+1+r-m:=by
  rw[<- Int.sub_emod_right,Int.emod_eq_of_lt (by lia) (by lia)]
 lia
def Iy(C:Cse)(s t:Sta):D:=if (C.run s).1=true/\(C.run t).1=true then .tup [.int (nm (C.run s).2.nums C.mn),.int (nm (C.run t).2.nums C.mn)] else .non
theorem qC:∀(n:Nat)(f:Str->Int)(xs:aa'),fits n (xs.map λx=>D.int (f x))=true
 |n,f,[]=>by rfl
 |n,f,x::xs=>by
  have:=qC n f xs
  assumption
theorem Ke{r:Bool×Sx}:cP 60 (dz names r)=true:=by
 unfold dz
 split
 .simp[cP,(qC 59 _ _)]
 rfl
theorem II{r:Bool×Sx}:aR (dz names r) .non=!r.1:=by
 unfold dz;cases r.1<;>rfl
theorem xA{r:Bool×Sx}(e:r.1=true)(f:names[j]?=ap mk):∃xs,dz names r=.tup xs/\fJ xs (j:Int)=ap (.int<|nm r.2.nums mk):=by
 refine#[_,by unfold dz;rw[if_pos e],?_]
 rw[bG (by lia),UL,Uo,f];rfl
section
variable{s:Sta}
theorem Tv(o:C.Ok)(e:SOk C z)(h:K (dz C.names<|C.run z) M):
  ah av (qp<|aj (oK ad) EE 3<|aa (ac 1)<|aa (ac 0)<|aa (ac 2) ag) (dC<|.int 1) [ap z.d,ap C.d,ap (.int (C.most:Nat))] M K:=by
 rw[e.pd];refine#[rfl,kj (o.pl e) ?_]
 assumption
theorem eL(o:C.Ok)(X:SOk C s)(Y:SOk C t)(h:Q (Iy C s t) M):n_ ad [C.d,s.d,t.d,.int (C.most:Nat)] M Q E:=by
 rw[SE];unfold Bj;generalize G:ly ad _=K3;generalize f:(ah _ _ _)=te;have I:∀{z:Sta}{K:DK},SOk C z->K _ M->te _ M K:=λ{z K} J q=>by
  rw[<- f];exact Tv o J q
 refine#[bh (by simp),λp H=>bJ H ?_]
 refine#[aL,?_];refine I X #[by trivial,?_]
 refine#[aL,?_];refine I Y #[fH (by simp),?_]
 refine#[aL,λp H=>?_]
 simp_arith! only[Uv,UD,UA,dt,Ua,eG,Mem.upd_same,Mem.upd_del,au H]
 rw[<- G];unfold ly;generalize F:mx ad _=K2;unfold Iy at h;have R:fits 60 [dz C.names (C.run s),dz C.names (C.run t)]=true:=by simp[fits,Ke]
 simp_arith! only[ai,aE,al,ah,dC,ac,dt,Ua,wl,iG,aQ,dv,R,WE,List.any_nil,II,Xe]
 by_cases c:(C.run s).1=true/\(C.run t).1=true
 .rw[if_pos c]at h
  simp[c.1,c.2];rw[<- F];unfold mx;generalize B:ub ad _=K1;obtain⟨j,W,e⟩:=mG o.mn;obtain⟨xs,T,P⟩:=xA c.1 e;obtain⟨Z,S,O⟩:=xA c.2 e;rw[(@E9 C)];simp![atI_1,atI_4,dQ,W];rw[<- B];simp![atI_0,atI_1,T,S,P,O];exact#[Uw o.l1 (by decide),by trivial,ak h]
 rw[if_neg c]at h;have:(!(C.run s).1||!(C.run t).1)=true:=by
  cases h1:(C.run s).1<;>cases h2:(C.run t).1<;>simp_all
 simp[this,dC];exact ak h
theorem lC(h:Q (Iy C s t) M):frz (Iy C s t) M Q:=by
 unfold Iy at h ⊢
 split at h
 .rename_i c;rw[if_pos c];exact h
 rename_i c;rw[if_neg c];exact h
end
theorem KJ{n:cH}:tm cf n (rs++rest) r=((tm cf n rs r).1,(tm cf n rs r).2++rest):=by
 cases r with
 |ifr x a b=>simp[tm]
 |again x a=>
  simp only[tm]
  split<;>simp
 |_=>rfl
theorem lD:∀(k:Nat)(n:cH)(rs:List Rw)(f:cH),fin cf k n rs=ap f->∀(e:Nat)(rest:List Rw),∃j,e<=j/\fin cf (k+e) n (rs++rest)=fin cf j f rest
 |k,n,[],f,h,e,rest=>by
  rw[dE]at h;cases h;exact#[_,by lia,rfl]
 |0,n,r::rs,f,h,e,rest=>by cases h
 |k+1,n,r::rs,f,h,e,rest=>by
  obtain⟨j,B,p⟩:=lD k _ _ _ h e _;refine#[j,B,?_];have:k+1+e=(k+e)+1:=by lia
  rw[this,UD];show fin cf (k+e) _ _=_;rw[KJ];exact p
theorem stp_cf{n:cH}:tm #[m,ps,k1] n rest r=tm #[m,ps,k2] n rest r:=by rfl
theorem Gu{m:Int}:∀(k:Nat)(n:cH)(rs:List Rw),fin #[m,ps,k1] k n rs=fin #[m,ps,k2] k n rs
 |k,n,[]=>by rw[dE,dE]
 |0,n,r::rs=>rfl
 |k+1,n,r::rs=>by
  exact Gu k _ _
def fz(cf:Cf)(n:cH)(rs:List Rw):cH:=rs.foldl (λn r=>sN n (iC r) (num cf n r)) n
theorem mr:∀(rs:List Rw)(k:Nat)(n:cH),(∀r∈rs,bg r=true)->rs.length<=k->fin cf k n rs=ap (fz cf n rs)
 |[],k,n,_,_=>dE
 |r::rs,0,n,_,h=>by simp at h
 |r::rs,k+1,n,hs,h=>by
  have f:=hs r (by simp_all)
  have e:tm cf n rs r=(sN n (iC r) (num cf n r),rs):=by
   cases r<;>trivial
  show fin cf k _ _=_;rw[e];exact mr rs k _ (by simp_all) (by simpa using h)
theorem Ki{n:cH}:∀(rs:List Rw),(fz cf n rs).map (·.1)=n.map (·.1):=by
 intro rs
 induction rs generalizing n with
 |nil=>rfl
 |cons r rs ih=>
  show (fz cf _ rs).map _=_;rw[ih,iW]
theorem MR{y:Str}:∀(rs:List Rw)(n:cH),(∀r∈rs,iC r∈n.map (·.1))->(∀r∈rs,iC r≠y)->nm (fz cf n rs) y=nm n y
 |[],n,_,_=>rfl
 |r::rs,n,hk,hn=>by
  show nm (fz cf _ rs) y=_;rw[MR rs _ (λq e=>by rw[iW];simp_all) (by simp_all),ix (by simp_all),if_neg λz=>hn r (by simp_all) z.symm]
theorem EV{q:Int}(hp:0<=p/\p<m)(hq:0<=q/\q<m)(h:p≠q):(a+p) % m≠(a+q) % m:=by
 intro z;obtain⟨c,hc⟩:=(Int.dvd_of_emod_eq_zero<|Int.emod_eq_emod_iff_emod_sub_eq_zero.mp z);have:c=0:=by
  rcases Int.lt_trichotomy c 0 with g|g|g
  .have:=X8 (show c<=-1 by lia) (show 0<=m by lia)
   lia
  .exact g
  .have:=X8 (by trivial) (show 0<=m by lia)
   lia
 subst this;lia
noncomputable def Cse.rw(C:Cse)(rs:List Rw):Cse:={ C with rows:=rs }
def Cse.two(C:Cse)(s t:Sta):Prop:=∃a b,C.mark s=.int a/\C.mark t=.int b/\a≠b
section
variable{n:cH}
theorem AB(o:C.Ok)(e:SOk C z):NOk C.names C.w (C.run z).2.nums:=dF (o.pl e).co _ (o.pl e).ok [] 0 _ (o.pl e).nok
theorem AA(h:(C.run z).1=true):fin (C.cf z) C.most (C.names.zip z.nums) C.rows=ap (C.run z).2.nums:=by
 have e:=iH (cf:=C.cf z) C.rows [] 0 #[C.names.zip z.nums,[]] [];rw[U9]at e;have f:fin _ C.most _ _=Dc _ (C.run z) []:=e;rw[f];unfold Dc;rw[if_pos h,dE]
theorem me{n:cH}(h:fin (C.cf z) C.most (C.names.zip z.nums) C.rows=ap n):(C.run z).1=true/\(C.run z).2.nums=n:=by
 have e:=iH (cf:=C.cf z) C.rows [] 0 #[C.names.zip z.nums,[]] [];rw[U9]at e;have f:fin _ C.most _ _=Dc _ (C.run z) []:=e;rw[f]at h;unfold Dc at h
 split at h
 .rw[dE]at h
  simp_all
 cases h
theorem fu{n:cH}(h:fin (C.cf z) C.most (C.names.zip z.nums) C.rows=ap n):C.mark z=.int (nm n C.mn):=by
 rw[vN,h];rfl
theorem p_(h:fin (C.cf z) (C.most-4) (C.names.zip z.nums) C.rows=ap n)(G:4<=C.most)(p:∀r∈more,bg r=true)(F:more.length<=4):(C.rw (C.rows++more)).mark z=.int (nm (fz (C.cf z) n more) C.mn):=by
 obtain⟨j,B,e⟩:=lD _ _ _ _ h 4 more;have f:C.most-4+4=C.most:=by lia
 rw[f,mr more j n p (by lia)]at e
 exact fu (C:=C.rw (C.rows++more)) e
end
def p8(y:Str)(rs:List Rw):List Rw:=rs.filter λr=>decide (iC r≠y)
noncomputable def JJ(y:Str)(d:D):Bool:=match d with
 |.tup (_::.str x::_)=>decide (x≠y)
 |_=>true
theorem vX{names:aa'}{m many:Int}{y:Str}:∀{rs:List Rw},bc names m many rs->(aJ rs).filter (JJ y)=aJ (p8 y rs)
 |[],_=>rfl
 |r::rs,h=>by
  have f:=vX (y:=y) h.2;obtain⟨w,rest,e⟩:=su h.1;have p:JJ y r.d=decide (iC r≠y):=by rw[e];rfl
  unfold p8 at f ⊢;rw[aJ,UC,UC,p,f]
  split<;>rfl
theorem C6{names:aa'}{m many:Int}:∀{rs:List Rw},bc names m many rs->bc names m many (rs.filter p)
 |[],_=>trivial
 |r::rs,h=>by
  have e:=C6 (p:=p) h.2;rw[UC]
  split
  .exact#[h.1,e]
  exact e
theorem D5:∀{rs:List Rw},bc names m many rs->(∀r∈rs,bg r=true)->∀r∈rs,de names m many r:=λh f r e=>hV (jw h e) (f r e)
theorem gl:∀{rs:List Rw},(∀r∈rs,bg r=true)->dD rs=0
 |[],_=>rfl
 |r::rs,h=>by
  have p:=h r (by simp_all)
  have f:=gl λq e=>h q (Uj _ e);cases r<;>trivial
theorem sB:∀r∈flt rs,bg r=true:=λr e=>(Ut.mp e).2
theorem h7:∀r∈p8 y (flt rs),bg r=true:=λr e=>sB r (Ut.mp e).1
theorem Hd{a b c:D}:oU [a,b,c,d,e] ca (ap 3)=[a,b,c]:=rfl
section
variable{s:Sta}
theorem Cse.Ok.rw(o:C.Ok)(f:bc C.names C.w C.many rs)(e:dD rs<=7):(C.rw rs).Ok:=#[o.m2,o.m1,o.few,o.most,o.nd,o.l0,o.l1,f,e,o.mn]
theorem SOk.rw(k:SOk C s):SOk (C.rw rs) s:=#[k.ln,k.lp,k.rn,k.rp]
theorem o5(o:C.Ok)(e:∀r∈rs,bg r=true)(f:rs.length<=C.most):fin ((C.rw rs).cf z) (C.rw rs).most (C.names.zip z.nums) (C.rw rs).rows=ap (fz (C.cf z) (C.names.zip z.nums) rs):=mr rs _ _ e f
theorem Db(o:C.Ok)(e:∀r∈rs,bg r=true)(f:rs.length<=C.most):(C.rw rs).mark z=.int (nm (fz (C.cf z) (C.names.zip z.nums) rs) C.mn):=fu (o5 o e f)
theorem ES{n:cH}(G:fin (C.cf s) C.most (C.names.zip s.nums) C.rows=ap n)(F:fin (C.cf t) C.most (C.names.zip t.nums) C.rows=ap e):Iy C s t=.tup [.int (nm n C.mn),.int (nm e C.mn)]:=by
 obtain⟨h,B⟩:=me G;obtain⟨p,f⟩:=me F;unfold Iy;rw[if_pos #[h,p],B,f]
theorem ne_e{w:D}{rest:List D}(q:K (!decide (x=y)) M):al (ah pO (ah av (ac 0)<|dC<|.int 1)<|ac 1) [ap (.tup (w::.str x::rest)),ap (.str y)] M K:=by
 trivial
theorem uW(o:C.Ok)(hs:SOk C s)(ht:SOk C t)(hy:y∈C.names)(hn:aI C s (.inr y)≠aI C t (.inr y))(hrl:C.rows.length<=1000)(hl:(flt C.rows).length+1<=C.most)(h:∀rs,(C.rw rs).Ok->(C.rw rs).two s t->(∀r∈rs,bg r=true)->rs.length<=(flt C.rows).length+1->Q (C.rw rs).d M):zT ad [C.d,s.d,t.d,.int (C.most:Nat),.str y] M Q E:=by
 have O:=@E9 C;have B:∀rs,(C.rw rs).d=.tup [.int C.w,.tup (C.names.map D.str),.int (C.many:Nat),.tup (aJ rs),.str C.mn]:=λ_=>rfl;have G:=xt o.ok;have F:bc C.names C.w C.many (p8 y<|flt C.rows):=C6 G;have ln:(p8 y<|flt C.rows).length<=(flt C.rows).length:=UM _ _;have lf:(flt C.rows).length<=C.rows.length:=UM _ _;have o1:=o.rw F (by rw[gl h7];decide)
 have f1:=o5 (z:=s) o h7 (show (p8 y<|flt C.rows).length<=C.most by lia)
 have f2:=o5 (z:=t) o h7 (show (p8 y<|flt C.rows).length<=C.most by lia)
 have em:=ES (C:=C.rw (p8 y<|flt C.rows)) f1 f2;have rk:∀(z:Sta),SOk C z->∀r∈p8 y (flt C.rows),iC r∈(C.names.zip z.nums).map (·.1):=λz I r H=>by
  rw[gs I.ln.symm];exact xN (D5 F h7 r H)
 have ny:∀(z:Sta),SOk C z->nm (fz (C.cf z) (C.names.zip z.nums)<|p8 y<|flt C.rows) y=aI C z (.inr y):=λz I=>MR _ _ (rk z I) λr H=>of_decide_eq_true (Ut.mp H).2;rw[TX];unfold Ag;generalize T:lT ad (aG E)=K5;rw[O];refine#[rfl,aH (λ_ _ q=>qk hrl o.ok q) ?_];refine dB (JJ y) id aL (by rw[bX];lia) (λx hx K q=>?_) (λx hx _ K q=>q) ?_
 .obtain⟨r,H,rfl⟩:=uR hx
  obtain⟨w,rest,e⟩:=su (jw G H);have e2:JJ y r.d=decide (iC r≠y):=by rw[e];rfl
  rw[e2]at q;rw[e];exact ne_e (by simpa [aR] using q)
 intro p hp;rw[VE,vX G];rw[<- T];unfold lT;generalize P:lW ad (aG E)=K4;simp![Mem.upd_del,au hp,Hd,atI_4];refine#[bh (by decide),bh (by decide),?_]
 rw[<- P];unfold lW;generalize Y:lU ad (aG E)=K3;rw[<- B];refine#[rfl,aH (λ_ _ q=>eL (C:=C.rw (p8 y<|flt C.rows)) o1 hs.rw ht.rw q)<|lC ?_];rw[em];simp only[af,UA];rw[<- Y];unfold lU;generalize W:mq ad (aG E)=K2;simp![atI_0,atI_1];generalize X:fz (C.cf s) (C.names.zip s.nums) (p8 y<|flt C.rows)=ns at *;generalize hft:fz (C.cf t) (C.names.zip t.nums) (p8 y<|flt C.rows)=nt' at *;have Z:(C.rw<|p8 y<|flt C.rows).mn=C.mn:=rfl;rw[Z]
 by_cases c:nm ns C.mn=nm nt' C.mn
 .simp only[if_pos c]
  rw[<- W];unfold mq;generalize R:m4 ad (aG E)=K1;rw[B];simp![atI_4];refine#[bh (by decide),?_]
  rw[<- R];unfold m4;simp![Hd,atI_4,bX];refine#[bh (by decide),bh (by lia),bh (by decide),bh (by decide),ak ?_]
  have er:aJ (p8 y<|flt C.rows)++[D.tup [.str "sum",.str C.mn,.str C.mn,.str y]]=aJ (p8 y (flt C.rows)++[.two "sum" C.mn C.mn y]):=by
   rw[bU];rfl
  rw[er,<- B];have f:∀r∈p8 y (flt C.rows)++[.two "sum" C.mn C.mn y],bg r=true:=λr H=>by
   rcases Uz.mp H with h|h
   .exact h7 r h
   .simp only[WW]at h;subst h;rfl
  have S:bc C.names C.w C.many (p8 y (flt C.rows)++[.two "sum" C.mn C.mn y]):=OkRs_append.mpr #[F,#[#[.inl rfl,o.mn,o.mn,hy],trivial]];refine h _ (o.rw S<|by rw[gl f];decide) ?_ f (by simp_all)
  have g:∀(z:Sta),SOk C z->(C.rw _).mark z=.int ((nm (fz (C.cf z) (C.names.zip z.nums)<|p8 y<|flt C.rows) C.mn+aI C z (.inr y)) % C.w):=λz I=>by
   refine (Db o f<|by rw[UG,VH];lia).trans ?_
   have e:fz (C.cf z) (C.names.zip z.nums) (p8 y (flt C.rows)++[.two "sum" C.mn C.mn y])=sN (fz (C.cf z) (C.names.zip z.nums)<|p8 y<|flt C.rows) C.mn (num (C.cf z) (fz (C.cf z) (C.names.zip z.nums)<|p8 y<|flt C.rows)<|.two "sum" C.mn C.mn y):=by
    unfold fz;rw[List.foldl_append];rfl
   rw[e];rw[ix (by rw[Ki,gs I.ln.symm];exact o.mn),if_pos rfl]
   show D.int (AD "sum" _ _ _)=_;unfold AD;rw[if_pos rfl,ny z I];rfl
  refine#[_,_,g s hs,g t ht,?_];rw[X,hft,c];have J:(UN y:aC)∈eA C:=Uz.mpr (.inl<|Ul.mpr #[y,hy,rfl]);exact EV (bH o hs J) (bH o ht J) hn
 .simp only[if_neg c]
  refine ak (h _ o1 #[_,_,?_,?_,c] h7<|by lia)
  .exact fu f1
  .exact fu f2
end
theorem qK:∀(n:Nat)(xs:aa'),fits n (xs.map D.str)=true
 |n,[]=>by rfl
 |n,x::xs=>by
  have:=qK n xs
  assumption
section
variable{s:Sta}
theorem ne_m(q:K (!decide (x=e)) M):al (ah pO (ac 0)<|ah av (ac 1)<|dC<|.int 4) [ap (.str x),ap (.tup [B,h,p,f,.str e])] M K:=by
 trivial
theorem Nl{xs:aa'}{b:Bool}(F:b=!xs.isEmpty)(q:K b M):al (ah pO (ac 2)<|ao<|bv ag) [f,e,ap (.lst<|xs.map D.str)] M K:=by
 refine#[by trivial,λp B=>bJ B ?_]
 have h:fits 59 []=true:=rfl;simp only[pO,dv,cP,(qK 59 xs),h];refine#[trivial,trivial,?_];rw[F]at q;cases xs<;>assumption
theorem xj:∀r∈[Rw.take h 0,.two "sum" f f h],bg r=true:=by
 intro r e;simp at e;rcases e with rfl|rfl<;>rfl
theorem t7(o:C.Ok)(hs:SOk C s)(ht:SOk C t)(h0:0<C.many)(hn:aI C s (.inl 0)≠aI C t (.inl 0))(hrl:C.rows.length<=1000)(h4:4<=C.most)(f1:fin (C.cf s) (C.most-4) (C.names.zip s.nums) C.rows=ap n1)(Z:fin (C.cf t) (C.most-4) (C.names.zip t.nums) C.rows=ap n2)(k1:n1.map (·.1)=C.names)(k2:n2.map (·.1)=C.names)(he:nm n1 C.mn=nm n2 C.mn)(h:∀more,(C.rw (C.rows++more)).Ok->(C.rw (C.rows++more)).two s t->(∀r∈more,bg r=true)->more.length<=2->Q (C.rw (C.rows++more)).d M):IL ad [C.d] M Q E:=by
 have J:=@E9 C;have I:∀rs,(C.rw rs).d=.tup [.int C.w,.tup (C.names.map D.str),.int (C.many:Nat),.tup (aJ rs),.str C.mn]:=λ_=>rfl;have l1:=o.l1;have F:(VI 0:aC)∈eA C:=Uz.mpr (.inr<|by simp_all)
 have X:∀more:List Rw,(∀r∈more,bg r=true)->bc C.names C.w C.many more->(C.rw (C.rows++more)).Ok:=λmore e P=>o.rw (OkRs_append.mpr #[o.ok,P]) (by rw[dJ,gl e];have:=o.h;lia)
 rw[u_q9];unfold JC;generalize O:s_ ad (aG E)=K4;rw[J];simp![atI_4];refine#[bh (by decide),bh (by decide),?_]
 rw[<- O];unfold s_;generalize T:tU ad (aG E)=K3;refine dB (λd=>match d with|.str x=>!decide (x=C.mn)|_=>true) id aL (by rw[Uc];lia) (λx H K q=>?_) (λx H _ K q=>q) ?_
 .obtain⟨y,hy,rfl⟩:=Ul.mp H
  exact ne_m q
 intro p hp;have ef:((C.names.map D.str).filter λd=>match d with|.str x=>!decide (x=C.mn)|_=>true)=(C.names.filter λx=>!decide (x=C.mn)).map D.str:=by
  rw[Vm];rfl
 rw[VE,ef]
 simp_arith! only[eG,UA,dt,Ua,Mem.upd_same,Mem.upd_del,au hp]
 rw[<- T];unfold tU;generalize G:nh ad (aG E)=K2;generalize W:rK ad (aG E)=K1;cases hf:C.names.filter λx=>!decide (x=C.mn) with
 |nil=>
  unfold ai aE;refine Nl (b:=cx) rfl ?_;rw[if_neg (by simp),<- G]
  unfold nh;simp![Hd,atI_3,atI_4,bX];refine#[bh (by lia),bh (by decide),bh (by decide),ak ?_]
  have R:aJ C.rows++[D.tup [.str "take",.str C.mn,.int 0]]=aJ (C.rows++[.take C.mn 0]):=by rw[bU];rfl
  rw[R,<- I];have e:∀r∈[Rw.take C.mn 0],bg r=true:=λr Y=>by simp only[WW]at Y;subst Y;rfl
  have g:∀(z:Sta)(n:cH),fin (C.cf z) (C.most-4) (C.names.zip z.nums) C.rows=ap n->n.map (·.1)=C.names->(C.rw (C.rows++[.take C.mn 0])).mark z=.int (aI C z<|.inl 0):=λz n f k=>by
   refine (p_ f h4 e<|by simp).trans ?_
   have:nm (fz (C.cf z) n [.take C.mn 0]) C.mn=aI C z (.inl 0):=by
    show nm (sN n C.mn _) C.mn=_;rw[ix (by rw[k];exact o.mn),if_pos rfl];rfl
   rw[this]
  exact h _ (X _ e #[#[o.mn,Xy _,by lia],trivial]) #[_,_,g s n1 f1 k1,g t n2 Z k2,hn] e (by simp)
 |cons x0 xs=>
  have H:x0∈C.names.filter λx=>!decide (x=C.mn):=by rw[hf];exact Ux
  have B:=(Ut.mp H).1;have S:¬x0=C.mn:=by simpa using (Ut.mp H).2
  unfold ai aE;refine Nl (b:=true) rfl ?_;rw[if_pos rfl,<- W];unfold rK;rw[Ue];simp![atI_0,atI_4];refine#[bh (by decide),bh (by decide),bh (by decide),?_]
  rw[<- G];unfold nh;simp![Hd,atI_3,atI_4,bX];refine#[bh (by lia),bh (by decide),bh (by decide),ak ?_]
  have R:aJ C.rows++[D.tup [.str "take",.str x0,.int 0],D.tup [.str "sum",.str C.mn,.str C.mn,.str x0]]=aJ (C.rows++[.take x0 0,.two "sum" C.mn C.mn x0]):=by rw[bU];rfl
  rw[R,<- I];have g:∀(z:Sta)(n:cH),fin (C.cf z) (C.most-4) (C.names.zip z.nums) C.rows=ap n->n.map (·.1)=C.names->(C.rw (C.rows++[.take x0 0,.two "sum" C.mn C.mn x0])).mark z=.int _:=λz n f k=>by
   refine (p_ f h4 xj<|by simp).trans ?_
   have:nm (fz (C.cf z) n [.take x0 0,.two "sum" C.mn C.mn x0]) C.mn=(nm n C.mn+aI C z (.inl 0)) % C.w:=by
    show nm (sN (sN n x0<|aI C z<|.inl 0) C.mn<|AD "sum" _ (nm (sN n x0<|aI C z<|.inl 0) x0) C.w) C.mn=_;rw[ix (by rw[iW,k];exact o.mn),if_pos rfl,ix (by rw[k];exact B),ix (by rw[k];exact B),if_neg λz=>S z.symm,if_pos rfl]
    unfold AD;rw[if_pos rfl]
   rw[this]
  refine h _ (X _ xj #[#[B,Xy _,by lia],#[.inl rfl,o.mn,o.mn,B],trivial]) #[_,_,g s n1 f1 k1,g t n2 Z k2,?_] xj (by simp)
  rw[he];exact EV (bH o hs F) (bH o ht F) hn
end
theorem uU:∀(rs:List Rw),cRs (rs.filter p)<=cRs rs
 |[]=>Um _
 |r::rs=>by
  have:=uU (p:=p) rs;rw[UC]
  split
  .simp[cRs];lia
  simp[cRs];lia
theorem sk:∀(rs:List Rw),rs.length<=cRs rs
 |[]=>Um _
 |r::rs=>by
  have:=sk rs;have:1<=cR r:=by cases r<;>simp[cR]<;>lia
  simp[cRs];lia
theorem sZ:∀{rs:List Rw},(∀r∈rs,bg r=true)->cRs rs=rs.length
 |[],_=>rfl
 |r::rs,h=>by
  have p:=h r (by simp_all)
  have f:=sZ λq e=>h q (Uj _ e);cases r with
  |ifr=>trivial
  |again=>trivial
  |_=>simp[cRs,cR];lia
section
variable{s:Sta}
def Tu(C:Cse)(s t:Sta)(fi:Nat):Prop:=if fi<C.names.length then ∀y,C.names[fi]?=ap y->aI C s (.inr y)≠aI C t (.inr y) else aI C s (.inl 0)≠aI C t (.inl 0)
theorem OW(o:C.Ok)(O:SOk C s)(J:SOk C t)(Y:0<C.many)(hc:cRs C.rows<=24)(X:30<=C.most)(f:Tu C s t fi)(I:M ln=ap (.lst<|t.nums.map D.int))(T:fin (C.cf s) (C.most-4) (C.names.zip s.nums) C.rows=ap n1)(S:fin (C.cf t) (C.most-4) (C.names.zip t.nums) C.rows=ap n2)(k1:n1.map (·.1)=C.names)(k2:n2.map (·.1)=C.names)(W:nm n1 C.mn=nm n2 C.mn)(h:∀rs,(C.rw rs).Ok->(C.rw rs).two s t->cRs rs<=26->∀e,D'.nx [d0,d1,d2,ap (C.rw rs).d,ap s.d,ap (.ref ln),d6,ap (.int (fi:Nat)),d8,d9,d10,ap t.d,ap (.int (C.most:Nat)),e] M):
  ∀e,jD ad EE D' [d0,d1,d2,ap C.d,ap s.d,ap (.ref ln),d6,ap (.int (fi:Nat)),d8,d9,d10,ap t.d,ap (.int (C.most:Nat)),e] M:=by
 intro e;have Z:=sk C.rows;have lf:(flt _).length<=C.rows.length:=UM _ _;have fd:∀{rs:List Rw}{M:Mem}{Q:DK},Q _ M->frz (C.rw rs).d M Q:=λq=>q;unfold jD;have hl:=J.ln
 simp_arith! only[aE,al,ah,ac,bi,aa,dt,Ua,cu,aQ,I,lE]
 unfold Tu at f
 by_cases c:fi<C.names.length
 .rw[if_pos c]at f
  rw[if_pos (by simp;lia)]
  obtain⟨y,G⟩:∃y,C.names[fi]?=ap y:=#[_,Ud c];have R:fJ (C.names.map D.str) fi=ap (.str y):=by rw[bG (by lia),UL,Uo,G];rfl
  unfold ou
  simp_arith! only[aq,ao,aj,aa,ac,ah,dC,dt,Ua,(@E9 C),av,aQ,atI_1,R]
  refine#[rfl,am λQ' E' p _=>uW o O J (Vk G) (f y G) (by lia) (by lia) λrs F H B P=>p _ _ (fd ?_)]
  exact h rs F H (by rw[sZ B];lia) _
 .rw[if_neg c]at f
  rw[if_neg (by simp;lia)]
  exact#[rfl,am λQ' E' p _=>t7 o O J Y f (by lia) (by lia) T S k1 k2 W λmore F H B P=>p _ _ (fd<|h _ F H (by rw[d_,sZ B];lia) _)]
theorem HK(o:C.Ok)(I:SOk C s)(G:SOk C t)(h0:0<C.many)(Y:cRs C.rows<=24)(H:30<=C.most)(Z:Tu C s t fi)(F:M ln=ap (.lst<|t.nums.map D.int))(O:fin (C.cf s) (C.most-4) (C.names.zip s.nums) C.rows=ap n1)(J:fin (C.cf t) (C.most-4) (C.names.zip t.nums) C.rows=ap n2)(h:∀rs,(C.rw rs).Ok->(C.rw rs).two s t->cRs rs<=26->D'.rt (br (C.rw rs) s t) M):
  iZ ad EE D' [d0,d1,d2,ap C.d,ap s.d,ap (.ref ln),d6,ap (.int (fi:Nat)),d8,d9,d10,ap t.d,ap (.int (C.most:Nat)),ca] M:=by
 obtain⟨j1,_,p⟩:=lD _ _ _ _ O 4 [];obtain⟨j2,_,B⟩:=lD _ _ _ _ J 4 [];have T:C.most-4+4=C.most:=by lia
 rw[T,U9,dE]at p B;have W:=ES p B;have P:=me p;have R:=me B;have X:n1.map (·.1)=C.names:=by rw[<- P.2];exact(AB o I).keys
 have S:n2.map (·.1)=C.names:=by rw[<- R.2];exact(AB o G).keys
 have e:∀rs,(C.rw rs).Ok->(C.rw rs).two s t->cRs rs<=26->∀f,i_ ad EE D' [d0,d1,d2,ap (C.rw rs).d,ap s.d,ap (.ref ln),d6,ap (.int (fi:Nat)),d8,d9,d10,ap t.d,ap (.int (C.most:Nat)),f] M:=λrs a b c f=>by
  unfold i_
  simp_arith! only[az,aU,aa,ac,ag,dt,Ua]
  exact#[bh (by simp),h rs a b c]
 unfold iZ
 simp_arith! only[ai,aq,ao,aj,aa,ag,ac,dt,Ua]
 refine#[rfl,aH (λ_ _ q=>eL o I G q)<|lC ?_];rw[W];simp only[af,UA];unfold oB
 simp_arith! only[ai,aE,al,ah,ac,dC,dt,Ua,av,aQ,atI_0,atI_1,bW,dv,cP,aR]
 refine#[trivial,trivial,?_]
 by_cases c:nm n1 C.mn=nm n2 C.mn
 .rw[if_pos (by simpa using c)]
  exact OW o I G h0 Y H Z F O J X S c e _
 .rw[if_neg (by simpa using c)]
  simp only[aB];exact e C.rows o #[_,_,fu p,fu B,c] (by lia) _
theorem O7(o:C.Ok)(p:SOk C s)(f:SOk C t)(S:0<C.many)(P:cRs C.rows<=24)(F:30<=C.most)(R:Tu C s t fi)(B:M ln=ap (.lst<|t.nums.map D.int))(h:∀rs,(C.rw rs).Ok->(C.rw rs).two s t->cRs rs<=26->D'.rt (br (C.rw rs) s t) M):
  je ad EE D' [d0,d1,d2,ap C.d,ap s.d,ap (.ref ln),d6,ap (.int (fi:Nat)),d8,d9,d10,ap t.d,ap (.int (C.most:Nat)),ca] M:=by
 have T:=@E9 C;have lr:=sk C.rows;have lf:(flt _).length<=C.rows.length:=UM _ _;generalize e:({ C with most:=C.most-4 })=C4;have X:C4.Ok:=by subst e;exact#[o.m2,o.m1,o.few,by show C.most-4<=_;have:=o.most;lia,o.nd,o.l0,o.l1,o.ok,o.h,o.mn]
 have W:SOk C4 s:=by subst e;exact#[p.ln,p.lp,p.rn,p.rp]
 have t4:SOk C4 t:=by subst e;exact#[f.ln,f.lp,f.rn,f.rp]
 have H:C4.d=C.d:=by subst e;rfl
 have Z:(C.most:Int)-4=C4.most:=by subst e;show _=((C.most-4:Nat):Int);lia
 have Y:∀z,fin (C4.cf z) C4.most (C4.names.zip z.nums) C4.rows=fin (C.cf z) _ (C.names.zip z.nums) _:=λz=>by
  subst e;exact Gu _ _ _
 have G:=xt o.ok;have of:=o.rw G (by rw[gl sB];decide)
 unfold je
 simp_arith! only[ai,aE,al,ah,ao,aj,aa,ac,dC,dt,Ua,lE,Z]
 rw[<- H];refine#[rfl,aH (λ_ _ q=>eL X W t4 q)<|lC ?_];rw[H];unfold Iy
 by_cases c:(C4.run s).1=true/\(C4.run t).1=true
 .rw[if_pos c]
  have I:=AA c.1;have J:=AA c.2;rw[Y]at I J;exact HK o p f S P F R B I J h
 .rw[if_neg c]
  refine#[rfl,aH (λ_ _ q=>qk (by lia) o.ok q) ?_]
  simp_arith! only[Hd]
  refine#[bh (by simp),bh (by simp),?_]
  have O:∀z,fin ((C.rw<|flt C.rows).cf z) _ (C.names.zip z.nums) (flt C.rows)=ap _:=λz=>mr _ _ _ sB (by show _<=C.most-4;lia)
  exact HK of p.rw f.rw S (Uw (uU _) P) F R B (O s) (O t) h
end
noncomputable def gA(xs:aa_)(i:Nat):Int:=(xs[i]?).getD 0
def HS(xs ys:aa_):Nat:=((Uu xs.length).filter λi=>decide (gA xs i≠gA ys i)).length
theorem uo{q:Nat->Bool}{j:Nat}:∀(l:List Nat),l.Nodup->(∀i∈l,i≠j->p i=true->q i=true)->(l.filter p).length<=(l.filter q).length+if j∈l then 1 else 0
 |[],_,_=>by simp
 |i::l,nd,h=>by
  have f:=VC.mp nd;have F:=uo (p:=p) (q:=q) (j:=j) l f.2 (by simp_all)
  by_cases e:i=j
  .subst e
   rw[if_neg f.1]at F;rw[UC,UC]
   split<;>split<;>(try simp)<;>lia
  have G:(if j∈i::l then 1 else 0)=if j∈l then 1 else 0:=by
   have:j∈i::l↔j∈l:=by simp[UO e,e]
   simp only[this]
  rw[G,UC,UC]
  by_cases B:p i=true
  .rw[if_pos B,if_pos (by simp_all),UB,UB];lia
  rw[if_neg B]
  split
  .rw[UB];lia
  .exact F
theorem nv(e:j<xs.length):gA (xs.set j v) i=if i=j then v else gA xs i:=by
 unfold gA
 grind
theorem md(h:j<ys.length):HS xs (ys.set j v)<=HS xs ys+1:=by
 unfold HS;have:=uo (p:=λi=>decide (gA xs i≠gA (ys.set j v) i)) (q:=λi=>decide _) (Uu xs.length) Xi λi _ e f=>by
  rw[nv h,if_neg e]at f;exact f
 split at this<;>lia
theorem jp:HS xs xs=0:=by
 unfold HS;rw[Wt.mpr (by lia)];rfl
theorem sM(h:i<xs.length):gA xs i∈xs:=by
 unfold gA
 simp_all
theorem zP(h:i<xs.length):fJ (xs.map D.int) (i:Int)=ap (.int<|gA xs i):=by
 rw[bG (by lia),UL,Uo]
 unfold gA;rw[Ud h];rfl
structure Cm(k:Pt)(ln lp:cp)(ns ps:aa_)(M0 M:Mem):Prop where
 has:Has k M
 a:ln≠k.p/\ln≠k.q
 b:lp≠k.p/\lp≠k.q
 ab:ln≠lp
 en:M ln=ap (.lst<|ns.map D.int)
 ep:M lp=ap (.lst<|ps.map D.int)
 n0:M0 ln=ca
 p0:M0 lp=ca
 keep:∀b o,b≠k.p->b≠k.q->M0 b=ap o->M b=ap o
structure Df(m:Int)(nums pieces ns ps:aa_)(fi cnt:Nat):Prop where
 ln:ns.length=nums.length
 lp:ps.length=pieces.length
 rn:∀v∈ns,0<=v/\v<m
 rp:∀v∈ps,0<=v/\v<m
 few:HS nums ns+HS pieces ps<=cnt
 fi:if fi<nums.length then gA nums fi≠gA ns fi else gA pieces 0≠gA ps 0
theorem Cm.dr(c:Cm k ln lp ns ps M0 M)(d:Dr k M M'):Cm k ln lp ns ps M0 M':=
 #[d.1,c.a,c.b,c.ab,by rw[d.2 ln c.a.1 c.a.2];exact c.en,by rw[d.2 lp c.b.1 c.b.2];exact c.ep,c.n0,c.p0,λb o e f=>by rw[d.2 b e f];exact c.keep b o e f]
theorem g_:(xs.map D.int).set j (.int v)=(xs.set j v).map D.int:=by simp_all
theorem Cm.sN(c:Cm k ln lp ns ps M0 M):Cm k ln lp (ns.set j v) ps M0 (M.upd ln<|.lst<|(ns.set j v).map D.int):=
 #[c.has.upd c.a,c.a,c.b,c.ab,Mem.upd_same,by rw[ae c.ab.symm];exact c.ep,c.n0,c.p0,λb o h f e=>by rw[ae (Mem.ne e c.n0)];exact c.keep b o h f e]
theorem Cm.sP(c:Cm k ln lp ns ps M0 M):Cm k ln lp ns (ps.set j v) M0 (M.upd lp<|.lst<|(ps.set j v).map D.int):=
 #[c.has.upd c.b,c.a,c.b,c.ab,by rw[ae c.ab];exact c.en,Mem.upd_same,c.n0,c.p0,λb o h f e=>by rw[ae (Mem.ne e c.p0)];exact c.keep b o h f e]
theorem l_(h:∀v∈xs,0<=v/\v<m)(f:0<=v/\v<m):∀w∈xs.set j v,0<=w/\w<m:=λw e=>by
 grind
theorem Df.sN(d:Df m nums pieces ns ps fi cnt)(B:j<nums.length)(p:0<=v/\v<m)(h:v≠gA nums j):Df m nums pieces (ns.set j v) ps fi (cnt+1):=by
 have f:j<ns.length:=by rw[d.ln];exact B
 refine#[by rw[VL];exact d.ln,d.lp,l_ d.rn p,d.rp,?_,?_]
 .have:=md (xs:=nums) (v:=v) f
  have:=d.few;lia
 have:=d.fi
 split at this
 .rename_i c
  rw[if_pos c,nv f]
  split
  .rename_i e;rw[e];exact λz=>h z.symm
  exact this
 rename_i c;rw[if_neg c];exact this
theorem Df.sP(d:Df m nums pieces ns ps fi cnt)(B:j<pieces.length)(p:0<=v/\v<m)(h:v≠gA pieces j):Df m nums pieces ns (ps.set j v) fi (cnt+1):=by
 have f:j<ps.length:=by rw[d.lp];exact B
 refine#[d.ln,by rw[VL];exact d.lp,d.rn,l_ d.rp p,?_,?_]
 .have:=md (xs:=pieces) (v:=v) f
  have:=d.few;lia
 have:=d.fi
 split at this
 .rename_i c;rw[if_pos c];exact this
 rename_i c
 rw[if_neg c,nv f]
 split
 .rename_i e;rw[e];exact λz=>h z.symm
 exact this
theorem SL(c:Cm k ln lp ns ps M0 M)(d:Df m nums pieces ns ps fi cnt)(m2:2<=m)(m1:m<=997)(rn:∀v∈nums,0<=v/\v<m)(rp:∀v∈pieces,0<=v/\v<m)(hp:fJ pl 0=ap (.int m))(s0:0<sm)(s1:sm<=(nums.length:Int)+pieces.length)(hb:nums.length+pieces.length<=1000)(h:∀ns' ps' M' d10',Cm k ln lp ns' ps' M0 M'->Df m nums pieces ns' ps' fi (cnt+1)->D'.nx [ap (.ref k.p),d1,d2,ap (.tup pl),ap (bC nums pieces),ap (.ref ln),ap (.ref lp),d7,ap (.int sm),d9,d10',d11,d12,d13] M'):
  rY ad EE D' [ap (.ref k.p),d1,d2,ap (.tup pl),ap (bC nums pieces),ap (.ref ln),ap (.ref lp),d7,ap (.int sm),d9,d10,d11,d12,d13] M:=by
 have fi':∀{v:Int}{M:Mem}{Q:DK},Q _ M->frz (.int v) M Q:=λz=>z;refine#[rfl,aN c.has s0 (by lia) λr M1 a1 b1 dr=>fi' ?_]
 have c1:=c.dr dr;simp[af];unfold qW
 simp_arith! only[aE,al,ah,bi,aa,ac,dt,Ua,cu,aQ,c1.en,Uc,lE,d.ln]
 obtain⟨j,hj⟩:∃j:Nat,r=j:=#[r.toNat,by lia]
 subst hj
 by_cases q:j<nums.length
 .rw[if_pos (by simp;lia)]
  unfold tL
  simp_arith! only[aq,ao,aj,aa,ac,ah,dC,bC,dt,Ua,av,aQ,hp,atI_0,zP q]
  refine#[rfl,am λQ' E' hq _=>fR c1.has m2 m1 (rn _<|sM q) λw M2 w0 w1 wn dr2=>hq _ _ (fi' ?_)];have c2:=c1.dr dr2
  simp_arith! only[cY,ac,dt,Ua,sW,c2.en,Uc,jL (by trivial) (show (j:Int)<ns.length by rw[d.ln];lia),g_]
  exact h _ _ _ _ c2.sN (d.sN q #[w0,w1] wn)
 rw[if_neg (by simp;lia)]
 unfold t_
 simp_arith! only[ai,aq,ah,bi,aa,ac,dt,Ua,cu,aQ,c1.en,Uc,lE,d.ln,af,UA]
 obtain⟨i,hi,hi2⟩:∃i:Nat,j-nums.length=(i:Int)/\i<pieces.length:=#[j-nums.length,by lia,by lia]
 rw[hi];unfold sV
 simp_arith! only[aq,ao,aj,aa,ac,ah,dC,bC,dt,Ua,av,aQ,hp,atI_1,zP hi2]
 refine#[rfl,am λQ' E' hq _=>fR c1.has m2 m1 (rp _<|sM hi2) λw M2 w0 w1 wn dr2=>hq _ _ (fi' ?_)];have c2:=c1.dr dr2
 simp_arith! only[cY,ac,dt,Ua,sW,c2.ep,Uc,jL (by lia) (show (i:Int)<ps.length by rw[d.lp];lia),g_]
 exact h _ _ _ _ c2.sP (d.sP hi2 #[w0,w1] wn)
mutual
theorem PL{names:aa'}{m a b:Int}(h:a<=b):∀(r:Rw),fZ names m a r->fZ names m b r
 |.put x k,h1=>h1
 |.take x i,h1=>#[h1.1,h1.2.1,Int.lt_of_lt_of_le h1.2.2 h]
 |.pick x y,h1=>#[h1.1,h1.2.1,Int.lt_of_lt_of_le h1.2.2 h]
 |.two w x y z,h1=>h1
 |.ifr x c d,h1=>by
  simp only[fZ]at h1 ⊢;exact#[h1.1,ja h c h1.2.1,ja h d h1.2.2]
 |.again x c,h1=>by
  simp only[fZ]at h1 ⊢;exact#[h1.1,ja h c h1.2]
theorem ja{names:aa'}{m a b:Int}(h:a<=b):∀(rs:List Rw),bc names m a rs->bc names m b rs
 |[],_=>trivial
 |r::rs,h1=>#[PL h r h1.1,ja h rs h1.2]
end
theorem Jw(l:aa')(p:aC->Bool):((l.map UN).filter p).length=((Uu l.length).filter λi=>p (.inr<|(l[i]?).getD ("":Str))).length:=by
 have e:l=(Uu l.length).map λi=>l[i]?.getD ("":Str):=Xl (by simp) λi h f=>by simp_all
 conv=>lhs;rw[e]
 rw[Us,Vm,Uc];rfl
structure CaOk(C:Cse)(s t:Sta)(few:Nat):Prop where
 o:C.Ok
 hs:SOk C s
 ht:SOk C t
 two:C.two s t
 un:(aK C s t).length<=few
 h0:0<C.many
 h1:C.many<=40
 cn:cRs C.rows<=26
 one:∀x∈C.names,KA x
section
variable{s:Sta}
theorem tH(o:C.Ok)(e:SOk C s)(h:C.names[i]?=ap y):aI C s (.inr y)=gA s.nums i:=by
 unfold gA;rw[(kb o.nd e.ln.symm h)];rfl
theorem JL(o:C.Ok)(f:SOk C s)(h:SOk C t):(aK C s t).length=HS s.nums t.nums+HS s.pieces t.pieces:=by
 unfold aK eA;rw[WY,UG,Jw];congr 1
 .unfold HS
  rw[f.ln];congr 1;refine V1 λi p=>?_;have e:C.names[i]?=ap (C.names[i]?.getD ""):=by rw[Ud (by simp_all)];rfl
  rw[tH o f e,tH o h e]
 unfold HS;rw[Vm,Uc,f.lp];rfl
theorem Q4:aK (C.rw rs) s t=aK C s t:=rfl
end
theorem cut2{a b c:D}:oU [a,b,c,d,e] ca (ap 2)=[a,b]:=rfl
theorem SY{a b c:D}:oU [a,b,c,d,e] (ap 3) ca=[d,e]:=rfl
theorem Dq(f1:1<=few)(f5:few<=5)(hp:Has k M)(h:∀C s t M',CaOk C s t few->Kq k M M'->Q (br C s t) M'):An ad [.ref k.p,.int 24,.int (few:Nat)] M Q E:=by
 have ft:∀{xs:List D}{M:Mem}{Q:DK},Q (.tup xs) M->frz (.tup xs) M Q:=λz=>z;have I:∀{v:Int}{M:Mem}{Q:DK},Q (.int v) M->frz (.int v) M Q:=λz=>z;rw[TC];unfold Co
 simp_arith! only[ai,aq,ao,aj,aa,ag,ac,dt,Ua]
 refine#[rfl,am λQ' E' R _=>DC (v:=24) (by decide) (by decide) hp λm many names rows mk M1 pl hc q1=>R _ _ (ft ?_)]
 simp only[af,UA];unfold oP;have t4:=pl.t.k0;have t5:=pl.t.k1;have m2:=pl.t.m2;have m1:=pl.t.m1;have l0:=pl.t.n0;have l1:=pl.t.n1;obtain⟨f,hmn,mn1,mn40,mle⟩:∃f:Nat,(if many>1 then many else 1)=(f:Int)/\1<=f/\f<=40/\many<=(f:Int):=by
  refine#[(if many>1 then many else 1).toNat,?_,?_,?_,?_]<;>split<;>lia
 simp_arith! only[ai,aq,ah,ao,Ee,cI,fk,aU,aa,ag,bi,ac,dC,j_,dt,Ua,oSl,cut2,SY,frz,av,aQ,atI_2,Ji,hmn,ba,UB,WK]
 refine#[bh (by simp),bh (by simp),bh (by simp),?_]
 simp only[UD,Uv,af,UA];have pl':PlG m (f:Int) names rows mk:=#[#[pl.t.m2,pl.t.m1,pl.t.n0,pl.t.n1,by lia,by lia],pl.nd,ja mle _ pl.ok,pl.h,pl.cn,pl.l,pl.ln,pl.mkm,pl.one]
 have X:D.tup [.int m,.tup (names.map D.str),.int (f:Int),.tup (aJ rows),.str mk]=j_ m (f:Int) names rows mk:=rfl
 try rw[X]
 unfold on
 simp_arith! only[ai,aq,ao,aj,aa,ag,ac,dt,Ua]
 refine#[rfl,am λQ' E' R _=>xT q1.1 pl' λnums pieces M2 ln lp rn rp q2=>R _ _ (ft ?_)];simp only[af,UA];unfold mR
 simp_arith! only[ai,aq,bi,ah,aa,ag,ac,dC,bC,dt,Ua,av,aQ,atI_0,eJ]
 intro P han;simp only[af,UA];unfold nL
 simp_arith! only[ai,aq,bi,ah,aa,ag,ac,dC,dt,Ua,av,aQ,atI_1,eJ]
 intro J F;simp only[af,UA];have W:P≠J:=Mem.ne Mem.upd_same F;rw[ae W.symm]at F;have Y:nums.length=names.length:=ln;have hlP:pieces.length=f:=by lia
 have c0:Cm k P J nums pieces M2 ((M2.upd P<|.lst<|nums.map D.int).upd J<|.lst<|pieces.map D.int):=by
  have a:=q2.1.nep han;have b:=q2.1.nep F;exact#[(q2.1.upd a).upd b,a,b,W,by rw[ae W,Mem.upd_same],Mem.upd_same,han,F,λb' o _ _ e=>by rw[ae (Mem.ne e F),ae (Mem.ne e han)];exact e]
 generalize (M2.upd P<|.lst<|nums.map D.int).upd J (.lst<|pieces.map D.int)=M3 at c0 ⊢;have es:D.tup [.tup (nums.map D.int),.tup (pieces.map D.int)]=bC nums pieces:=rfl;rw[es];unfold oV
 simp_arith! only[ai,aq,ao,aj,ah,bi,aa,ag,ac,dC,dt,Ua,cu,aQ,c0.en,Uc,jg]
 refine#[.inl #[by decide,by decide],rfl,aN c0.has (by lia) (by lia) λr M4 a4 b4 d4=>I ?_]
 have O:=c0.dr d4;obtain⟨fi,hfi⟩:∃fi:Nat,r=(fi:Int):=#[r.toNat,by lia]
 subst hfi;simp only[af,UA];unfold oa
 simp_arith! only[ai,aq,bi,aa,ag,ac,dt,Ua,cu,aQ,O.en,Uc,af,UA]
 unfold nT
 have rest:∀(ns ps:aa_)(M5:Mem)(sm:Int),Cm k P J ns ps M2 M5->Df m nums pieces ns ps fi 1->0<sm->sm<=(nums.length:Int)+pieces.length->
   (jy ad<|aG E) { nx:=λx M'=>drp Q D.non M',rt:=drp Q } [ap (.ref k.p),ap (.int 24),ap (.int (few:Nat)),ap (j_ m (f:Int) names rows mk),ap (bC nums pieces),ap (.ref P),ap (.ref J),ap (.int (fi:Nat)),ap (.int sm),ca,ca,ca,ca,ca] M5:=by
  intro ns ps M5 sm c5 d5 s0 s1;unfold jy
  simp_arith! only[ai,cW,dR,aa,ag,ah,ac,dC,dt,Ua,pA,lE]
  refine#[by lia,by lia,?_]
  refine cw (λxs U N=>∃(ns ps:aa_)(c9 Z:Option D)(j:Nat),xs.length+j=few-1/\U=[ap (.ref k.p),ap (.int 24),ap (.int (few:Nat)),ap (j_ m (f:Int) names rows mk),ap (bC nums pieces),ap (.ref P),ap (.ref J),ap (.int (fi:Nat)),ap (.int sm),c9,Z,ca,ca,ca]/\Cm k P J ns ps M2 N/\Df m nums pieces ns ps fi (1+j))
   (λ_ _ _ _=>aL) ?_ ?_ _ _ _ #[ns,ps,ca,ca,0,by simp[cF],rfl,c5,d5]
  .rintro U N ⟨ns,ps,c9,Z,j,e1,rfl,G,H⟩
   have ej:1+j=few:=by simp at e1;lia
   rw[ej]at H;unfold oX
   simp_arith! only[ai,aq,aU,bi,aa,ag,ac,dt,Ua,bP,cC,aQ,G.en,G.ep]
   refine#[bh (by simp),?_]
   have et:D.tup [.tup (ns.map D.int),.tup (ps.map D.int)]=(Sta.mk ns ps).d:=rfl;simp only[af,UA,et];unfold om
   simp_arith! only[ai,aq,ao,aj,ah,aa,ag,ac,dC,dt,Ua]
   refine#[rfl,aN G.has (by decide) (by decide) λr2 M7 a7 b7 d7=>I ?_]
   have c7:=G.dr d7
   simp_arith! only[ba,af,UA]
   obtain⟨S,hmo,mo1,mo2⟩:∃S:Nat,30+r2=(S:Int)/\30<=S/\S<50:=#[(30+r2).toNat,by lia,by lia,by lia]
   rw[hmo];generalize B:(#[m,f,names,rows,mk,S]:Cse)=C;have o:C.Ok:=by subst B;exact#[m2,m1,by show f<=100;lia,by show S<=10000;lia,pl.nd,by show 0<names.length;lia,by show names.length<=100;lia,pl'.ok,Uw pl.h (by decide),pl.mkm]
   have hs:SOk C #[nums,pieces]:=by subst B;exact#[Y,hlP,rn,rp]
   have ht:SOk C #[ns,ps]:=by subst B;exact#[H.ln.trans Y,H.lp.trans hlP,H.rn,H.rp]
   have eN:C.names.length=nums.length:=by subst B;exact Y.symm
   have ed:j_ m (f:Int) names rows mk=C.d:=by subst B;rfl
   have es2:bC nums pieces=(Sta.mk nums pieces).d:=rfl;have em:(S:Nat)=C.most:=by subst B;rfl
   rw[ed,es2,em];refine O7 (s:=#[nums,pieces]) (t:=#[ns,ps]) o hs ht (by subst B;show 0<f;lia) (by subst B;show cRs rows<=24;lia) (by rw[<- em];lia) ?_ c7.en λrs o1 tw cr=>ak (h _ _ _ _ #[o1,hs.rw,ht.rw,tw,?_,by subst B;show 0<f;lia,by subst B;exact mn40,cr,by subst B;exact pl.one] ?_)
   .unfold Tu
    rw[eN];have hd:=H.fi
    split
    .rename_i c
     rw[if_pos c]at hd;intro y hy;rw[tH o hs hy,tH o ht hy];exact hd
    .rename_i c
     rw[if_neg c]at hd;exact hd
   .rw[Q4,JL o hs ht]
    exact H.few
   .exact q1.trans (q2.trans #[c7.has,c7.keep])
  .rintro x xs U N ⟨ns,ps,c9,Z,j,e1,rfl,G,H⟩ D' hD _ _ _
   simp only[UB]at e1;simp only[af,UA];refine SL G H m2 m1 rn rp (by simp) s0 s1 (by lia) λns' ps' M' d10' c' d'=>hD _ _ #[ns',ps',_,_,j+1,by lia,rfl,c',?_]
   rw[<- Nat.add_assoc];exact d'
 simp_arith! only[ai,aE,al,ah,bi,aa,ag,ac,dt,Ua,cu,aQ,O.en,Uc,E6,lE]
 have d0:∀{j:Nat}{v:Int}(hj:j<nums.length),fi=j->0<=v->v<m->v≠gA nums j->Df m nums pieces (nums.set j v) pieces fi 1:=λ{j v} hj e v0 v1 vn=>by
  subst e;refine#[VL,rfl,l_ rn #[v0,v1],rp,?_,?_]
  .have h1:=md (xs:=nums) (ys:=nums) (v:=v) hj
   have h2:=jp (xs:=nums);have h3:=jp (xs:=pieces);lia
  .rw[if_pos hj,nv hj,if_pos rfl];exact λz=>vn z.symm
 by_cases q:fi<nums.length
 .rw[if_pos (by simp;lia)]
  unfold r_;have T:fJ [D.int m,.tup (names.map D.str),.int (f:Int),.tup (aJ rows),.str mk] 0=ap (.int m):=by simp
  simp_arith! only[aq,ao,aj,aa,ag,ac,ah,dC,j_,dt,Ua,av,aQ,T,O.en,zP q]
  refine#[rfl,am λQ' E' R _=>fR O.has m2 m1 (rn _<|sM q) λw M5 w0 w1 wn dr5=>R _ _ (I ?_)];have c5:=O.dr dr5
  simp_arith! only[cY,ac,dt,Ua,sW,c5.en,Uc,jL (show (0:Int)<=(fi:Int) by lia) (show (fi:Int)<(nums.length:Nat) by lia),UL,g_]
  try rw[X]
  exact rest _ _ _ _ c5.sN (d0 q rfl w0 w1 wn) (by lia) (by lia)
 .rw[if_neg (by simp;lia)]
  unfold qQ;have hP:0<pieces.length:=by lia
  have T:fJ [D.int m,.tup (names.map D.str),.int (f:Int),.tup (aJ rows),.str mk] 0=ap (.int m):=by simp
  have ga0:=zP (xs:=pieces) hP;have ga0':fJ (pieces.map D.int) 0=ap (.int<|gA pieces 0):=ga0
  simp_arith! only[ai,aq,ao,aj,aa,ag,ac,ah,dC,j_,dt,Ua,av,aQ,T,O.ep,ga0']
  refine#[rfl,am λQ' E' R _=>fR O.has m2 m1 (rp _<|sM hP) λw M5 w0 w1 wn dr5=>R _ _ (I ?_)];have c5:=O.dr dr5;have ix0':xP pieces.length 0=ap 0:=jL (by decide) (by lia)
  simp_arith! only[cY,ac,dC,dt,Ua,sW,c5.ep,Uc,ix0',g_]
  have G:=c5.sP (j:=0) (v:=w);generalize M5.upd J (.lst<|(pieces.set 0 w).map D.int)=M6 at G ⊢;unfold tW
  simp_arith! only[aq,ao,ah,bi,aa,ag,ac,dC,dt,Ua,cu,aQ,G.ep,Uc,VL,jg,Gv,ba,frz,af,UA]
  refine#[.inl #[by decide,by decide],?_]
  try rw[X]
  refine rest _ _ _ _ G #[rfl,VL,rn,l_ rp #[w0,w1],?_,?_] (by split<;>lia) (by split<;>lia)
  .have h1:=md (xs:=pieces) (ys:=pieces) (v:=w) hP
   have h2:=jp (xs:=nums);have h3:=jp (xs:=pieces);lia
  .rw[if_neg q,nv hP,if_pos rfl];exact λz=>wn z.symm
theorem FP{s:Sta}(h:Q (br C s t) M):frz (br C s t) M Q:=h
end _T
namespace _T
open PySem _2 _3
variable{ad:Ad}{C:Cse}{a b:Int}{M:Mem}{i n:Nat}{v:Nat->Str}{x:Out}
def Qz(us:List aC)(t:Tr)(B:Nat):D:=Mu (λq=>B.testBit (us.idxOf q)) t
structure Cms(x:Out)(B:Nat):Prop where
 f:∀i,x.f.testBit i=true->B.testBit i=true
 s:∀i,x.s.testBit i=true->B.testBit i=cx
theorem As:(F ||| bitK us q).testBit i=(F.testBit i||decide (us.idxOf q=i)):=by rw[Yw,wU]
theorem MD{t1 t2:Tr}:Qz us (.a q t1 t2) B=if B.testBit (us.idxOf q)=true then Qz us t2 B else Qz us t1 B:=rfl
theorem mP:∀(t:Tr)(S F:Nat),(∀i,F.testBit i=true->B.testBit i=true)->(∀i,S.testBit i=true->B.testBit i=cx)->∃x∈g9 a b us t S F,Cms x B/\x.v=k7 a b (Qz us t B)
 |.e m,S,F,hF,hS=>#[_,WW.mpr rfl,#[hF,hS],rfl]
 |.a q t1 t2,S,F,hF,hS=>by
  rw[MD]
  by_cases c:B.testBit (us.idxOf q)=true
  .rw[if_pos c]
   obtain⟨x,g,f⟩:=mP t2 S (F ||| bitK us q) (λi hi=>by
    rw[As,Bool.or_eq_true]at hi;rcases hi with hi|hi
    .exact hF i hi
    simp_all) hS
   exact#[x,Uz.mpr (.inl g),f]
  rw[if_neg c];obtain⟨x,g,f⟩:=mP t1 (S ||| bitK us q) F hF (λi hi=>by
   rw[As,Bool.or_eq_true]at hi;rcases hi with hi|hi
   .exact hS i hi
   simp_all)
  exact#[x,Uz.mpr (.inr g),f]
theorem lB:∀(t:Tr)(S F:Nat),x∈g9 a b us t S F->(∀i,F.testBit i=true->x.f.testBit i=true)/\∀i,S.testBit i=true->x.s.testBit i=true
 |.e m,S,F,h=>by
  have:x=#[k7 a b m,S,F]:=by simpa [g9] using h
  simp_all
 |.a q t1 t2,S,F,h=>by
  rcases Uz.mp h with h1|h1
  .obtain⟨p,r⟩:=lB t2 _ _ h1
   simp_all
  obtain⟨p,r⟩:=lB t1 _ _ h1
  simp_all
theorem jX:∀(t:Tr)(S F:Nat),x∈g9 a b us t S F->Cms x B->x.v=k7 a b (Qz us t B)
 |.e m,S,F,h,_=>by
  have:x=#[k7 a b m,S,F]:=by simpa [g9] using h
  subst this;rfl
 |.a q t1 t2,S,F,h,c=>by
  rw[MD];rcases Uz.mp h with h1|h1
  .rw[if_pos (c.f _<|(lB t2 _ _ h1).1 _<|by rw[As];simp)]
   exact jX t2 _ _ h1 c
  rw[if_neg (by rw[c.s _ ((lB t1 _ _ h1).2 _<|by rw[As];simp)];simp)]
  exact jX t1 _ _ h1 c
theorem sK:∀(t:Tr)(u:List aC)(S F:Nat),TrN t u->Wy us u S F->x∈g9 a b us t S F->∀i,x.f.testBit i=true->x.s.testBit i=cx
 |.e m,u,S,F,_,w,h=>by
  have:x=#[k7 a b m,S,F]:=by simpa [g9] using h
  subst this;exact λi c=>Bool.eq_false_iff.mpr λz=>w.dis i #[z,c]
 |.a q t1 t2,u,S,F,hn,w,h=>by
  rcases Uz.mp h with h1|h1
  .exact sK t2 _ _ _ hn.2.2 (w.fa hn.1) h1
  exact sK t1 _ _ _ hn.2.1 (w.so hn.1) h1
def vB(C:Cse)(s t:Sta)(a b:Int)(B:Nat):Str:=k7 a b (Qz (aK C s t) (C.tree s t) B)
def mC(C:Cse)(s t:Sta)(a b:Int):List Out:=g9 a b (aK C s t) (C.tree s t) 0 0
theorem Qh:∃x∈mC C s t a b,Cms x B/\x.v=vB C s t a b B:=mP _ _ _ (by simp_all) (by simp_all)
theorem KS(h:x∈mC C s t a b)(c:Cms x B):x.v=vB C s t a b B:=jX _ _ _ h c
theorem EF(h:x∈mC C s t a b):∀i,x.f.testBit i=true->x.s.testBit i=false:=sK _ _ _ _ uI (Wy.zero λ_ h=>h) h
theorem lK(h:x∈mC C s t a b):OutOk (aK C s t).length x:=rW _ _ _ _ uI (Wy.zero λ_ h=>h) x h
theorem G6:(mC C s t a b).length<=2 ^ (aK C s t).length:=by
 unfold mC;rw[jG];have:=qd (C:=C) (s:=s) (t:=t);lia
theorem EZ(e:A<2 ^ n)(f:B<2 ^ n)(h:aD A=aD B):A=B:=by
 refine Xx λi=>?_
 by_cases c:i<n
 .have j:=bO (i:=i) e
  have g:=bO (i:=i) f
  simp_all
 rw[Vt (Ur e<|UP (by decide)<|by lia),Vt (Ur f<|UP (by decide)<|by lia)]
def jB:Nat->List (List Nat)
 |0=>[[]]
 |n+1=>jB n++(jB n).map (·++[n])
theorem Fh(h:B<2 ^ n):aD (2 ^ n+B)=aD B++[n]:=by
 have c:2 ^ n+B<2 ^ (n+1):=by lia
 rw[cZ c,cZ h,List.range_succ,WY];congr 1
 .refine V1 λi e=>?_
  rw[Nat.testBit_two_pow_add_gt (by simp_all)]
 rw[UC,Nat.testBit_two_pow_add_eq,Vt h];rfl
theorem lZ:∀n:Nat,jB n=(Uu<|2 ^ n).map aD
 |0=>rfl
 |n+1=>by
  rw[jB,lZ n,Nat.pow_succ,Nat.mul_two,List.range_add,VW,Us,Us];congr 1;exact UE λB c=>(Fh<|by simp_all).symm
theorem Hi:(jB n).length=2 ^ n:=by rw[lZ,Uc,Xa]
abbrev PR:=Str×Int×Int
noncomputable def Hn(p:PR):D:=.tup [.str p.1,.int p.2.1,.int p.2.2]
theorem mZ:∀(c:aa')(xs ys:aa_),ip (c.map D.str) (xs.map D.int) (ys.map D.int)=(c.zip<|xs.zip ys).map Hn
 |[],_,_=>by simp[ip]
 |_::_,[],_=>by simp[ip]
 |_::_,_::_,[]=>by simp[ip]
 |n::c,x::xs,y::ys=>by
  have:=mZ c xs ys;simp at this ⊢;rw[<- this];rfl
theorem HA{c:aa'}(e:c.Nodup)(f:c.length=xs.length)(g:c.length=ys.length):c.zip (xs.zip ys)=c.map λx=>(x,nm (c.zip xs) x,nm (c.zip ys) x):=by
 refine Xb λi=>?_;rw[Uo];cases h:c[i]? with
 |none=>
  rw[Option.map_none,Vu];rw[X7];have:=W6.mp h;lia
 |some x=>
  rw[Vq,We];exact#[h,We.mpr #[kb e f h,kb e g h]]
theorem nP{M:Mem}{b:BxC (dm 3<|aM (af 0)<|aM (af 1)<|aM (af 2) dg) tt te ok Q}(p:PR->Bool)(f:PR->D)(g:ok M):∀(xs:List PR)(aa4:List D)(l m j:Option D),aa4.length+xs.length<=100000->
  (∀x∈xs,∀K:Bool->Mem->Prop,K (p x) M->tt (ap (.str x.1)::ap (.int x.2.1)::ap (.int x.2.2)::c) M K)->(∀x∈xs,∀K:DK,K (f x) M->te (ap (.str x.1)::ap (.int x.2.1)::ap (.int x.2.2)::c) M K)->Q (aa4++(xs.filter p).map f) M->
  cV (dm 3<|aM (af 0)<|aM (af 1)<|aM (af 2) dg) tt te ok Q b (xs.map Hn) aa4 (l::m::j::c) M
 |[],aa4,l,m,j,hl,ht,he,h=>#[g,by simpa using h]
 |x::xs,aa4,l,m,j,hl,ht,he,h=>by
  simp only[UB]at hl;rw[Ue];refine#[g,?_]
  simp_arith! only[Hn,dm,aM,dg,af,UA]
  refine#[rfl,ht x Ux _ ?_];cases o:p x with
  |true=>
   rw[if_pos rfl];refine he x Ux _ #[fH (by lia),nP p f g xs _ _ _ _ (by simp;lia) (λy e=>ht y (Uj _ e)) (λy e=>he y (Uj _ e)) ?_]
   rw[UC,if_pos o]at h;simpa using h
  |false=>
   rw[if_neg (by simp)]
   refine nP p f g xs _ _ _ _ (by lia) (λy e=>ht y (Uj _ e)) (λy e=>he y (Uj _ e)) ?_
   rw[UC,if_neg (by simp[o])]at h
   exact h
theorem Cc(e:SOk C s)(c:i<C.many):fJ (s.pieces.map D.int) (i:Nat)=ap (.int<|aI C s<|.inl (i:Int)):=by
 have f:i<s.pieces.length:=by rw[e.lp];exact c
 have:fJ (s.pieces.map D.int) i=(s.pieces.map D.int)[i]?:=by rfl
 show _=ap (D.int<|(s.pieces[(VY i)]?).getD 0)
 simp_all
theorem gP(o:C.Ok)(y:SOk C s)(A:SOk C t)(h:∀p,M p=ca->Q (.ref p) (M.upd p<|.lst<|(aK C s t).map kD)):qB ad [br C s t] M Q E:=by
 have l1:=o.l1;have few:=o.few;have r:=@csE C s t;have g:=@E9 C;have c:∀z:Sta,z.d=.tup _:=λ_=>rfl;rw[SX];unfold yH
 simp_arith! only[ai,aq,ac,dt,r,dm,aM,af,dg,UA]
 refine#[rfl,?_];unfold qT;rw[g,c s,c t]
 simp_arith! only[ai,cq,dj,aO,vH,aa,ah,ac,dC,av,aQ,atI_0,atI_1,dt,Ua,bn]
 rw[mZ,HA o.nd y.ln.symm A.ln.symm];refine nP (λx=>decide (x.2.1≠x.2.2)) _ aL _ _ _ _ _ (by simp;lia) (λx _ K q=>?_) (λx _ K q=>q) ?_
 .simp_arith! only[al,ah,ac,dt,Ua,pO,dv,cP,aR]
  simp_all
 intro p J;have I:(((C.names.map λx=>(x,nm (C.names.zip s.nums) x,nm (C.names.zip t.nums) x)).filter λx=>decide (x.2.1≠x.2.2)).map λx:PR=>D.str x.1)=((C.names.map UN).filter λk=>decide (aI C s k≠aI C t k)).map kD:=by
  rw[Vm,Vm,Us,Us];rfl
 simp only[Uv];rw[I]
 simp_arith! only[eG,UA,dt,Ua,Mem.upd_same,Mem.upd_del,au J]
 unfold rG
 simp_arith! only[az,ah,ac,ao,aO,dt,Ua,bt,UX,Ue,UD,Uv,US]
 refine#[by lia,by lia,?_]
 rw[UL];refine dB (λd=>match d with|.int i=>decide (aI C s (.inl i)≠aI C t (.inl i))|_=>true) id aL (by simp[cF];lia) (λx w K q=>?_) (λx w _ K q=>q) ?_
 .obtain⟨i,f,rfl⟩:=Ul.mp w
  have f:=UJ.mp f;have l:(0:Int)+i=i:=by lia
  rw[l]at q ⊢
  simp_arith! only[al,ah,ac,dC,av,aQ,atI_1,dt,Ua,Cc y f,Cc A f,pO,dv,cP,aR]
  refine#[trivial,trivial,?_];simpa using q
 intro L m;refine bJ m ?_;have G:((cF 0 C.many).filter λd=>match d with|.int i=>decide (aI C s (.inl i)≠aI C t (.inl i))|_=>true).map id=(((Uu C.many).map λ(i:Nat)=>(VI i:aC)).filter λk=>decide (aI C s k≠aI C t k)).map kD:=by
  unfold cF;rw[VE,Vm,Vm,Us];have l:∀i:Nat,(0:Int)+i=i:=λi=>by lia
  simp only[l];rfl
 rw[G];have u:((C.names.map UN).filter λk=>decide (aI C s k≠aI C t k)).map kD++(((Uu C.many).map λ(i:Nat)=>(VI i:aC)).filter λk=>decide (aI C s k≠aI C t k)).map kD=(aK C s t).map kD:=by
  unfold aK eA;rw[WY,VW]
 have e:=congrArg VO u;have H:=oN (s:=s) (t:=t) o;rw[UG,Uc (as:=aK C s t)]at e;refine#[bh (by lia),?_]
 rw[u];exact λF j=>ak (h F j)
noncomputable def cG(ks:List Nat):List D:=ks.map λ(i:Nat)=>D.int (i:Int)
def E8(ks:List Nat):D:=.lst (cG ks)
def KP:Nat->Nat->List D
 |_,0=>[]
 |j,n+1=>.int ((j:Nat):Int)::KP (j+1) n
theorem yq:∀(n j:Nat),(Wn j n).map (λ(i:Nat)=>D.int ((i:Nat):Int))=KP j n
 |0,_=>rfl
 |n+1,j=>by rw[List.range'_succ,Ue,yq n _];rfl
theorem O4(n:Nat):cF 0 n=KP 0 n:=by
 rw[<- yq,<- V4];unfold cF
 simp_all
theorem Ff(h:ks∈jB n):∃B,B<2 ^ n/\ks=aD B:=by
 rw[lZ]at h;obtain⟨B,c,rfl⟩:=Ul.mp h;exact#[B,by simp_all,rfl]
theorem gI(h:B<2 ^ n):(aD B).length<=n:=by
 rw[cZ h]
 grind
section
theorem vt{n:Nat}(l:ok M):∀(m j:Nat)(c:Option D),j+m<=10->(∀c,D'.nx [ap (.int (n:Nat)),ap (.lst<|(jB (j+m)).map E8),c] M)->
  iX (af 2) (my ad EE) D' ok bx (KP j m) [ap (.int (n:Nat)),ap (.lst<|(jB j).map E8),c] M
 |0,j,c,hl,h=>#[l,h c]
 |m+1,j,c,hl,h=>by
  have z:2 ^ j<=1024:=(UP (by decide) (show j<=10 by lia))
  have y:=Hi (n:=j);refine#[l,?_];refine dP (λd=>match d with|.lst xs=>.lst (xs++[.int j])|_=>.non) aL (by rw[Uc];lia) (λx o K q=>?_) ?_
  .obtain⟨A,p,rfl⟩:=Ul.mp o
   obtain⟨B,r,rfl⟩:=Ff p;have:=gI r;exact#[bh (by simp),λw g=>bJ g #[bh (by simp[cG];lia),λu f=>bJ f q]]
  intro w g;refine bJ g ?_;refine#[bh (by simp;lia),λu f=>bJ f ?_]
  have e:(jB j).map E8++((jB j).map E8).map (λd=>match d with|.lst xs=>.lst (xs++[.int j])|_=>.non)=(jB (j+1)).map E8:=by
   rw[jB];simp[E8,cG]
  rw[e];exact vt l m _ _ (by lia) λc=>by
   rw[show j+1+m=j+(m+1) by lia]
   exact(h c)
theorem rB(l:n<=10)(h:Q (.lst<|(jB n).map E8) M):BD ad [.int (n:Nat)] M Q E:=by
 refine#[by trivial,λj e=>bJ e #[by trivial,λg c=>bJ c ?_]]
 refine#[by lia,by lia,?_]
 rw[O4];refine vt aL n 0 _ (by lia) λf=>?_
 simp_arith! only[Wx]
 exact ak h
def g6(C:Cse)(s t:Sta)(ks:List aC):Sta:=
 #[C.names.map λx=>aI C (if UN x∈ks then t else s) (.inr x),(Uu C.many).map λ(i:Nat)=>aI C (if VI (i:Int)∈ks then t else s) (.inl (i:Int))]
variable{ks:List aC}
theorem AE(o:C.Ok)(f:SOk C s)(g:SOk C t):SOk C (g6 C s t ks):=by
 refine#[by simp[g6],by simp[g6],λv e=>?_,λv e=>?_]
 .simp[g6]at e
  obtain⟨x,h,rfl⟩:=e;have c:UN x∈eA C:=Uz.mpr (.inl<|by simp_all)
  split
  .exact bH o g c
  exact bH o f c
 simp only[g6,Ul]at e;obtain⟨i,j,rfl⟩:=e;have c:(VI i:aC)∈eA C:=Uz.mpr (.inr<|Ul.mpr<|by lia)
 split
 .exact bH o g c
 exact bH o f c
theorem Mv(g:∀K,K (kD k) M->e U M K)(f:∀K,K (zX ks) M->c U M K)(h:K (decide (k∈ks)) M):al (ah wl e c) U M K:=by
 refine g _ (f _ ?_);unfold wl;rw[IM];exact h
noncomputable def R6(ks:List aC)(x:PR):Int:=if UN x.1∈ks then x.2.2 else x.2.1
theorem wm{D':DEnds}{EE:DX}{ok:Mem->Prop}{bx:BxF (dm 3<|aM (af 7)<|aM (af 8)<|aM (af 9) dg) (iT ad EE) D' ok}{l:cp}{o p d3 w r f:Option D}(u:∀xs,ok (M.upd l xs)):∀(xs:List PR)(aa4:aa_)(g m j:Option D),aa4.length+xs.length<=1000->
  (∀g m j,D'.nx [o,ap (zX ks),p,d3,w,r,ap (.ref l),g,m,j,f] (M.upd l<|.lst<|(aa4++xs.map (R6 ks)).map D.int))->
  iX (dm 3<|aM (af 7)<|aM (af 8)<|aM (af 9) dg) (iT ad EE) D' ok bx (xs.map Hn) [o,ap (zX ks),p,d3,w,r,ap (.ref l),g,m,j,f] (M.upd l<|.lst<|aa4.map D.int)
 |[],aa4,g,m,j,hl,h=>#[u _,by simp_all]
 |x::xs,aa4,g,m,j,hl,h=>by
  simp at hl;refine#[u _,?_]
  simp_arith! only[Hn,dm,aM,dg,af,UA]
  refine#[rfl,?_];unfold iT;have fin:∀v:Int,v=R6 ks x->bj (.ref l) [.int v] (M.upd l<|.lst<|aa4.map _) λ_ M1=>iX _ _ D' ok bx _ [o,ap _,p,d3,w,r,ap _,ap (.str x.1),ap (.int x.2.1),ap (.int x.2.2),f] M1:=λv y=>by
   simp_arith! only[bj,Mem.upd_same,Mem.upd_upd]
   refine#[by rw[Uc];exact fH (by lia),?_]
   have e:aa4.map D.int++[.int v]=(aa4++[v]).map D.int:=by simp
   rw[e];refine wm u xs _ _ _ _ (by simp;lia) λg m j=>?_
   simp_all
  simp_arith! only[a_,iS,ac,dt,Ua,cJ,Mem.upd_same,true_and]
  refine Mv (k:=.inr _) (λK q=>q) (λK q=>q) ?_
  by_cases c:(UN x.1)∈ks
  .rw[if_pos (by simpa using c)]
   exact fin _ (by unfold R6;rw[if_pos c])
  rw[if_neg (by simpa using c)]
  exact fin _ (by unfold R6;rw[if_neg c])
theorem y6(o:C.Ok)(r:SOk C s)(u:SOk C t)(h:Q (g6 C s t ks).d M):BZ ad [br C s t,zX ks] M Q E:=by
 have l1:=o.l1;have few:=o.few;have m:=@csE C s t;have j:=@E9 C;have f:∀z:Sta,z.d=.tup _:=λ_=>rfl;rw[S4];unfold AN
 simp_arith! only[ai,aq,ac,dt,m,dm,aM,af,dg,UA,bv]
 refine#[rfl,by trivial,λl w=>?_]
 unfold rH;rw[j,f s,f t]
 simp_arith! only[ai,cW,vH,aa,ah,ac,dC,av,aQ,atI_0,atI_1,dt,Ua,bn]
 rw[mZ,HA o.nd r.ln.symm u.ln.symm];refine wm (aa4:=[]) (λ_=>aL) _ _ _ _ (by simp;lia) λH J G=>?_
 unfold tX
 simp_arith! only[ai,cq,dj,aO,dR,aa,ah,ac,dC,av,aQ,atI_2,dt,Ua,bt,UX,Ue,UD,Uv,US]
 refine#[by lia,by lia,?_]
 refine dP (λd=>match d with|.int i=>.int (aI C (if VI i∈ks then t else s)<|.inl i)|_=>.non) aL (by simp[cF];lia) (λx y K q=>?_) ?_
 .obtain⟨i,g,rfl⟩:=Ul.mp y
  have g:=UJ.mp g;have F:(0:Int)+i=i:=by lia
  rw[F]at q ⊢;refine Mv (k:=.inl _) (λK q=>q) (λK q=>q) ?_
  by_cases c:(VI i:aC)∈ks
  .rw[if_pos (by simpa using c)]
   simp_arith! only[ah,ac,dC,av,aQ,atI_1,dt,Ua,Cc u g]
   simp_all
  .simp_arith! only[ah,ac,dC,av,aQ,atI_1,dt,Ua,Cc r g]
   simp_all
 intro p A
 simp_arith! only[eG,UA,dt,Ua,Mem.upd_same,Mem.upd_del,au A]
 unfold sg
 simp_arith! only[az,aU,bi,aa,ac,dt,Ua,bP,cC,Mem.upd_same]
 refine#[bh (by simp),M,λb o e=>by rw[ae (Mem.ne e w)];exact e,?_]
 have I:(C.names.map λx=>(x,nm (C.names.zip s.nums) x,nm (C.names.zip t.nums) x)).map (R6 ks)=(g6 C s t ks).nums:=by
  rw[Us];refine UE λx _=>?_;simp[R6]
  split<;>rfl
 have L:(cF 0 C.many).map (λd=>match d with|.int i=>.int (aI C (if VI i∈ks then t else s)<|.inl i)|_=>.non)=(g6 C s t ks).pieces.map D.int:=by
  unfold cF g6
  simp_all
 simp_all
theorem D8(o:C.Ok)(g:q∈eA C):aI C (g6 C s t ks) q=aI C (if q∈ks then t else s) q:=by
 rcases gX g with⟨x,e,rfl⟩|⟨i,hi,rfl⟩
 .obtain⟨j,f⟩:=List.getElem?_of_mem e
  have c:(g6 C s t ks).nums[j]?=ap (aI C (if UN x∈ks then t else s)<|.inr x):=by
   unfold g6
   simp_all
  rw[(kb o.nd (by simp[g6]) f)]at c
  exact Vh c
 show (((g6 C s t ks).pieces[(VY i)]?).getD 0)=_;rw[UL];unfold g6;rw[Uo,Za hi];rfl
end
def Q5(us:List aC)(B:Nat):List aC:=(aD B).map λi=>(us[i]?).getD (.inl 0)
theorem Ln(m:us.Nodup)(g:B<2 ^ us.length)(o:q∈us):q∈Q5 us B↔B.testBit (us.idxOf q)=true:=by
 have j:=WQ o;constructor
 .intro h
  obtain⟨i,c,e⟩:=Ul.mp h;obtain⟨f,l⟩:=(bO g).mp c;rw[Ud f]at e;have:us.idxOf q=i:=by rw[<- e];exact m.idxOf_getElem i f
  rw[this];exact l
 intro h;refine Ul.mpr #[_,(bO g).mpr #[j,h],?_]
 simp_all
theorem PC(g:B<2 ^ us.length)(h:q∈Q5 us B):q∈us:=by
 obtain⟨i,c,e⟩:=Ul.mp h;obtain⟨f,_⟩:=(bO g).mp c;rw[Ud f]at e;rw[<- e];exact V8 f
def ii(B:Nat):List aC:=(aD B).map λ(i:Nat)=>VI (i:Int)
theorem wa:eR (cG<|aD B)=ap (ii B):=by
 have:cG (aD B)=(ii B).map kD:=by unfold cG ii;rw[Us];rfl
 rw[this,pT]
theorem lF(e:A<2 ^ n)(f:B<2 ^ n)(h:ii A=ii B):A=B:=by
 refine EZ e f ?_;have c:=congrArg (List.map λk:aC=>match k with|.inl i=>i.toNat|.inr _=>0) h
 unfold ii at c;simpa [YZ] using c
def D1(v:Nat->Str)(Bs:List Nat):List (List aC×D):=Bs.map λB=>(ii B,D.str (v B))
theorem Ie(o:C.Ok)(f:SOk C s)(g:SOk C t)(j:(aK C s t).length<24)(e:B<2 ^ (aK C s t).length):C.mark (g6 C s t<|Q5 (aK C s t) B)=Qz (aK C s t) (C.tree s t) B:=by
 refine (xu o f g (AE o f g) j λq h=>?_).symm;rw[D8 o h]
 by_cases c:q∈aK C s t
 .have:=Ln (sH o) e c
  simp_all
 rw[if_neg (λz=>c (PC e z))]
 split
 .exact(Vn λz=>c (Ut.mpr<|by lia))
 rfl
theorem Jl(f:m=va C.mn r)(c:w=k7 a b m):(r.1=cx/\w=("other":Str))\/(r.1=true/\w=if nm r.2.nums C.mn=a then ("sound":Str) else if nm r.2.nums C.mn=b then ("faulty":Str) else ("other":Str)):=by
 subst f;unfold va at c;cases e:r.1 with
 |false=>
  rw[e]at c;exact .inl #[rfl,c]
 |true=>
  rw[e,if_pos rfl]at c;refine .inr #[rfl,?_];unfold k7 at c;rw[c];simp[aR]
theorem Hh(o:C.Ok)(S:SOk C s)(P:SOk C t)(hu:(aK C s t).length<24)(R:B<2 ^ (aK C s t).length)(T:a≠b)(hj:C.names[j]?=ap C.mn)(hl:M l=ca)(hk:aa3.length<100000)(h:∀g u,D'.nx [ap (br C s t),ap C.d,ap s.d,ap t.d,ap (.int (C.most:Nat)),ap (zX<|aK C s t),ap (.int (j:Nat)),ap (.tup [.int a,.int b]),ap (.ref l),O,g,u] (M.upd l<|.dT<|eD aa3 (ii B)<|.str<|vB C s t a b B))(h9:O=ap (E8<|aD B)):
  jO ad EE D' [ap (br C s t),ap C.d,ap s.d,ap t.d,ap (.int (C.most:Nat)),ap (zX<|aK C s t),ap (.int (j:Nat)),ap (.tup [.int a,.int b]),ap (.ref l),O,g,u] (M.upd l<|.dT aa3):=by
 subst h9;have ul:=oN (C:=C) (s:=s) (t:=t) o;have nl:=gI R;have X:=Ie o S P hu R;have lu:(M.upd l<|.dT aa3) l=ap (.dT aa3):=Mem.upd_same;generalize hN:M.upd l (.dT aa3)=N at *;unfold jO
 simp_arith! only[ai,aq,ah,qp,aj,aa,ag,ac,dC,dt,Ua,ao,aO,bz,aQ,bn,bt,Ue,UX,UD,Uv,US,E8]
 refine dP (λd=>match d with|.int i=>kD (((aK C s t)[i.toNat]?).getD<|.inl 0)|_=>.non) aL (by simp[cG];lia) (λx hx K q=>?_) ?_
 .obtain⟨i,I,rfl⟩:=Ul.mp hx
  have I:=((bO R).mp I).1;have e:fJ ((aK C s t).map kD) ((i:Nat):Int)=ap (kD<|((aK C s t)[i]?).getD<|.inl 0):=by
   rw[bG (by lia),UL,Uo,Ud I];rfl
  simp_arith! only[ah,ac,dt,Ua,zX,av,aQ,e]
  simpa using q
 intro p A;refine bJ A ?_;have Z:(cG<|aD B).map (λd=>match d with|.int i=>kD (((aK C s t)[i.toNat]?).getD<|.inl 0)|_=>.non)=(Q5 (aK C s t) B).map kD:=by
  unfold cG Q5;rw[Us,Us];exact UE λi _=>by simp
 rw[Z];refine#[rfl,aH (λ_ _ q=>y6 o S P q) ?_];show frz (g6 C s t<|Q5 (aK C s t) B).d N _;generalize hz:g6 C s t (Q5 (aK C s t) B)=z at *;have f:SOk C z:=by rw[<- hz];exact AE o S P
 have fz:∀{Q:DK},Q z.d N->frz z.d N Q:=λq=>q;refine fz ?_;rw[f.pd];refine#[rfl,kj (o.pl f) ?_];unfold E4;have er:dq (C.cf z) C.names C.rows z.nums=C.run z:=rfl;rw[er]
 simp_arith! only[av,aQ,atI_1,Ua,dt,af,UA]
 rw[<- f.pd];unfold xH;simp only[ai,aq,dC,af,UA];unfold wE;have fin:∀w:Str,w=vB C s t a b B->nF ad EE D' [ap (br C s t),ap C.d,ap s.d,ap t.d,ap (.int (C.most:Nat)),ap (zX<|aK C s t),ap (.int (j:Nat)),ap (.tup [.int a,.int b]),ap (.ref l),ap (.lst<|cG<|aD B),ap (dz C.names<|C.run z),ap (.str w)] N:=λw W=>by
  unfold nF
  simp_arith! only[aq,ac,dt,Ua,cY,bi,aa,ag,bP,cC,sW,lu,Da,wa]
  refine#[fH (by lia),?_]
  have:=h (ap<|dz C.names<|C.run z) (ap<|.str w);subst W;rw[<- hN,Mem.upd_upd];exact this
 generalize nF ad EE=K2 at *;have Y:vB C s t a b B=k7 a b (C.mark z):=by rw[X];rfl
 rcases Jl (C:=C) (r:=C.run z) (a:=a) (b:=b) (m:=C.mark z) rfl Y with⟨r0,w0⟩|⟨r1,w1⟩
 .have U:dz C.names (C.run z)=.non:=by unfold dz;rw[r0,if_neg (by simp)]
  rw[U]at fin ⊢
  simp_arith! only[ai,aE,kZ,al,ah,ac,dC,dt,Ua,fc,kF,YD,UW,if_false,aB]
  exact fin _ w0.symm
 .obtain⟨xs,ex,J⟩:=xA r1 hj
  rw[ex]at fin ⊢;generalize nm (C.run z).2.nums C.mn=v at *;have G:iG N (.int v) (.tup [.int a,.int b])=ap (decide (v=a)||decide (v=b)):=by
   simp_arith! only[iG,aQ,dv,fits,cP,Bool.and_self,and_self,if_true,WE,List.any_nil,aR,Xe]
   congr 2<;>exact decide_eq_decide.mpr #[Eq.symm,Eq.symm]
  simp_arith! only[ai,aE,kZ,al,ah,ac,dC,dt,Ua,fc,kF,Yo,if_true,av,aQ,atI_1,J,wl,G]
  by_cases c:v=a
  .rw[if_pos (by simp[c])]
   unfold rf;have L:[a,b].findIdx? (λy=>decide (y=v))=ap 0:=by simp[WX,c]
   simp_arith! only[aq,ah,ao,bv,aa,ag,dC,Ix,ac,dt,Ua]
   refine#[bh (by simp),λp A=>bJ A ?_]
   simp_arith! only[av,aQ,J,jo,dS,L]
   refine#[by simp,?_]
   simp_arith! only[Int.natCast_zero,atI_0,dt,af,UA,aB]
   exact fin _ (by rw[w1,if_pos c])
  .by_cases F:v=b
   .rw[if_pos (by simp[F])]
    unfold rf;have L:[a,b].findIdx? (λy=>decide (y=v))=ap 1:=by
     have:¬a=v:=λz=>c z.symm;simp[WX,F,this,T]
    simp_arith! only[aq,ah,ao,bv,aa,ag,dC,Ix,ac,dt,Ua]
    refine#[bh (by simp),λp A=>bJ A ?_]
    simp_arith! only[av,aQ,J,jo,dS,L]
    refine#[by simp,?_]
    have H:fJ [D.str "sound",.str "faulty"] ((1:Nat):Int)=ap (.str "faulty"):=rfl;simp only[H,af,UA,aB];exact fin _ (by rw[w1,if_neg c,if_pos F])
   .rw[if_neg (by simp[c,F])]
    simp only[aB];exact fin _ (by rw[w1,if_neg c,if_neg F])
theorem OD{k:List aC}(h:k∉aa3.map (·.1))(c:(aa3.map (·.1)).Nodup):eD aa3 k d=aa3++[(k,d)]:=by
 have:=tQ (aa3:=[(k,d)]) (by
  rw[Ws];refine#[c,by simp,λx e y f=>?_]
  have:y=k:=by simp_all
  subst this;exact λz=>h (by simp_all))
 assumption
theorem nW:(D1 v Bs).map (·.1)=Bs.map ii:=by unfold D1;rw[Us];rfl
theorem SC(h:j<=2 ^ n):((Uu j).map ii).Nodup:=by
 rw[List.nodup_iff_pairwise_ne,XM];refine List.Pairwise.imp_of_mem (λ{x y} c e f z=>f ?_) Xi;have c:=UJ.mp c;have e:=UJ.mp e;exact lF (n:=n) (by lia) (by lia) z
theorem Q3(f:C.mark s=.int a)(c:C.mark t=.int b):Iy C s t=.tup [.int a,.int b]:=by
 have g:∀{z:Sta}{v:Int},C.mark z=.int v->(C.run z).1=true/\nm (C.run z).2.nums C.mn=v:=λ{z v} e=>by
  unfold Cse.mark va at e;lia
 unfold Iy
 simp_all
theorem vk{i:Nat}(o:C.Ok)(G:SOk C s)(y:SOk C t)(A:(aK C s t).length<=10)(p:a≠b)(w:C.names[i]?=ap C.mn)(F:M l=ca)(r:∀N,ok N):∀(m j:Nat)(g f c:Option D),j+m=2 ^ (aK C s t).length->
  (∀g f c,D'.nx [ap (br C s t),ap C.d,ap s.d,ap t.d,ap (.int (C.most:Nat)),ap (zX<|aK C s t),ap (.int (i:Nat)),ap (.tup [.int a,.int b]),ap (.ref l),g,f,c] (M.upd l<|.dT<|D1 (vB C s t a b)<|Uu<|2 ^ (aK C s t).length))->
  iX (af 9) (jO ad EE) D' ok bx ((Wn j m).map λB=>E8 (aD B)) [ap (br C s t),ap C.d,ap s.d,ap t.d,ap (.int (C.most:Nat)),ap (zX<|aK C s t),ap (.int (i:Nat)),ap (.tup [.int a,.int b]),ap (.ref l),g,f,c] (M.upd l<|.dT<|D1 (vB C s t a b)<|Uu j)
 |0,j,g,f,c,e,h=>#[r _,by simp_all]
 |m+1,j,g,f,c,e,h=>by
  have L:2 ^ (aK C s t).length<=2 ^ 10:=UP (by decide) A
  refine#[r _,?_];refine Hh o G y (by lia) (by lia) p w F (by simp[D1];lia) (λf c=>?_) rfl
  have I:ii j∉(D1 (vB C s t a b)<|Uu j).map (·.1):=by
   rw[nW];intro z;obtain⟨B,u,J⟩:=Ul.mp z;have u:=UJ.mp u;have:=lF (n:=(aK C s t).length) (by lia) (by lia) J
   lia
  rw[OD I (by rw[nW];exact SC (n:=(aK C s t).length) (by lia))]
  have H:D1 (vB C s t a b) (Uu j)++[(ii j,.str (vB C s t a b j))]=D1 (vB C s t a b) (Uu (j+1)):=by unfold D1;rw[List.range_succ,VW];rfl
  rw[H];exact vk o G y A p w F r m _ _ _ _ (by lia) h
theorem pz(o:C.Ok)(g:SOk C s)(j:SOk C t)(H:C.mark s=.int a)(F:C.mark t=.int b)(G:(aK C s t).length<=10)(m:a≠b)(h:∀p,M p=ca->Q (.ref p) (M.upd p<|.dT<|D1 (vB C s t a b)<|Uu<|2 ^ (aK C s t).length)):Jp ad [br C s t] M Q E:=by
 have c:=@E9 C;obtain⟨i,y,f⟩:=mG o.mn;have l1:=o.l1;rw[u_q6];refine#[rfl,?_];refine#[rfl,am λQ' E' e _=>gP o g j λp z=>e _ _ (bJ z ?_)];simp[af];unfold x_;rw[c]
 simp_arith! only[ai,aq,Ix,ah,aa,ac,dC,dt,Ua,av,aQ,atI_1,atI_4,iJ,dQ,y]
 refine#[by lia,?_]
 refine#[rfl,am λQ' E' e _=>eL o g j (e _ _<|lC ?_)];rw[Q3 H F];intro l r;refine#[rfl,aH (λ_ _ q=>rB (by simp_all) q) ?_]
 have u:(jB ((aK C s t).map kD).length).map E8=(Wn 0<|2 ^ (aK C s t).length).map λB=>E8 (aD B):=by rw[Uc,lZ,Us,V4];rfl
 rw[u];exact vk o g j G m f r (λ_=>aL) _ 0 _ _ _ (by lia) λI w A=>ak (h l r)
def RC(v:Nat->Str)(n:Nat):D:=.fd ((Uu<|2 ^ n).map ii) ((Uu<|2 ^ n).map λB=>D.str (v B))
theorem Ka(e:M p=ca)(h:Q (RC v n) M):Fw (.ref p) (M.upd p<|.dT<|D1 v<|Uu<|2 ^ n) Q:=by
 simp_arith! only[Fw,Mem.upd_same,Mem.upd_del,au e]
 have c:(D1 v<|Uu<|2 ^ n).map (·.2)=(Uu<|2 ^ n).map λB=>D.str (v B):=by unfold D1;rw[Us];rfl
 rw[nW,c];exact h
def jv(B:Nat):D:=.tup (cG<|aD B)
theorem L0:He (ii B)=jv B:=by
 unfold He ii jv cG;rw[Us];rfl
theorem Qg(m:B<2 ^ n):cM (((Uu<|2 ^ n).map ii).zip ((Uu<|2 ^ n).map λB=>D.str (v B))) (ii B)=ap (.str<|v B):=by
 have e:((Uu<|2 ^ n).map ii).zip ((Uu<|2 ^ n).map λB=>D.str (v B))=(Uu<|2 ^ n).map λB=>(ii B,D.str (v B)):=by grind
 rw[e];unfold cM;have f:∀l:List _,(∀A∈l,A<2 ^ n)->B∈l->(l.map λB=>(ii B,D.str (v B))).find? (λh=>decide (h.1=ii B))=ap (ii B,.str (v B)):=by
  intro l
  induction l with
  |nil=>simp_all
  |cons A l ih=>
   intro g j;rw[Ue,VX]
   by_cases c:A=B
   .subst c;simp
   have:¬ii A=ii B:=λz=>c (lF (g A Ux) m z);simp only[this];exact ih (λx o=>g x (by simp_all)) ((Uk.mp j).resolve_left<|by lia)
 rw[f _ (λA=>UJ.mp) (by simp_all)]
 rfl
theorem Rf(c:B<2 ^ n)(h:K (.str<|v B) M):Eh (RC v n) (jv B) M K:=by
 unfold Eh RC jv
 simp_arith! only[Da,wa,Qg c]
 exact h
def IB:Nat->D->Prop
 |_,.non=>True
 |_,.bl _=>True
 |_,.int _=>True
 |_,.str _=>True
 |n+1,.tup xs=>xs.length<=100000/\∀x∈xs,IB n x
 |n+1,.lst xs=>xs.length<=100000/\∀x∈xs,IB n x
 |_,_=>False
theorem dZ:∀n:Nat,jb (UI n<|.bl true)=ap (UI n true)
 |0=>rfl
 |n+1=>by rw[VR,jb,dZ n];rfl
theorem j5:(UI n true).all id=true:=by simp
theorem i1:bQ "tuple" "bool"=false:=by rfl
theorem i2:bQ "tuple" "int"=false:=by rfl
theorem i3:bQ "tuple" "str"=false:=by rfl
theorem i4:bQ "tuple" "tuple"=true:=by rfl
theorem i5:bQ "tuple" "list"=false:=by rfl
theorem i6:bQ "list" "bool"=false:=by rfl
theorem i7:bQ "list" "int"=false:=by rfl
theorem i8:bQ "list" "str"=false:=by rfl
theorem i9:bQ "list" "tuple"=false:=by rfl
theorem i10:bQ "list" "list"=true:=by rfl
theorem i11:bQ "bool" "bool"=true:=by rfl
theorem i12:bQ "int" "bool"=false:=by rfl
theorem i13:bQ "int" "int"=true:=by rfl
theorem i14:bQ "str" "bool"=false:=by rfl
theorem i15:bQ "str" "int"=false:=by rfl
theorem i16:bQ "str" "str"=true:=by rfl
theorem t1:oM "bool"=true:=by rfl
theorem t2:oM "int"=true:=by rfl
theorem t3:oM "str"=true:=by rfl
theorem t4:oM "tuple"=true:=by rfl
theorem t5:oM "list"=true:=by rfl
theorem jf:∀xs:List D,qR xs xs=xs.map (λz=>D.tup [z,z])
 |[]=>rfl
 |x::xs=>by
  have:=jf xs;simp[qR]at this ⊢;simp[this]
theorem iK{ad:Ad}:∀(n:Nat)(x:D)(M:Mem)(Q:DK)(E:DX),IB n x->Q (.bl true) M->Zs ad (n+1) [x,x] M Q E
 |n,x,M,Q,E,o,h=>by
  cases x with
  |non=>simp![km,gG];exact ak h
  |bl b=>simp![km,gG,i11,t1,beq_self_eq_true];exact ak h
  |int i=>simp![km,gG,i12,i13,t1,t2];exact ak h
  |str i=>simp![km,gG,i14,i15,i16,t1,t2,t3];exact ak h
  |tup xs=>
   cases n with
   |zero=>exact o.elim
   |succ n=>
    obtain⟨H,o⟩:=o;simp![km,gG,i1,i2,i3,i4,i5,t1,t2,t3,t4,t5,aO];rw[if_neg (by decide),if_neg (by decide),if_neg (by decide)]
    refine bM (λu e U M'=>∃(c:List D)(j:Nat)(m g:Option D),u=c.map (λz=>D.tup [z,z])/\(∀z∈c,IB n z)/\c.length+j<=100000/\e=UI j (.bl true)/\U=[m,g]/\M'=M) (λ_ _ _ _ _=>aL) ?_ ?_ ?_ _ _ _ _ #[xs,0,ca,ca,jf xs,o,by omega,rfl,rfl,rfl]
    .rintro e U M' ⟨c,j,m,g,f,l,A,rfl,rfl,rfl⟩ p r
     simp![Mem.upd_del,au r,dZ,j5];exact ak h
    .rintro y u e U M' ⟨c,j,m,g,f,l,A,rfl,rfl,rfl⟩ N G _
     cases c with
     |nil=>simp at f
     |cons z c=>
      simp only[Ue,Vi]at f;obtain⟨rfl,rfl⟩:=f;simp only[UB]at A;simp![];refine aH (d:=.bl true) (λQ' E' q=>iK n z M' Q' E' (l z<|Ux ..) q) ?_;simp![];exact G _ _ _ (by simp;exact fH (by omega)) #[c,j+1,_,_,rfl,λw F=>l w (Uj _ F),by omega,by rw[WG],rfl,rfl]
    .rintro y u e U M' ⟨c,j,m,g,f,l,A,rfl,rfl,rfl⟩
     simp;exact fH (by omega)
  |lst xs=>
   cases n with
   |zero=>exact o.elim
   |succ n=>
    obtain⟨H,o⟩:=o;simp![km,gG,i6,i7,i8,i9,i10,t1,t2,t3,t4,t5,aO];rw[if_neg (by decide),if_neg (by decide),if_neg (by decide)]
    refine bM (λu e U M'=>∃(c:List D)(j:Nat)(m g:Option D),u=c.map (λz=>D.tup [z,z])/\(∀z∈c,IB n z)/\c.length+j<=100000/\e=UI j (.bl true)/\U=[m,g]/\M'=M) (λ_ _ _ _ _=>aL) ?_ ?_ ?_ _ _ _ _ #[xs,0,ca,ca,jf xs,o,by omega,rfl,rfl,rfl]
    .rintro e U M' ⟨c,j,m,g,f,l,A,rfl,rfl,rfl⟩ p r
     simp![Mem.upd_del,au r,dZ,j5];exact ak h
    .rintro y u e U M' ⟨c,j,m,g,f,l,A,rfl,rfl,rfl⟩ N G _
     cases c with
     |nil=>simp at f
     |cons z c=>
      simp only[Ue,Vi]at f;obtain⟨rfl,rfl⟩:=f;simp only[UB]at A;simp![];refine aH (d:=.bl true) (λQ' E' q=>iK n z M' Q' E' (l z<|Ux ..) q) ?_;simp![];exact G _ _ _ (by simp;exact fH (by omega)) #[c,j+1,_,_,rfl,λw F=>l w (Uj _ F),by omega,by rw[WG],rfl,rfl]
    .rintro y u e U M' ⟨c,j,m,g,f,l,A,rfl,rfl,rfl⟩
     simp;exact fH (by omega)
  |_=>cases n<;>exact o.elim
theorem xQ(a b:Nat):V0 (a:Int) (b:Int)=((a &&& b:Nat):Int):=by
 have e:decide ((0:Int)<=(a:Int))=true:=decide_eq_true (by lia)
 have c:decide ((0:Int)<=(b:Int))=true:=decide_eq_true (by lia)
 unfold V0;rw[e,c];show (((a:Int).toNat &&& (b:Int).toNat:Nat):Int)=_;rw[UL,UL]
section
variable{b:BxC (af 0) tt te ok Q'}
theorem sL(p:Out->Bool)(f:Out->D)(e:ok N)(j:∀a x,N a=ap (Ed ad x)->∀K:Bool->Mem->Prop,K (p x) N->tt (ap (.ref a)::rest) N K)(g:∀a x,N a=ap (Ed ad x)->∀K:DK,K (f x) N->te (ap (.ref a)::rest) N K):
  ∀{as:abb}{xs:List Out},Lay ad N as xs->∀(aa4:List D)(c:Option D),aa4.length+xs.length<=100000->Q' (aa4++(xs.filter p).map f) N->cV (af 0) tt te ok Q' b (as.map D.ref) aa4 (c::rest) N
 |_,_,.nil,aa4,c,hl,h=>#[e,by simpa using h]
 |_,_,.cons (a:=a) (x:=x) (as:=as) (xs:=xs) hx t,aa4,c,hl,h=>by
  simp only[UB]at hl;rw[Ue];refine#[e,?_];simp only[af,UA];refine j a x hx _ ?_;cases l:p x with
  |true=>
   rw[if_pos rfl];refine g a x hx _ #[fH (by lia),sL p f e j g t _ _ (by simp;lia) ?_]
   rw[UC,if_pos l]at h;simpa using h
  |false=>
   rw[if_neg (by simp)]
   refine sL p f e j g t _ _ (by lia) ?_
   rw[UC,if_neg (by simp[l])]at h
   exact h
theorem Sv{a:cp}(h:N a=ap (Ed ad x))(q:K (.str x.v) N):aV ad.C_Outcome (ac 0) "verdict" (ap (.ref a)::rest) N K:=by
 simp_arith! only[aV,ac,dt,h]
 trivial
theorem Ti{a:cp}(c:U[i]?=ap (ap<|.ref a))(h:N a=ap (Ed ad x))(q:K (.int (x.s:Nat)) N):aV ad.C_Outcome (ac i) "sound" U N K:=by
 simp_arith! only[aV,ac,c,h]
 trivial
theorem is_v{a:cp}(h:N a=ap (Ed ad x))(q:K (decide (x.v=w)) N):al (ah bW (aV ad.C_Outcome (ac 0) "verdict")<|dC<|.str w) (ap (.ref a)::rest) N K:=by
 unfold al ah;refine Sv h ?_;simp only[dC,bW,dv,cP,aR];exact#[trivial,trivial,q]
end
end _T
namespace _T
open PySem _2 _3 _S
variable{ad:Ad}{p:cp}{C:Cse}{Q:DK}{E:DX}{a:Int}{Bs cl l:List Nat}{us:List aC}{M N:Mem}{B b m n:Nat}{s:Sta}{w:Str}
def nI(B:Nat):List Int:=(aD B).map λ(i:Nat)=>(i:Int)
theorem SS:(nI B).map D.int=cG (aD B):=by unfold nI cG;rw[Us];rfl
theorem OX:(nI B).length=(aD B).length:=by simp[nI]
theorem pP:∀bs:List Bool,jb (bs.map D.bl)=ap bs
 |[]=>rfl
 |b::bs=>by rw[Ue,jb,pP bs]
structure Lst(P l:List Nat):Prop where
 nd:l.Nodup
 mem:∀b,b∈l↔b∈P/\∀c∈P,c &&& b=c->c=b
theorem sw{a:Nat}(h:a &&& b=a):a<=b:=by rw[<- h];exact Nat.and_le_right
theorem w_{a c:Nat}(h:a &&& b=a)(g:b &&& c=b):a &&& c=a:=by
 have:a &&& b &&& c=a &&& b:=by rw[Nat.and_assoc,g]
 rw[h]at this;exact this
theorem Lst.below(h:Lst P l):∀(n c:Nat),c<=n->c∈P->∃m∈l,m &&& c=m
 |n,c,hn,hc=>by
  by_cases z:∃d,d∈P/\d &&& c=d/\d≠c
  .obtain⟨d,f,s,ne⟩:=z
   have:=sw s;cases n with
   |zero=>lia
   |succ n=>
    obtain⟨m,g,e⟩:=h.below n d (by lia) f
    exact#[m,g,w_ e s]
  .exact#[c,(h.mem c).mpr #[hc,λd f s=>Vn λne=>z #[d,f,s,ne]],Nat.and_self c]
theorem Lst.old(h:Lst P l)(ge:∀c∈P,c<=b)(g:x∈l):x∈P++[b]/\∀c∈P++[b],c &&& x=c->c=x:=by
 obtain⟨e,f⟩:=(h.mem x).mp g;refine#[Vl _ e,λc hc s=>?_];rcases Uz.mp hc with hc|hc
 .exact f c hc s
 .have:c=b:=by simpa using hc
  subst this;have:=sw s;have:=ge x e;lia
theorem Lst.skip(h:Lst P l)(ge:∀c∈P,c<=b)(g:m∈l)(e:m &&& b=m):Lst (P++[b]) l:=by
 refine#[h.nd,λx=>#[h.old ge,λ⟨h1,f⟩=>?_]];rcases Uz.mp h1 with h1|h1
 .exact(h.mem x).mpr #[h1,λc i=>f c (Vl _ i)]
 .have:x=b:=by simpa using h1
  subst this;rw[<- f m (Vl _ ((h.mem m).mp g).1) e];exact g
theorem Lst.put(h:Lst P l)(ge:∀c∈P,c<=b)(no:∀m∈l,m &&& b≠m):Lst (P++[b]) (l++[b]):=by
 have j:b∉l:=λz=>no b z (Nat.and_self b);refine#[Ws.mpr #[h.nd,by simp,λa f c hc z=>?_],λx=>#[λhx=>?_,λ⟨h1,g⟩=>?_]]
 .have:c=b:=by simpa using hc
  rw[z,this]at f;exact j f
 .rcases Uz.mp hx with hx|hx
  .exact h.old ge hx
  .have:x=b:=by simpa using hx
   subst this;refine#[UR _ (by simp),λc hc s=>?_]
   rcases Uz.mp hc with hc|hc
   .obtain⟨m,i,e⟩:=h.below c c (Um _) hc
    exact absurd (w_ e s) (no m i)
   .simpa using hc
 .rcases Uz.mp h1 with h1|h1
  .exact Vl _ ((h.mem x).mpr #[h1,λc hc=>g c (Vl _ hc)])
  .exact UR _ h1
theorem Lst.perm(h:Lst P l)(p:P.Perm P'):Lst P' l:=#[h.nd,λb=>(h.mem b).trans #[λ⟨a,c⟩=>#[p.mem_iff.mp a,λd e=>c d (p.mem_iff.mpr e)],λ⟨a,c⟩=>#[p.mem_iff.mpr a,λd e=>c d (p.mem_iff.mp e)]]]
theorem Lst.same(h:Lst P l)(h':Lst P' r)(own:∀x∈P,x∈P')(f:∀x∈P',∃y∈P,y &&& x=y):l.Perm r:=by
 refine (Yl h.nd h'.nd).mpr λx=>#[λj=>?_,λj=>?_]
 .obtain⟨q,g⟩:=(h.mem x).mp j
  refine (h'.mem x).mpr #[own x q,λc o s=>?_];obtain⟨y,i,e⟩:=f c o;have:=g y i (w_ e s);have:=sw e;have:=sw s;lia
 .obtain⟨q,g⟩:=(h'.mem x).mp j
  obtain⟨y,i,e⟩:=f x q;have:=g y (own y i) e;subst this;exact(h.mem y).mpr #[i,λc o=>g c (own c o)]
theorem IW:cG l=(l.map λ(i:Nat)=>(i:Int)).map D.int:=by unfold cG;rw[Us];rfl
theorem iL{p:cp}(v:∀N,ok N)(L:M p=ca):
  ∀(ys P l:List Nat)(c:Option D),(P++ys).Pairwise (·<=·)->Lst P l->l.length+ys.length<64->(∀f u,Lst (P++ys) f->f.length<=l.length+ys.length->DD.nx [G,ap (.ref p),u] (M.upd p<|.lst<|cG f))->
  iX (af 2) (h8 ad EE) DD ok bx (cG ys) [G,ap (.ref p),c] (M.upd p<|.lst<|cG l)
 |[],P,l,c,pw,hL,hz,h=>#[v _,h l c (by simpa using hL)<|by simp]
 |b::ys,P,l,c,pw,hL,hz,h=>by
  simp only[UB]at hz;have ge:∀c∈P,c<=b:=λc O=>(List.pairwise_append.mp pw).2.2 c O b Ux;have o:((P++[b])++ys).Pairwise (·<=·):=by simpa using pw
  show iX (af 2) (h8 ad EE) DD ok bx (D.int (b:Nat)::cG ys) [G,ap (.ref p),c] (M.upd p<|.lst<|cG l);refine#[v _,?_];simp only[af,UA];unfold h8
  simp_arith! only[aE,fU,cm,bi,aa,ag,ao]
  unfold aO
  simp_arith! only[bz,ac,dt,Ua,aQ,Mem.upd_same,bn,bt,Ue,UX,UD,Uv,US]
  refine dP (λd=>match d with|.int i=>.bl (decide (i.toNat &&& b=i.toNat))|_=>.non) (λr H=>by simp only[bn,U9,Uk,V6,or_false,vd,L4,LA,QP,mz,zy,z9,uF]at H;subst H;exact Mem.upd_same) (by simp[cG];lia) (λx S K q=>?_) ?_
  .obtain⟨j,X,rfl⟩:=Ul.mp S
   simp_arith! only[ah,ac,dt,Ua,Ig,lE,xQ,bW,dv,cP,aR]
   refine#[trivial,trivial,?_];have e:decide (((j &&& b:Nat):Int)=(j:Int))=decide (j &&& b=j):=decide_eq_decide.mpr Int.ofNat_inj;rw[e];simpa using q
  intro q g;have T:M q=none:=by
   by_cases z:q=p
   .rw[z,Mem.upd_same]at g;cases g
   .rw[ae z]at g;exact g
  refine bJ g ?_;have R:(cG l).map (λd=>match d with|.int i=>.bl (decide (i.toNat &&& b=i.toNat))|_=>.non)=(l.map λj=>decide (j &&& b=j)).map D.bl:=by
   unfold cG;rw[Us,Us];exact UE λi _=>by simp
  rw[R]
  simp_arith! only[Kd,cC,pP,E7]
  have W:(l.map λj=>decide (j &&& b=j)).any id=l.any λj=>decide (j &&& b=j):=by rw[List.any_map];rfl
  rw[W];cases I:l.any λj=>decide (j &&& b=j) with
  |true=>
   rw[if_neg (by simp)]
   obtain⟨m,F,e⟩:=WB.mp I;simp only[aB];exact iL v L ys (P++[b]) l _ o (hL.skip ge F<|of_decide_eq_true e) (by lia) λf u y J=>h f u (by simpa using y) (by simp;lia)
  |false=>
   rw[if_pos (by rfl)]
   simp_arith! only[a_,iS,aa,ag,ac,dt,Ua,cJ,Mem.upd_same,true_and,bj,Mem.upd_upd]
   refine#[fH (by simp[cG];lia),?_]
   have U:cG l++[D.int (b:Nat)]=cG (l++[b]):=by unfold cG;rw[VW];rfl
   rw[U];refine iL v L ys (P++[b]) (l++[b]) _ o (hL.put ge λm F e=>?_) (by simp;lia) λf u y J=>h f u (by simpa using y) (by simp at J ⊢;lia)
   have:=XQ.mp I m F;exact this (decide_eq_true e)
theorem rC(J:∀N,Ext M N->cC N d=ap (cG xs))(I:xs.length<64)(h:∀l,Lst xs l->l.length<=xs.length->∀p,M p=ca->Q (.ref p) (M.upd p<|.lst<|cG l)):Cr ad [d] M Q E:=by
 rw[Sr];unfold yi;generalize j:lL ad (aG E)=K2;simp only[ai,aq,bv,ag];refine#[bh (by simp),λp o=>?_]
 simp only[af,UA];rw[<- j];unfold lL
 simp_arith! only[ai,cW,bz,ao,bi,aa,ag,ac,dt,Ua,jh,mz]
 rw[J _ (Ext.new o),IW];simp only[vd,fP];refine#[by simpa using I,λq F=>bJ F ?_]
 have r:=dU HB (xs.map λ(i:Nat)=>(i:Int));have u:=jn HB (xs.map λ(i:Nat)=>(i:Int));generalize kR HB (xs.map λ(i:Nat)=>(i:Int))=zs at *;have c:(zs.map VY).Perm xs:=by
  have:=r.map VY;rw[Us]at this;have e:xs.map (VY ∘ λ(i:Nat)=>(i:Int))=xs:=by rw[UE (g:=id) λi _=>by simp,VE]
  rwa [e]at this
 have H:zs.map D.int=cG (zs.map VY):=by
  unfold cG;rw[Us];refine UE λz x=>?_;obtain⟨i,_,rfl⟩:=Ul.mp (r.mem_iff.mp x);simp
 have f:(zs.map VY).Pairwise (·<=·):=XM.mpr (u.imp λ{a b} z=>by
  have z:decide (b<a)=false:=z;have:=of_decide_eq_false z;lia)
 rw[H];generalize zs.map VY=ys at *;have L:=c.length_eq
 simp_arith! only[aQ,bn]
 refine iL (λ_=>aL) o ys [] [] _ (by simpa using f) #[List.nodup_nil,λb=>by simp] (by simp;lia) λy K G v=>?_
 simp_arith! only[az,ac,dt,Ua]
 exact ak (h y ((Uv ys▸G).perm c) (by simp at v;lia) p o)
def ue(us:List aC)(k:aa_):List D:=k.map λi=>kD ((us[i.toNat]?).getD<|.inl 0)
def Hs(N:Mem)(ps:List (cp×List D)):Prop:=∀z∈ps,N z.1=ap (.lst z.2)
noncomputable def pF(ps:List (cp×List D)):List D:=ps.map λz=>D.ref z.1
theorem Hs.go(h:Hs N ps)(e:Ext N N'):Hs N' ps:=λz c=>e _ _ (h z c)
theorem Hs.add(h:Hs N ps)(c:N p=ca):Hs (N.upd p<|.lst xs) (ps++[(p,xs)]):=λz hz=>by
 rcases Uz.mp hz with hz|hz
 .exact Ext.new c _ _ (h z hz)
 .have:z=(p,xs):=by simpa using hz
  subst this;exact Mem.upd_same
theorem zH:pF (ps++[(p,xs)])=pF ps++[.ref p]:=by unfold pF;simp
theorem vf(F:us.length<=200)(o:B<2 ^ us.length)(j:M q=ap (.lst<|us.map kD))(h:∀p,M p=ca->Q (.ref p) (M.upd p<|.lst<|ue us<|nI B)):mS ad [.ref q,.int (B:Nat)] M Q E:=by
 have f:B<2 ^ 200:=Ur o (UP (by decide) F)
 have G:=gI o;rw[Tf];unfold BR
 simp_arith! only[az,aO,bz,ao,aj,aa,ag,ac,dt,Ua]
 refine#[rfl,am λQ' E' r _=>gu f λp y=>r _ _ (bJ y ?_)]
 simp_arith! only[aQ,bn,bt,Ue,UX,UD,Uv,US,dt]
 refine dP (λd=>match d with|.int i=>kD ((us[i.toNat]?).getD<|.inl 0)|_=>.non) aL (by simp;lia) (λx z K q=>?_) ?_
 .obtain⟨i,c,rfl⟩:=Ul.mp z
  have c:=((bO o).mp c).1;have e:fJ (us.map kD) ((i:Nat):Int)=ap (kD<|(us[i]?).getD<|.inl 0):=by
   rw[bG (by lia),UL,Uo,Ud c];rfl
  simp_arith! only[ah,ac,dt,Ua,av,aQ,j,e]
  simpa using q
 intro v g;have u:((aD B).map λ(i:Nat)=>D.int (i:Int)).map (λd=>match d with|.int i=>kD ((us[i.toNat]?).getD<|.inl 0)|_=>.non)=ue us (nI B):=by
  unfold ue nI;rw[Us,Us];exact UE λi _=>by simp
 rw[u];exact ak (h v g)
theorem vV:∀(Bs:List Nat)(ps:List (cp×List D))(N:Mem)(R:List D->Mem->Prop),(∀B∈Bs,B<2 ^ 200)->Hs N ps->(∀c N',Ext N N'->Hs N' c->c.map (·.2)=ps.map (·.2)++Bs.map (λB=>cG (aD B))->R (pF c) N')->oW (ku ad) (cG Bs) (pF ps) N R
 |[],ps,N,R,_,hs,h=>h ps N Ext.refl hs (by simp)
 |B::Bs,ps,N,R,hB,hs,h=>by
  show calls (ku ad) iD [.int (B:Nat)] N (λk M1=>oW (ku ad) (cG Bs) (pF ps++[k]) M1 R) #[];refine am λQ' E' o _=>gu (hB B Ux) λp g=>o _ _ ?_;have:=vV Bs (ps++[(p,cG (aD B))]) (N.upd p<|.lst<|cG<|aD B) R (λA i=>hB A (Uj _ i)) (hs.add g) λc N' j f e=>h c N' ((Ext.new g).trans j) f (by rw[e];simp)
  rw[zH]at this;exact this
theorem qh{N:Mem}:∀(ps:List (cp×List D))(Bs:List Nat),Hs N ps->ps.map (·.2)=Bs.map (λB=>cG (aD B))->iz N (pF ps)=ap (Bs.map nI)
 |[],[],_,_=>rfl
 |[],_::_,_,e=>by simp at e
 |_::_,[],_,e=>by simp at e
 |(p,xs)::ps,B::Bs,hs,e=>by
  simp only[Ue,Vi]at e;obtain⟨rfl,e⟩:=e;have h:N p=ap (.lst<|cG<|aD B):=hs _ Ux;have f:=qh ps Bs (λz g=>hs z (Uj _ g)) e;show iz N (D.ref p::pF ps)=_;have i:dS (cG<|aD B)=ap (nI B):=by rw[<- SS,fP]
  have c:cC N (.ref p)=ap (cG<|aD B):=by simp_arith! only[cC,h]
  simp only[iz,c,i,f,Ue]
theorem mY(o:∀N,ok N)(r:us.length<=200):
  ∀(Bs:List Nat)(ps:List (cp×List D))(c:Option D)(N:Mem),(∀B∈Bs,B<2 ^ us.length)->N q=ap (.lst<|us.map kD)->Hs N ps->ps.length+Bs.length<=100000->(∀f N',Ext N N'->Hs N' f->f.map (·.2)=ps.map (·.2)++Bs.map (λB=>ue us (nI B))->Q' (pF f) N')->
  cV (af 0) cS (aj (mS ad) iD 2<|aa (ac 1)<|aa (ac 0) ag) ok Q' bx (cG Bs) (pF ps) [c,ap (.ref q)] N
 |[],ps,c,N,_,_,hs,_,h=>#[o _,h ps N Ext.refl hs<|by simp]
 |B::Bs,ps,c,N,hB,hq,hs,hz,h=>by
  simp only[UB]at hz;show cV (af 0) cS (aj (mS ad) iD 2<|aa (ac 1)<|aa (ac 0) ag) ok Q' bx (D.int (B:Nat)::cG Bs) (pF ps) [c,ap (.ref q)] N;refine#[o _,?_]
  simp_arith! only[af,UA,cS,if_true,aj,aa,ag,ac,dt,Ua]
  refine#[rfl,am λQ1 E1 j _=>vf r (hB B Ux) hq λp g=>j _ _ #[fH (by unfold pF;rw[Uc];lia),?_]]
  have:=mY (bx:=bx) o r Bs (ps++[(p,ue us (nI B))]) (ap<|.int (B:Nat)) (N.upd p<|.lst<|ue us<|nI B) (λA v=>hB A (Uj _ v)) (Ext.new g _ _ hq) (hs.add g) (by simp;lia) λf N' u i e=>h f N' ((Ext.new g).trans u) i (by rw[e];simp)
  rw[zH]at this;exact this
structure Told(M N:Mem)(p:cp)(W:List (List D))(ps:List (cp×List D)):Prop where
 top:N p=ap (.lst<|pF ps)
 own:Hs N ps
 no:∀z∈ps,z.1≠p
 w:ps.map (·.2)=W
 ext:Ext M N
theorem JP(e:l.Perm (Uu Bs.length)):l.map (λi=>(Bs.map nI).getD i [])=(l.map λi=>Bs.getD i 0).map nI:=by
 rw[Us];refine UE λi c=>?_;have c:i<Bs.length:=UJ.mp (e.mem_iff.mp c);simp[c]
theorem P8(e:l.Perm (Uu Bs.length)):l.map (λi=>(cG Bs).getD i .non)=cG (l.map λi=>Bs.getD i 0):=by
 unfold cG;rw[Us];refine UE λi c=>?_;have c:i<Bs.length:=UJ.mp (e.mem_iff.mp c);simp[c]
theorem jq(o:C.Ok)(u:SOk C s)(S:SOk C t)(W:(aK C s t).length<=24)(O:∀B∈Bs,B<2 ^ (aK C s t).length)(T:Bs.length<64)(h:∀N p ps,Told M N p ((kR dh<|Bs.map nI).map<|ue<|aK C s t) ps->Q (.ref p) N):JI ad [br C s t,.lst (cG Bs)] M Q E:=by
 rw[u_q3];unfold Jh;generalize I:qY ad (aG E)=K1
 simp_arith! only[ai,aq,aj,aa,ag,ac,dt]
 refine#[rfl,am λQ' E' R _=>eU o u S λq H=>R _ _ ?_];simp only[af,UA];rw[<- I];unfold qY az aO
 simp_arith! only[bz,ao,bi,gg,aa,ag,ac,dt,Ua,cC]
 refine#[by simpa [cG] using T,?_]
 have J:∀B∈Bs,B<2 ^ 200:=λB y=>Ur (O B y) (UP (by decide)<|by lia)
 refine vV Bs [] _ _ J (λz f=>by cases f) λg N1 ex1 K x=>?_
 have x:g.map (·.2)=Bs.map (λB=>cG (aD B)):=x;unfold Fb;rw[qh g Bs K x];simp only[vd];intro l j L U G;rw[Uc]at j;rw[JP j]at L;rw[P8 j];refine bJ G ?_;have v:∀B∈l.map (λi=>Bs.getD i 0),B<2 ^ (aK C s t).length:=λB y=>by
  obtain⟨i,r,rfl⟩:=Ul.mp y;have r:i<Bs.length:=UJ.mp (j.mem_iff.mp r);refine O _ ?_;rw[VG,Ud r];exact V8 r
 have len:(l.map λi=>Bs.getD i 0).length=Bs.length:=by rw[Uc,j.length_eq,Xa]
 generalize l.map (λi=>Bs.getD i 0)=ls at*
 simp_arith! only[aQ,bn,bt,Ue,UX,UD,Uv,US,dt,Ua]
 refine mY (ps:=[]) (λ_=>aL) (by lia) ls _ _ v (ex1 _ _ Mem.upd_same) (λz f=>by cases f) (by simp;lia) λps N P u e=>?_
 intro p F;have e:ps.map (·.2)=ls.map (λB=>ue (aK C s t) (nI B)):=e;refine ak (h _ p ps #[Mem.upd_same,u.go (Ext.new F),λz f c=>?_,?_,((Ext.new H).trans<|ex1.trans P).trans<|Ext.new F])
 .have:=u z f
  rw[c,F]at this;cases this
 .rw[e,<- L,Us];rfl
section
variable{b:Int}
def vC(C:Cse)(s t:Sta)(a b:Int):List Out:=(mC C s t a b).filter λx=>decide (x.v=("sound":Str))
theorem iI(o:C.Ok)(Z:SOk C s)(Y:SOk C t)(ea:C.mark s=.int a)(eb:C.mark t=.int b)(U:a≠b)(hu:(aK C s t).length<=5)(hL0:64<=L)(hL:L<=10000)(h:∀l,Lst ((vC C s t a b).map λx=>x.s) l->∀N p ps,Told M N p ((kR dh<|l.map nI).map<|ue<|aK C s t) ps->Q (.ref p) N):Dx ad [br C s t,.int (L:Nat)] M Q E:=by
 have R:2 ^ (aK C s t).length<=32:=(UP (by decide) hu:2 ^ (aK C s t).length<=2 ^ 5)
 have u:=qd (C:=C) (s:=s) (t:=t);have hlo:(vC C s t a b).length<=32:=Uw (UM _ _) (Uw G6 R);have J:∀x∈vC C s t a b,OutOk (aK C s t).length x:=λx f=>lK (Ut.mp f).1;rw[u_q4];unfold KO;generalize P:sj ad (aG E)=K1;simp only[ai,dj];unfold aO
 simp_arith! only[bz,ao,aj,aa,ag,ac,dt,Ua]
 refine#[rfl,am λQ' E' g _=>pe o Z Y ea eb U (by lia) (by lia) hL λp as N S X r ny=>g _ _ ?_]
 have T:Lay ad (N.del p) as (mC C s t a b):=ny.go λc y e=>by unfold Mem.del;rw[if_neg (λz=>by rw[z,X]at e;cases e)];exact e
 have O:Ext M (N.del p):=S.del r;have hll:(mC C s t a b).length<=10000:=by unfold mC;rw[jG];lia
 simp_arith! only[frz,X,aQ,bn,bt,Ue,UX,UD,Uv]
 generalize N.del p=N1 at *;refine sL (λx=>decide (x.v=("sound":Str))) (λx=>.int (x.s:Nat)) aL (λa x f K q=>is_v f q) (λa x f K q=>Ti (i:=0) rfl f q) T [] _ (by simp;lia) ?_
 intro j F;rw[Uv];have e:((mC C s t a b).filter λx=>decide (x.v=("sound":Str))).map (λx=>D.int (x.s:Nat))=cG ((vC C s t a b).map λx=>x.s):=by unfold cG;rw[Us];rfl
 rw[e];simp only[UA];rw[<- P];unfold sj
 simp_arith! only[az,aj,ao,aa,ag,ac,dt,Ua]
 have G:Ext M (N1.upd j<|.lst<|cG ((vC C s t a b).map λx=>x.s)):=O.trans (Ext.new F);have H:∀N,Ext (N1.upd j<|.lst<|cG ((vC C s t a b).map λx=>x.s)) N->cC N (.ref j)=ap (cG ((vC C s t a b).map λx=>x.s)):=λN S=>by
  have:=S _ _ Mem.upd_same
  simp_arith! only[cC,this]
 refine#[rfl,am λQ' E' g _=>rC H (by simp;lia) λl W hn p2 I=>g _ _ (bJ I ?_)]
 refine#[rfl,am λQ' E' g _=>jq o Z Y (by lia) (λB hb=>?_) (by simp at hn;lia) λN j ps w=>g _ _ (ak<|h l W N j ps #[w.top,w.own,w.no,w.w,G.trans w.ext])]
 obtain⟨x,f,rfl⟩:=Ul.mp ((W.mem B).mp hb).1;exact(J x f).s
end
theorem eK{α:Type}(f:α->D)(p:α->Bool)(g:α->D)(j:ok M):∀(xs:List α)(aa4:List D)(c:Option D),aa4.length+xs.length<=100000->
  (∀x∈xs,∀K:Bool->Mem->Prop,K (p x) M->tt (ap (f x)::e) M K)->(∀x∈xs,∀K:DK,K (g x) M->te (ap (f x)::e) M K)->Q' (aa4++(xs.filter p).map g) M->cV (af 0) tt te ok Q' bx (xs.map f) aa4 (c::e) M
 |[],aa4,c,_,_,_,h=>#[j,by simpa using h]
 |x::xs,aa4,c,hl,ht,he,h=>by
  simp only[UB]at hl;rw[Ue];refine#[j,?_];simp only[af,UA];refine ht x Ux _ ?_;cases o:p x with
  |true=>
   rw[if_pos rfl];refine he x Ux _ #[fH (by lia),eK f p g j xs _ _ (by simp;lia) (λy i=>ht y (Uj _ i)) (λy i=>he y (Uj _ i)) ?_]
   rw[UC,if_pos o]at h;simpa using h
  |false=>
   rw[if_neg (by simp)]
   refine eK f p g j xs _ _ (by lia) (λy i=>ht y (Uj _ i)) (λy i=>he y (Uj _ i)) ?_
   rw[UC,if_neg (by simp[o])]at h
   exact h
theorem ud:cG (aD B)=(ii B).map kD:=by unfold cG ii;rw[Us];rfl
theorem AC:iG M (.int (j:Nat)) (jv B)=ap (decide (j∈aD B)):=by
 have c:=EK (ks:=ii B) (k:=.inl (j:Nat));have f:=lR 60 (ii B);unfold iG jv;rw[ud]
 simp_arith! only[aQ]
 rw[f];show (if cP 60 (kD<|.inl (j:Nat))=true/\true=true then ap (((ii B).map kD).any λd=>aR d (kD<|.inl (j:Nat))) else ca)=_
 rw[y0,c];simp only[and_self,if_true];congr 1;simp only[ii,Ul];exact decide_eq_decide.mpr #[λ⟨a,h,e⟩=>Int.ofNat_inj.mp (Sum.inl.inj e)▸h,λh=>#[j,h,rfl]]
theorem NB(c:A<2 ^ n)(f:B<2 ^ n):aR (jv A) (jv B)=decide (A=B):=by
 unfold jv;rw[ud,ud];show gE _ _=_;rw[ym];exact decide_eq_decide.mpr #[lF c f,λe=>by rw[e]]
theorem Gd:cP 60 (jv A)=true:=by
 unfold jv;rw[ud];exact lR 59 (ii A)
theorem Jr:aR (.lst xs) (.lst [])=xs.isEmpty:=by cases xs<;>rfl
theorem I_(c:A<2 ^ n)(g:B<2 ^ n):(∀j∈aD A,j∈aD B)↔A &&& B=A:=by
 constructor
 .intro h
  refine Xx λi=>?_;rw[Yf];cases e:A.testBit i with
  |false=>simp
  |true=>
   have o:i<n:=Vn λz=>by
    rw[Vt (Ur c<|UP (by decide)<|by lia)]at e
    cases e
   rw[((bO g).mp<|h i<|(bO c).mpr #[o,e]).2];rfl
 .intro e j r
  obtain⟨q,f⟩:=(bO c).mp r;refine (bO g).mpr #[q,?_];rw[<- e,Yf,Vw]at f;exact f.2
theorem vc(c:fits 59 xs=true)(q:K (.bl xs.isEmpty) M):bW (.lst xs) (.lst []) M K:=by
 simp only[bW,dv];refine#[c,rfl,?_];rw[Jr];exact q
theorem EI(f:A<2 ^ n)(u:B<2 ^ n)(v:n<=100)(h:Q (.bl<|decide (A &&& B=A)) M):Cn ad [jv B,jv A] M Q E:=by
 have c:=gI f;rw[SG];unfold zd;have g:aQ M (jv A)=ap (cG<|aD A):=rfl;have r:bn (jv A) (cG<|aD A)=[]:=rfl;simp only[az,ah,ao];unfold aO
 simp_arith! only[bz,ac,dt,Ua,g,r,bt,Ue,UX,UD,Uv,US]
 refine eK (λ(j:Nat)=>D.int (j:Nat)) (λj=>!decide (j∈aD B)) (λ(j:Nat)=>D.int (j:Nat)) aL (aD A) [] _ (by simp;lia) (λj _ K q=>?_) (λj _ K q=>q) ?_
 .simp_arith! only[al,ah,ac,dt,Ua,iQ,AC]
  exact q
 intro p o;refine bJ o ?_;simp only[bv,ag];refine#[bh (by simp),λl c=>bJ c ?_]
 have e:(((aD A).filter λj=>!decide (j∈aD B)).map λ(j:Nat)=>D.int (j:Nat))=((((aD A).filter λj=>!decide (j∈aD B)).map λ(j:Nat)=>(j:Int))).map D.int:=by rw[Us];rfl
 rw[Uv,e];refine vc (gU _ _) (ak ?_);have i:(((((aD A).filter λj=>!decide (j∈aD B)).map λ(j:Nat)=>(j:Int))).map D.int).isEmpty=decide (A &&& B=A):=by
  rw[Xk,Xk];refine X9.mpr ?_;rw[decide_eq_true_eq,<- I_ f u,List.isEmpty_iff,Wt];simp
 rw[i];exact h
noncomputable def CU(cl:List Nat)(b:Nat):Bool:=(cl.filter λa=>decide (a≠b)&&decide (a &&& b=a)).isEmpty
def Qm(b:Nat):D:=.lst (cG<|aD b)
theorem KR:CU cl b=true↔∀c∈cl,c &&& b=c->c=b:=by
 unfold CU;rw[List.isEmpty_iff,Wt];refine#[λh c e s=>Vn λne=>h c e (by simp[ne,s]),λh c e z=>?_]
 rw[Vw,decide_eq_true_eq,decide_eq_true_eq]at z;exact z.1 (h c e z.2)
theorem L5(c:cl.Nodup):Lst cl (cl.filter<|CU cl):=#[c.sublist Xz,λb=>by rw[Ut,KR]]
theorem si{n:Nat}{cl:List Nat}{p:cp}(i:∀N,ok N)(H:M p=ca)(y:n<=100)(f:∀B∈cl,B<2 ^ n)(I:cl.length<=100):
  ∀(Bs l:List Nat)(c:Option D),(∀B∈Bs,B<2 ^ n)->l.length+Bs.length<=1000->(∀R,DD.nx [ap (.lst<|cl.map jv),ap (.ref p),R] (M.upd p<|.lst<|(l++Bs.filter (CU cl)).map Qm))->iX (af 2) (iY ad EE) DD ok bx (Bs.map jv) [ap (.lst<|cl.map jv),ap (.ref p),c] (M.upd p<|.lst<|l.map Qm)
 |[],l,c,_,_,h=>#[i _,by simpa using h c]
 |b::Bs,l,c,hB,hl,h=>by
  simp only[UB]at hl;have G:=hB b Ux;rw[Ue];refine#[i _,?_];simp only[af,UA];unfold iY
  simp_arith! only[aE,al,ah,ao]
  unfold aO
  simp_arith! only[bz,ac,dt,Ua,aQ,bn,bt,Ue,UX,UD,Uv,US]
  refine eK jv (λa=>decide (a≠b)&&decide (a &&& b=a)) (λ_=>D.int 1) aL cl [] _ (by simp;lia) (λa F K q=>?_) (λ_ _ K q=>q) ?_
  .have d:=NB (f a F) G
   have v:∀z N,dv N (jv z)=jv z:=λ_ _=>rfl
   simp_arith! only[kZ,al,cm,ah,ao,aj,aa,ag,ac,dt,Ua,pO,v,d]
   refine#[Gd,Gd,?_]
   by_cases z:a=b
   .rw[decide_eq_true z,decide_eq_false (by simp[z])] at*
    simpa using q
   .rw[decide_eq_false z]
    rw[decide_eq_true z,Bool.true_and]at q;rw[if_pos (by rfl)]
    exact#[rfl,aH (λ_ _ J=>EI (f a F) G y J) q]
  intro T u;refine bJ u ?_;simp only[bv,ag];refine#[bh (by simp),λU r=>bJ r ?_]
  rw[Uv];have e:∀x:List Nat,(x.map λ_=>D.int 1)=(x.map λ_=>(1:Int)).map D.int:=λx=>by rw[Us];rfl
  rw[e];refine vc (gU _ _) ?_;rw[Xk,Xk];have P:∀g,g++(b::Bs).filter (CU cl)=(if CU cl b=true then g++[b] else g)++Bs.filter (CU cl):=λg=>by
   rw[UC]
   split<;>simp
  rw[P]at h;show onB (D.bl<|CU cl b) _;rw[uF];cases e:CU cl b with
  |true=>
   rw[e,if_pos rfl]at h;rw[if_pos rfl];unfold sQ
   simp_arith! only[a_,iS,bi,ao,eJ,aa,ag,ac,dt,Ua]
   have O:aQ (M.upd p<|.lst<|l.map Qm) (jv b)=ap (cG<|aD b):=rfl
   simp_arith! only[O,cJ,Mem.upd_same,true_and,vd]
   intro S o;refine bJ o ?_
   simp_arith! only[bj,Mem.upd_same,Mem.upd_upd]
   refine#[fH (by simp;lia),?_]
   have L:l.map Qm++[D.lst (cG<|aD b)]=(l++[b]).map Qm:=by rw[VW];rfl
   rw[L];exact si i H y f I Bs (l++[b]) _ (λA j=>hB A (Uj _ j)) (by simp;lia) h
  |false=>
   rw[e,if_neg (by simp)]at h
   rw[if_neg (by simp)]
   simp only[aB];exact si i H y f I Bs l _ (λA j=>hB A (Uj _ j)) (by lia) h
theorem pq(o:n<=100)(c:∀B∈cl,B<2 ^ n)(q:cl.Nodup)(u:cl.length<64)(h:∀l,Lst cl l->∀N p,Ext M N->N p=ca->Q (.ref p) (N.upd p<|.lst ((kR dh<|l.map nI).map λk=>D.lst (k.map D.int)))):Bt ad [.lst (cl.map jv)] M Q E:=by
 rw[Rz];unfold zc;generalize f:lY ad (aG E)=K3;simp only[ai,aq,bv,ag];refine#[bh (by simp),λp i=>?_]
 simp only[af,UA];rw[<- f];unfold lY
 simp_arith! only[ai,cW,bz,ac,dt,Ua,aQ,bn]
 refine si (λ_=>aL) i o c (by lia) cl [] _ c (by simp;lia) λr=>?_
 simp_arith! only[az,bi,aa,ag,ac,dt,Ua,Uv]
 have len:(cl.filter<|CU cl).length<=cl.length:=UM _ _;have e:(cl.filter<|CU cl).map Qm=((cl.filter<|CU cl).map nI).map λk=>D.lst (k.map D.int):=by
  rw[Us];exact UE λB _=>by show Qm B=D.lst ((nI B).map D.int);rw[SS];rfl
 rw[e];refine kT (ks:=(cl.filter<|CU cl).map nI) (by simp_arith! only[cC,Mem.upd_same]) (by simp;lia) λj g=>ak (h _ (L5 q) _ j (Ext.new i) g)
theorem xm{ks:aa9}(o:C.Ok)(H:SOk C s)(I:SOk C t)(O:ks.length<=1000)(G:∀k∈ks,k.length<=1000/\∀i∈k,∃j:Nat,i=(j:Int)/\j<(aK C s t).length)(h:∀p,M p=ca->Q (.ref p) (M.upd p<|.lst<|(ks.map<|ue<|aK C s t).map D.lst)):BX ad [br C s t,.lst (ks.map λk=>D.lst (k.map D.int))] M Q E:=by
 rw[Tx];unfold Cw;generalize f:mh ad (aG E)=K1
 simp_arith! only[ai,aq,ao,aj,aa,ag,ac,dt]
 refine#[rfl,am λQ' E' y _=>gP o H I λp F=>y _ _ (bJ F ?_)];simp only[af,UA];rw[<- f];unfold mh
 simp_arith! only[az,aO,bz,ac,dt,Ua,aQ,bn,bt,Ue,UX,UD,Uv,US]
 refine eK (λk=>D.lst (k.map D.int)) (λ_=>true) (λk=>D.lst (ue (aK C s t) k)) aL ks [] _ (by simp;lia) (λ_ _ K q=>?_) (λk c K q=>?_) ?_
 .exact q
 .obtain⟨J,v⟩:=G k c
  simp_arith! only[ao,aO,bz,ac,dt,Ua,aQ,bn,bt,Ue,UX,UD,Uv,US]
  refine eK D.int (λ_=>true) (λi=>kD (((aK C s t)[i.toNat]?).getD<|.inl 0)) aL k [] _ (by simp;lia) (λ_ _ K q=>by exact q) (λi u K q=>?_) ?_
  .obtain⟨j,rfl,z⟩:=v i u
   have e:fJ ((aK C s t).map kD) ((j:Nat):Int)=ap (kD<|((aK C s t)[j]?).getD<|.inl 0):=by
    rw[bG (by lia),UL,Uo,Ud z];rfl
   simp_arith! only[ah,ac,dt,Ua,av,aQ,e]
   simpa using q
  intro L r;refine bJ r ?_;rw[WN.mpr λ_ _=>rfl];exact q
 intro x g;rw[WN.mpr λ_ _=>rfl];have:=h x g;rw[Us]at this;exact ak this
theorem Fe(L:M p=ap (.lst xs))(H:xs.length<=100000/\∀x∈xs,IB n x)(h:Q (.bl true) M):Zs ad (n+2) [.ref p,.lst xs] M Q E:=by
 obtain⟨O,H⟩:=H;simp![km,gG,t1,t2,t3,t4,t5,L,↓aO];refine bM (λv f U M'=>∃(c:List D)(j:Nat)(o g:Option D),v=c.map _/\(∀z∈c,IB n z)/\c.length+j<=100000/\f=UI j (.bl true)/\U=[o,g]/\M'=M) (λ_ _ _ _ ⟨_,_,_,_,_,_,_,_,_,e⟩=>by intro r K;simp[bn]at K;simp_all) ?_ ?_ ?_ _ _ _ _ #[xs,0,_,_,jf xs,H,by lia,rfl,rfl,rfl]
 .rintro f U M' ⟨c,j,o,g,i,G,F,rfl,rfl,rfl⟩ p u
  simp![Mem.upd_del,au u,dZ,j5];exact ak h
 .rintro y v f U M' ⟨c,j,o,g,i,G,F,rfl,rfl,rfl⟩ N J _
  cases c with
  |nil=>simp at i
  |cons z c=>
   obtain⟨rfl,rfl⟩:=i;simp at F;simp![];exact aH (λQ' E' q=>iK n z M' Q' E' (by simp_all) q) (J _ _ _ (by simp;exact fH (by lia)) #[c,j+1,_,_,rfl,λw I=>G w (Uj _ I),by lia,by rw[WG],rfl,rfl])
 rintro y v f U M' ⟨c,j,o,g,i,G,F,rfl,rfl,rfl⟩
 simp;exact fH (by lia)
theorem Ge:∀ps:List (cp×List D),qR (pF ps) ((ps.map (·.2)).map D.lst)=ps.map λz=>D.tup [.ref z.1,.lst z.2]
 |[]=>rfl
 |z::ps=>by
  have:=Ge ps;simp only[qR,pF]at this ⊢;simpa using this
theorem nO(w:Told N M p W ps)(T:W.length<=1000/\∀xs∈W,xs.length<=1000/\∀x∈xs,IB n x)(h:Q (.bl true) M):Zs ad (n+3) [.ref p,.lst (W.map D.lst)] M Q E:=by
 obtain⟨I,own,no,rfl,ext⟩:=w;obtain⟨R,S⟩:=T;rw[Uc]at R;have P:(pF ps).length=ps.length:=by unfold pF;rw[Uc]
 simp![km,gG,i6,i7,i8,i9,i10,t1,t2,t3,t4,t5,I,↓aO,P,Uc];rw[if_neg (by decide),if_neg (by decide),if_neg (by simp)]
 refine bM (λF f U M'=>∃(c:List (cp×List D))(j:Nat)(u i:Option D),F=c.map (λz=>D.tup [.ref z.1,.lst z.2])/\(∀z∈c,z∈ps)/\c.length+j<=100000/\f=UI j (.bl true)/\U=[u,i]/\M'=M) (λ_ _ _ _ ⟨_,_,_,_,_,_,_,_,_,e⟩=>by subst e;intro r J;simp only[bn,U9,UD,Uv,Uk,V6,or_false,vd,L4,LA,QP,mz,zy,z9,uF]at J;subst J;exact I) ?_ ?_ ?_ _ _ _ _ #[ps,0,ca,ca,Ge ps,λ_ z=>z,by lia,rfl,rfl,rfl]
 .rintro f U M' ⟨c,j,u,i,g,o,G,rfl,rfl,rfl⟩ p v
  simp![Mem.upd_del,au v,dZ,j5];exact ak h
 .rintro y F f U M' ⟨c,j,u,i,g,o,G,rfl,rfl,rfl⟩ N O _
  cases c with
  |nil=>simp at g
  |cons z c=>
   simp only[Ue,Vi]at g;obtain⟨rfl,rfl⟩:=g;simp only[UB]at G;simp![];have H:=o z Ux;obtain⟨X,K⟩:=S z.2 (Ul.mpr #[z,H,rfl]);refine aH (d:=.bl true) (λQ' E' q=>Fe (n:=n) (own z H) #[by lia,K] q) ?_
   simp![];exact O _ _ _ (by simp;exact fH (by lia)) #[c,j+1,_,_,rfl,λw L=>o w (Uj _ L),by lia,by rw[WG],rfl,rfl]
 .rintro y F f U M' ⟨c,j,u,i,g,o,G,rfl,rfl,rfl⟩
  simp;exact fH (by lia)
noncomputable def Dk(w:Str)(v:Nat->Str)(n:Nat):List Nat:=(Uu<|2 ^ n).filter λB=>decide (v B=w)
theorem ver_in:B∈Dk w v n↔B<2 ^ n/\v B=w:=by unfold Dk;rw[Ut,UJ,decide_eq_true_eq]
theorem ver_nd:(Dk w v n).Nodup:=Xi.sublist Xz
theorem Ku(c:n<=5):(Dk w v n).length<=32:=Uw (UM _ _) (by rw[Xa];exact(UP (by decide) c:2 ^ n<=2 ^ 5))
theorem IQ:(l.map ii).map He=l.map jv:=by rw[Us];exact UE λB _=>L0
theorem Li(c:U[i]?=ap (ap<|RC v n))(h:R #[((Uu<|2 ^ n).map ii).map He,[]] M):Aj (ac i) U M R:=by
 simp_arith! only[Aj,ac,c]
 exact h
theorem OI(h:∀i,A.testBit i=true->B.testBit i=true):A &&& B=A:=Xx λi=>by
 rw[Yf];cases e:A.testBit i with
 |false=>simp
 |true=>rw[h i e];rfl
theorem FA(p:l.Perm c):kR dh (l.map nI)=kR dh (c.map nI):=xi dh _ _ (jn dh _) (jn dh _) ((dU dh _).trans<|(p.map nI).trans (dU dh _).symm)
theorem Qb(e:k∈kR dh (l.map nI)):∃B∈l,k=nI B:=by
 obtain⟨B,c,rfl⟩:=Ul.mp ((dU dh _).mem_iff.mp e);exact#[B,c,rfl]
theorem yY:(kR dh<|l.map nI).length=l.length:=by rw[(dU dh _).length_eq,Uc]
theorem Em(h:n<=5)(hl:∀B∈l,B<2 ^ n)(g:k∈kR dh (l.map nI)):k.length<=1000/\∀i∈k,∃j:Nat,i=(j:Int)/\j<n:=by
 obtain⟨B,c,rfl⟩:=Qb g;have:=gI (hl B c);refine#[by rw[OX];omega,λi e=>?_]
 obtain⟨j,f,rfl⟩:=Ul.mp e;exact#[j,rfl,((bO<|hl B c).mp f).1]
theorem Om(h:k.length<=1000):(ue us k).length<=1000/\∀x∈ue us k,IB m x:=by
 unfold ue;refine#[by rw[Uc];exact h,λx c=>?_]
 obtain⟨i,_,rfl⟩:=Ul.mp c;cases (us[i.toNat]?).getD (.inl 0)<;>cases m<;>trivial
theorem w_ok(f:n<=5)(g:∀B∈l,B<2 ^ n)(h:l.length<=1000):((kR dh<|l.map nI).map<|ue us).length<=1000/\∀xs∈(kR dh<|l.map nI).map (ue us),xs.length<=1000/\∀x∈xs,IB m x:=by
 refine#[by rw[Uc,yY];exact h,λxs c=>?_]
 obtain⟨k,e,rfl⟩:=Ul.mp c;exact Om (Em f g e).1
theorem JO(h:Lst P l)(nd:P.Nodup):l.length<=P.length:=by
 have:l.Perm (P.filter λb=>decide (b∈l)):=(Yl h.nd<|nd.sublist Xz).mpr λb=>by
  rw[Ut,decide_eq_true_eq];exact#[λz=>#[((h.mem b).mp z).1,z],λz=>z.2]
 rw[this.length_eq];exact UM _ _
structure Bent(N:Mem)(p:cp)(ps:List (cp×List D))(k:Nat):Prop where
 top:N p=ap (.lst<|pF ps)
 no:∀z∈ps,z.1≠p
 own:∀z∈ps,∃xs,N z.1=ap (.lst xs)/\xs.length+k<=3000
theorem Bent.put(h:Bent N p ps (k+1))(o:z∈ps)(e:N z.1=ap (.lst xs))(q:ys.length<=xs.length+1):Bent (N.upd z.1<|.lst ys) p ps k:=by
 refine#[by rw[ae (h.no z o).symm];exact h.top,h.no,λw i=>?_]
 by_cases c:w.1=z.1
 .obtain⟨f,g,j⟩:=h.own w i
  rw[c,e]at g;cases g;exact#[ys,by rw[c,Mem.upd_same],by omega]
 .obtain⟨f,g,j⟩:=h.own w i
  exact#[f,by rw[ae c];exact g,by omega]
noncomputable def cB(n B:Nat):Nat:=2 ^ n-(B+1)
section
variable{t:Sta}{b:Int}
theorem HP:cB n B<2 ^ n:=by unfold cB;have:=Ye n;lia
theorem rO(h:B<2 ^ n):(cB n B).testBit i=(decide (i<n)&&!B.testBit i):=Nat.testBit_two_pow_sub_succ h i
theorem GX(h:B<2 ^ n):cB n (cB n B)=B:=by unfold cB;lia
theorem Kx(h:B<2 ^ n):(Uu n).filter (λk=>!decide (k∈aD B))=aD (cB n B):=by
 rw[cZ HP];refine V1 λi c=>?_;have c:=UJ.mp c;rw[rO h,decide_eq_true c,Bool.true_and];congr 1;have:=bO (i:=i) h;cases e:B.testBit i with
 |true=>exact decide_eq_true (this.mpr #[c,e])
 |false=>exact decide_eq_false λz=>by rw[(this.mp z).2]at e;cases e
def iU(v:Nat->Str)(n:Nat):List Nat:=(Dk "sound" v n).map (cB n)
theorem AH(h:R∈iU v n):R<2 ^ n:=by obtain⟨B,_,rfl⟩:=Ul.mp h;exact HP
theorem zQ:(iU v n).Nodup:=XM.mpr (ver_nd.imp_of_mem λ{x y} c f h e=>h (by rw[<- GX (ver_in.mp c).1,e,GX (ver_in.mp f).1]))
theorem vy(c:n<=5):(iU v n).length<=32:=by unfold iU;rw[Uc];exact Ku c
theorem FW{l o:List Nat}(h:Lst ((vC C s t a b).map λx=>x.s) l)(h':Lst (iU (vB C s t a b) (aK C s t).length) o):kR dh (l.map nI)=kR dh (o.map nI):=by
 refine FA (h.same h' (λy u=>?_) λR hR=>?_)
 .obtain⟨x,j,rfl⟩:=Ul.mp u
  obtain⟨g,r⟩:=Ut.mp j;have so:=(lK g).s;refine Ul.mpr #[cB _ x.s,ver_in.mpr #[HP,?_],GX so];rw[<- KS g #[λi c=>?_,λi c=>?_]]
  .exact of_decide_eq_true r
  .have e:i<(aK C s t).length:=Vn λz=>by
    rw[Vt (Ur (lK g).f<|UP (by decide)<|by lia)]at c
    cases c
   rw[rO so,EF g i c,decide_eq_true e];rfl
  .rw[rO so,c]
   simp
 .obtain⟨B,I,rfl⟩:=Ul.mp hR
  obtain⟨H,F⟩:=ver_in.mp I;obtain⟨x,j,G,q⟩:=Qh (C:=C) (s:=s) (t:=t) (a:=a) (b:=b) (B:=B);refine#[x.s,Ul.mpr #[x,Ut.mpr #[j,decide_eq_true<|by rw[q,F]],rfl],OI λi c=>?_]
  have e:i<(aK C s t).length:=Vn λz=>by
   rw[Vt (Ur (lK j).s<|UP (by decide)<|by lia)]at c
   cases c
  rw[rO H,G.s i c,decide_eq_true e];rfl
end
theorem D_(ad:Ad)(ns:aa_)(Z:ns.length<=63):Fn ad [.ml (ns.map D.int)] (λ_=>ca) (λd _=>d=.bl true) iD:=by
 have fi':∀{v:Int}{M:Mem}{Q:DK},Q (.int v) M->frz (.int v) M Q:=λz=>z;have fb':∀{v:Bool}{M:Mem}{Q:DK},Q (.bl v) M->frz (.bl v) M Q:=λz=>z;rw[Rq];unfold zn;generalize S:j7 ad (aG iD)=K10
 simp_arith! only[ai,aq,aj,aa,ag,ac,dt]
 refine#[rfl,am λQ' E' f _=>Ek λk M1 hk _=>f _ _ ?_];simp only[af,UA];rw[<- S];unfold j7;generalize hK9:lP ad (aG iD)=K9
 simp_arith! only[ai,aq,ao,aj,aa,ag,ah,ac,dC,dt,Ua]
 refine#[rfl,aN hk (by decide) (by decide) λr M2 a2 b2 d2=>fi' ?_]
 simp_arith! only[ba]
 obtain⟨u,T,f1,f5⟩:∃u:Nat,1+r=(u:Int)/\1<=u/\u<=5:=#[(1+r).toNat,by lia,by lia,by lia]
 rw[T];refine#[rfl,am λQ' E' f _=>Dq f1 f5 d2.1 λC s t M3 c q3=>f _ _ (FP ?_)];obtain⟨a,b,ea,eb,O⟩:=c.two;have hu:=c.un;have J:(aK C s t).length<=5:=by lia
 simp only[af,UA];rw[<- hK9];unfold lP;generalize hK8:ms ad (aG iD)=K8
 simp_arith! only[ai,aq,GP,aj,aa,ag,ac,dt,Ua]
 refine#[rfl,am λQ' E' f _=>pz c.o c.hs c.ht ea eb (by lia) O λp H=>f _ _ (Ka H ?_)]
 have same:=@FW C a s t b;have ask:=λ(L:Nat)(M:Mem)(Q:DK)(E:DX)=>iI (L:=L) (ad:=ad) (M:=M) (Q:=Q) (E:=E) c.o c.hs c.ht ea eb O J;generalize vB C s t a b=v at *;simp only[af,UA];rw[<- hK8];unfold ms;generalize hK7:m9 ad (aG iD)=K7
 simp_arith! only[ai,aq,bi,ao,aj,aa,ag,ac,dt,Ua]
 refine#[rfl,am λQ' E' f _=>gP c.o c.hs c.ht λp H=>f _ _ (bJ H ?_)]
 simp_arith! only[cu,aQ,Uc,af,UA,mz,vd]
 rw[<- hK7];unfold m9;generalize hK6:lh ad (aG iD)=K6;have p5:2 ^ (aK C s t).length<=2 ^ 5:=UP (by decide) J
 simp only[ai,cq,dj];unfold aO;refine Li (v:=v) (n:=(aK C s t).length) rfl ?_;rw[IQ]
 simp_arith! only[bt,Ue,UX,UD,Uv,dt,Ua,US]
 refine eK jv (λB=>decide (v B=("sound":Str))) (λB=>jv (cB (aK C s t).length B)) aL _ [] _ (by simp;lia) (λB G K q=>?_) (λB G K q=>?_) ?_
 .simp_arith! only[al,ah,ac,dC,dt,Ua,bt,Ue,UX,UD,Uv,US]
  refine Rf (UJ.mp G) ?_;simp only[bW,dv,cP,aR];exact#[trivial,trivial,q]
 .have G:=UJ.mp G
  simp_arith! only[bi,ao,dR,aa,ag,ac,dt,Ua,bt,Ue,UX,UD,Uv,US,mz,z9]
  refine#[by lia,by lia,?_]
  have er:cF 0 (((aK C s t).length:Nat):Int).toNat=(Uu (aK C s t).length).map λ(i:Nat)=>D.int (i:Nat):=by
   unfold cF;rw[UL];exact UE λi _=>by rw[Int.zero_add]
  rw[er];refine eK (λ(i:Nat)=>D.int (i:Nat)) (λi=>!decide (i∈aD B)) (λ(i:Nat)=>D.int (i:Nat)) aL _ [] _ (by simp;lia) (λi _ K q=>?_) (λi _ K q=>?_) ?_
  .simp_arith! only[al,ah,ac,dt,Ua,iQ,AC]
   exact q
  .exact q
  intro p2 hp2;refine bJ hp2 ?_;rw[Uv,Kx G];exact q
 intro X hp1;rw[Uv]
 simp_arith! only[eG,UA,dt,Ua,Mem.upd_same,Mem.upd_del,au hp1]
 have er:((Uu<|2 ^ (aK C s t).length).filter λB=>decide (v B=("sound":Str))).map (λB=>jv (cB (aK C s t).length B))=(iU v (aK C s t).length).map jv:=by unfold iU Dk;rw[Us];rfl
 rw[er];rw[<- hK6];unfold lh;generalize hK5:lG ad (aG iD)=K5
 simp_arith! only[ai,aq,ao,aj,aa,ag,ac,dt,Ua]
 refine#[rfl,am λQ' E' f _=>pq (cl:=iU v (aK C s t).length) (n:=(aK C s t).length) (by lia) (λ_ h=>AH h) zQ (by have:=vy (v:=v) J;lia) λl Z N p ex H=>f _ _ (bJ H ?_)]
 have ll:l.length<=32:=Uw (JO Z zQ) (vy J);have P:∀B∈l,B<2 ^ (aK C s t).length:=λB G=>AH ((Z.mem B).mp G).1;refine#[rfl,am λQ' E' f _=>xm c.o c.hs c.ht (by rw[yY];lia) (λk hk=>Em J P hk) λp H=>f _ _ (bJ H ?_)]
 have go:∀(L:Nat)(M:Mem)(Q:DK)(E:DX),64<=L->L<=10000->(∀N p g,Told M N p ((kR dh<|l.map nI).map<|ue<|aK C s t) g->Q (.ref p) N)->Dx ad [br C s t,.int (L:Nat)] M Q E:=λL M Q E h1 h2 h=>ask L M Q E h1 h2 λl' hl' N p g w=>h N p g (by rw[same hl' Z]at w;exact w)
 have ok:=w_ok (us:=aK C s t) (m:=21) J P (by lia)
 generalize (kR dh<|l.map nI).map (ue<|aK C s t)=W at *;simp only[af,UA];rw[<- hK5];unfold lG;generalize hK4:lc ad (aG iD)=K4
 simp_arith! only[ai,aq,xR,aa,ag,ac,dt,Ua]
 refine#[rfl,am λQ' E' f _=>go 500 _ _ _ (by decide) (by decide) λN1 X g w=>f _ _ ?_]
 simp only[af,UA];rw[<- hK4];unfold lc;generalize hK3:lb ad (aG iD)=K3
 simp_arith! only[ai,aE,fU,cm,ao,aj,aa,ag,ac,dt,Ua]
 refine#[rfl,aH (λ_ _ q=>nO (n:=21) w ok q)<|fb' ?_]
 simp_arith! only[E7,YD]
 rw[if_neg (by simp)]
 simp only[aB];rw[<- hK3];unfold lb;generalize hK2:m5 ad (aG iD)=K2;have pl:g.length<=1000:=by have:=congrArg VO w.w;rw[Uc]at this;rw[this];exact ok.1
 have R:Bent N1 X g g.length:=#[w.top,w.no,λz hz=>#[z.2,w.own z hz,by have:=(ok.2 z.2<|by rw[<- w.w];exact Ul.mpr #[z,hz,rfl]).1;lia]]
 simp_arith! only[ai,cW,bz,ac,dt,Ua,aQ,w.top]
 refine cw (λys U N=>∃(j:List (cp×List D))(Y:Option D),ys=pF j/\(∀z∈j,z∈g)/\Bent N X g j.length/\U=[ap (.ml<|ns.map D.int),ap (.ref k.p),ap (br C s t),ap (RC v (aK C s t).length),ap (.int ((aK C s t).length:Nat)),ap (.lst<|(iU v (aK C s t).length).map jv),ap (.lst<|W.map D.lst),ap (.ref X),Y]) ?_ ?_ ?_ _ _ _ #[g,_,rfl,λ_ z=>z,R,rfl]
 .rintro ys U N ⟨j,Y,_,_,I,_⟩ r hr
  simp only[bn,Uk,V6,or_false,vd,L4,LA,QP,mz,zy,z9,uF]at hr;subst hr;exact I.top
 .rintro U N ⟨j,Y,e,_,I,rfl⟩
  rw[<- hK2];unfold m5;generalize hK1:lQ ad (aG iD)=K1
  simp_arith! only[ai,a_,iS,aa,ag,ac,dt,Ua,cJ,I.top,true_and,ju]
  rw[<- hK1];unfold lQ az
  simp_arith! only[aj,aa,ag,ac,dC,dt,Ua]
  refine#[rfl,am λQ' E' f _=>go 64 _ _ _ (by decide) (by decide) λN2 p2 ps2 w2=>f _ _ ?_]
  refine#[rfl,aH (λ_ _ q=>nO (n:=21) w2 ok q) ?_];dsimp only;exact ak rfl
 .rintro x xs U N ⟨j,Y,e,F,I,rfl⟩ D' hnx _ _ _
  cases j with
  |nil=>simp[pF]at e
  |cons z j=>
   simp only[pF,Ue,Vi]at e;obtain⟨rfl,rfl⟩:=e;obtain⟨xs,ex,lx⟩:=I.own z (F z Ux);simp only[UB]at I lx;simp only[af,UA]
   simp_arith! only[a_,iS,aa,ag,dC,ac,dt,Ua,cJ,ex,true_and,tZ]
   exact hnx _ _ #[j,_,rfl,λy hy=>F y (Uj _ hy),I.put (F z Ux) ex (by simp),rfl]
end _T
namespace _T
open PySem _2 _3
def Hu(K:Uh):Sp:=λb H Q _=>∃(a:cp)(ns:aa_),b=[.ref a]/\GR H/\SqL K H a (ns.map V.int)/\ns.length<=63/\∀H',Q (.bl true) H'
theorem O3{l:W.OpenLaw}{w:fx}{K:Uh}{h:g3}{mg:abg}{fa C_Ends C_Going C_Outcome C_Walk C_Dry C_NoCase C_TooMany f1 f2 f3 f4 f5 f6 f7 f8 f9 R f11 f12 f13 f14 f15 f16 f17 f18 f19 f20 f21 f22 f23 Z f25 f26 f27 f28 f29 f30 f31 f32 f33 f34 f35 f36 f37 f38 f39 f40 f41 f42 f43 f44 f45 f46 f47 f48 f49 f50 f51 f52 f53 f54 f55 f56 f57 f58 f59 f60 f61 f62 f63 f64 f65 f66 f67 f68 f69:cp}(X:K.In h)(G:h.Ns eC mg)(hfa:mg "law"=ap (.ref fa))
  {e1 e2 e3 e4 e5 e6 e7 e8 e9 e10 e11 e12 e13 e14 e15 e16 e17 S e19 e20 e21 e22 e23 e24 e25 e26 e27 e28 e29 e30 e31 e32 e33 e34 e35 e36 e37 e38 e39 e40 e41 e42 e43 e44 e45 e46 e47 e48 e49 Y e51 e52 e53 e54 e55 e56 e57 e58 U e60 e61 e62 e63 e64 e65 e66 e67 e68 e69:fy}
  (u:VA K eC "Ends"=ap (ap<|.ref C_Ends))
  (n:VA K eC "Going"=ap (ap<|.ref C_Going))
  (i:VA K eC "Outcome"=ap (ap<|.ref C_Outcome))
  (p:VA K eC "Walk"=ap (ap<|.ref C_Walk))
  (z:VA K eC "Dry"=ap (ap<|.ref C_Dry))
  (m:VA K eC "NoCase"=ap (ap<|.ref C_NoCase))
  (g:VA K eC "TooMany"=ap (ap<|.ref C_TooMany))
  (l1:Mf K C_Walk "__init__" "Walk.__init__" Nc f1 e1)
  (l2:Mf K C_Walk "note_step" "Walk.note_step" T5 f2 e2)
  (l3:Mf K C_Walk "look" "Walk.look" MV f3 e3)
  (l4:Nf K "run" Nq f4 e4)
  (l5:Nf K "mark" N7 f5 e5)
  (l6:Nf K "do_rows" Nt f6 e6)
  (l7:Af K "do_row_runs" "do_row" LW f7 e7)
  (l8:Nf K "do_if" LV f8 e8)
  (l9:Nf K "do_again" N9 f9 e9)
  (l10:Nf K "number_of" LJ R e10)
  (l11:Nf K "piece_read" MG f11 e11)
  (l12:Nf K "joined" LY f12 e12)
  (l13:Nf K "all_things" LN f13 e13)
  (l14:Nf K "in_order" Me f14 e14)
  (l15:Nf K "number_in" Mz f15 e15)
  (l16:Nf K "names_read" MF f16 e16)
  (l17:Nf K "unlike" LZ f17 e17)
  (l18:Nf K "marks" Ms f18 S)
  (l19:Nf K "unlike_of" Mo f19 e19)
  (l20:Nf K "verdict_of" Nr f20 e20)
  (l21:Mf K C_Going "__init__" "Going.__init__" T4 f21 e21)
  (l22:Mf K C_Going "settled" "Going.settled" SQ f22 e22)
  (l23:Mf K C_Ends "__init__" "Ends.__init__" Sc f23 e23)
  (l24:Mf K C_Ends "one_more" "Ends.one_more" RN Z e24)
  (l25:Nf K "start" N0 f25 e25)
  (l26:Nf K "put_ahead" N8 f26 e26)
  (l27:Nf K "go_on" Mb f27 e27)
  (l28:Nf K "asked_by" Nw f28 e28)
  (l29:Af K "do_row_trees" "do_row" Mr f29 e29)
  (l30:Nf K "mark_of" MX f30 e30)
  (l31:Nf K "both_ways" Nk f31 e31)
  (l32:NV K "tree" Mh f32 e32 (500))
  (l33:Nf K "grown" LO f33 e33)
  (l34:Mf K C_Outcome "__init__" "Outcome.__init__" RZ f34 e34)
  (l35:Nf K "outcomes" ME f35 e35)
  (l36:Nf K "numbers_of" MH f36 e36)
  (l37:Nf K "mix_of" No f37 e37)
  (l38:NV K "least_remedies" RV f38 e38 (500))
  (l39:Nf K "least_of" LP f39 e39)
  (l40:Nf K "mixes_in_order" RB f40 e40)
  (l41:Nf K "_law_stirred" LL f41 e41)
  (l42:Nf K "_law_pot" L_ f42 e42)
  (l43:Nf K "_law_draw" Md f43 e43)
  (l44:Nf K "_law_names" LG f44 e44)
  (l45:Nf K "_law_row" Mq f45 e45)
  (l46:Nf K "_law_block" Mw f46 e46)
  (l47:Nf K "_law_rows" LR f47 e47)
  (l48:Nf K "_law_plan" MJ f48 e48)
  (l49:Nf K "_law_stand" Mp f49 e49)
  (l50:Nf K "_law_becomes" Nb f50 Y)
  (l51:Nf K "_law_stepped" Nj f51 e51)
  (l52:Nf K "_law_rounds" Na f52 e52)
  (l53:Nf K "_law_done" MY f53 e53)
  (l54:Nf K "_law_run" MW f54 e54)
  (l55:Nf K "_law_flat" Nu f55 e55)
  (l56:Nf K "_law_marks" LM f56 e56)
  (l57:Nf K "_law_other" MZ f57 e57)
  (l58:Nf K "_law_by_name" N5 f58 e58)
  (l59:Nf K "_law_by_piece" Sm f59 U)
  (l60:Nf K "_law_case" Nv f60 e60)
  (l61:Nf K "_law_things" MM f61 e61)
  (l62:Nf K "_law_mixed" Mm f62 e62)
  (l63:Nf K "_law_subsets" LC f63 e63)
  (l64:Nf K "_law_verdicts" Rh f64 e64)
  (l65:Nf K "_law_has" LU f65 e65)
  (l66:Nf K "_law_least" Mj f66 e66)
  (l67:Nf K "_law_told" M_ f67 e67)
  (l68:Nf K "_law_alike" Mg f68 e68)
  (N:Nf K "law" kt f69 e69)
  (aab:Y7 K C_Dry [.type "ValueError",.type "Exception",.type "BaseException",.type "object"] "ValueError.__new__"=true)
  (ZR:Y7 K C_NoCase [.type "ValueError",.type "Exception",.type "BaseException",.type "object"] "ValueError.__new__"=true)
  (ZQ:Y7 K C_TooMany [.type "ValueError",.type "Exception",.type "BaseException",.type "object"] "ValueError.__new__"=true)
  (ZZ:WH K C_Ends X1=true)
  (Z0:WL K C_Ends=true)
  (Z1:Xg K C_Ends=true)
  (Z2:Va K (.ref C_Ends) "__setattr__"=ap (ap<|.builtin "object.__setattr__"))
  (Z3:Xp K C_Ends=true)
  (Z4:VB K (.ref C_Ends)=true)
  (ZT:WH K C_Going X1=true)
  (ZU:WL K C_Going=true)
  (ZV:Xg K C_Going=true)
  (ZW:Va K (.ref C_Going) "__setattr__"=ap (ap<|.builtin "object.__setattr__"))
  (ZX:Xp K C_Going=true)
  (ZY:VB K (.ref C_Going)=true)
  (ZK:WH K C_Outcome X1=true)
  (ZL:WL K C_Outcome=true)
  (ZM:Xg K C_Outcome=true)
  (ZN:Va K (.ref C_Outcome) "__setattr__"=ap (ap<|.builtin "object.__setattr__"))
  (ZO:Xp K C_Outcome=true)
  (ZP:VB K (.ref C_Outcome)=true)
  (Z5:WH K C_Walk X1=true)
  (Z6:WL K C_Walk=true)
  (Z7:Xg K C_Walk=true)
  (Z8:Va K (.ref C_Walk) "__setattr__"=ap (ap<|.builtin "object.__setattr__"))
  (Z9:Xp K C_Walk=true)
  (aaa:VB K (.ref C_Walk)=true)
  (ZD:Va K (.ref C_Ends) "count"=ap ca)
  (ZE:Va K (.ref C_Ends) "limit"=ap ca)
  (ZF:Va K (.ref C_Going) "left"=ap ca)
  (Zx:Va K (.ref C_Going) "numbers"=ap ca)
  (Zz:Va K (.ref C_Going) "pieces"=ap ca)
  (ZG:Va K (.ref C_Going) "todo"=ap ca)
  (Zu:Va K (.ref C_Going) "unsettled"=ap ca)
  (Zw:Va K (.ref C_Outcome) "faulty"=ap ca)
  (Zy:Va K (.ref C_Outcome) "sound"=ap ca)
  (Zv:Va K (.ref C_Outcome) "verdict"=ap ca)
  (ZI:Va K (.ref C_Walk) "most"=ap ca)
  (ZA:Va K (.ref C_Walk) "numbers"=ap ca)
  (ZC:Va K (.ref C_Walk) "pieces"=ap ca)
  (ZJ:Va K (.ref C_Walk) "plan"=ap ca)
  (ZH:Va K (.ref C_Walk) "steps"=ap ca)
  (B:VA K eC "all"=ap ca)
  (P:VA K eC "any"=ap ca)
  (x:VA K eC "bool"=ap ca)
  (y:VA K eC "dict"=ap ca)
  (c:VA K eC "enumerate"=ap ca)
  (M:VA K eC "int"=ap ca)
  (b:VA K eC "isinstance"=ap ca)
  (J:VA K eC "len"=ap ca)
  (A:VA K eC "list"=ap ca)
  (L:VA K eC "max"=ap ca)
  (O:VA K eC "min"=ap ca)
  (r:VA K eC "range"=ap ca)
  (f:VA K eC "reversed"=ap ca)
  (o:VA K eC "sorted"=ap ca)
  (I:VA K eC "str"=ap ca)
  (q:VA K eC "tuple"=ap ca)
  (C:VA K eC "zip"=ap ca):
  ∃fd:fy,(∀(s:cb)(v:ay),aas s fd #[[v],[]] [("script",v)])/\∀j:g3,K.In j->j.Ns eC mg->FnOk l.prog w K mg j CX0 33 fa fd ["script"] (Hu K):=by
 have e:=hfa.symm.trans (WZ X G N.a);cases e;obtain⟨_,_,kV,dc,pm,an,cd,ct,_,rfl,_⟩:=N.F.ex;refine#[WI "law" "law" (cg kt) (bw kt) (aP kt) .none kV dc pm an cd ct,λs v=>.of_eq rfl,λj _ _=>?_]
 let ad:Ad:=#[C_Ends,C_Going,C_Outcome,C_Walk,C_Dry,C_NoCase,C_TooMany,f1,f2,f3,f4,f5,f6,f7,f8,f9,R,f11,f12,f13,f14,f15,f16,f17,f18,f19,f20,f21,f22,f23,Z,f25,f26,f27,f28,f29,f30,f31,f32,f33,f34,f35,f36,f37,f38,f39,f40,f41,f42,f43,f44,f45,f46,f47,f48,f49,f50,f51,f52,f53,f54,f55,f56,f57,f58,f59,f60,f61,f62,f63,f64,f65,f66,f67,f68,fa,e1,e2,e3,e4,e5,e6,e7,e8,e9,e10,e11,e12,e13,e14,e15,e16,e17,S,e19,e20,e21,e22,e23,e24,e25,e26,e27,e28,e29,e30,e31,e32,e33,e34,e35,e36,e37,e38,e39,e40,e41,e42,e43,e44,e45,e46,e47,e48,e49,Y,e51,e52,e53,e54,e55,e56,e57,e58,U,e60,e61,e62,e63,e64,e65,e66,e67,e68,WI "law" "law" (cg kt) (bw kt) (aP kt) .none kV dc pm an cd ct]
 have T:En l.prog w K mg j ad:=#[#[ZZ,Z0,Z1,Z2],
  WZ X G u,
  #[ZT,ZU,ZV,ZW],
  WZ X G n,
  #[ZK,ZL,ZM,ZN],
  WZ X G i,
  #[Z5,Z6,Z7,Z8],
  WZ X G p,
  ZD,
  ZE,
  ZF,
  Zx,
  Zz,
  ZG,
  Zu,
  Zw,
  Zy,
  Zv,
  ZI,
  ZA,
  ZC,
  ZJ,
  ZH,
  iO X aab,
  WZ X G z,
  iO X ZR,
  WZ X G m,
  iO X ZQ,
  WZ X G g,
  Vb X G B,
  Vb X G P,
  Vb X G x,
  Vb X G y,
  Vb X G c,
  Vb X G M,
  Vb X G b,
  Vb X G J,
  Vb X G A,
  Vb X G L,
  Vb X G O,
  Vb X G r,
  Vb X G f,
  Vb X G o,
  Vb X G I,
  Vb X G q,
  Vb X G C,
  gi Z9 aaa l1,
  gm l2,
  gm l3,
  gf X G l4,
  gf X G l5,
  gf X G l6,
  ga X G l7,
  gf X G l8,
  gf X G l9,
  gf X G l10,
  gf X G l11,
  gf X G l12,
  gf X G l13,
  gf X G l14,
  gf X G l15,
  gf X G l16,
  gf X G l17,
  gf X G l18,
  gf X G l19,
  gf X G l20,
  gi ZX ZY l21,
  gm l22,
  gi Z3 Z4 l23,
  gm l24,
  gf X G l25,
  gf X G l26,
  gf X G l27,
  gf X G l28,
  ga X G l29,
  gf X G l30,
  gf X G l31,
  gv X G l32 rfl λ_ _ _ _ _ _ _ _=>#[λ_=>#[_,rfl,rfl],λ_ _=>#[_,rfl,rfl]],
  gf X G l33,
  gi ZO ZP l34,
  gf X G l35,
  gf X G l36,
  gf X G l37,
  gv X G l38 rfl λ_ _ _ _ _ _ _ _=>#[λ_=>#[_,rfl,rfl],λ_ _=>#[_,rfl,rfl]],
  gf X G l39,
  gf X G l40,
  gf X G l41,
  gf X G l42,
  gf X G l43,
  gf X G l44,
  gf X G l45,
  gf X G l46,
  gf X G l47,
  gf X G l48,
  gf X G l49,
  gf X G l50,
  gf X G l51,
  gf X G l52,
  gf X G l53,
  gf X G l54,
  gf X G l55,
  gf X G l56,
  gf X G l57,
  gf X G l58,
  gf X G l59,
  gf X G l60,
  gf X G l61,
  gf X G l62,
  gf X G l63,
  gf X G l64,
  gf X G l65,
  gf X G l66,
  gf X G l67,
  gf X G l68,
  gf X G N]
 exact(PX<|OJ T).imp λvs H Q E ⟨a,ns,e,hO,hS,hl,k⟩=>by subst e;exact Js hO hS (D_ ad ns hl) k
theorem walk{l:W.OpenLaw}{K:Params->Uh}(p:l.most=ap 63)(e:d.params.defaults=[])
  (o:∀(w:fx)(h:g3),YP w h->(K w.params).In h)
  (F:∀(w:fx)(c:abg)(fa:cp)(h:g3),(K w.params).In h->h.Ns eC c->c d.name=ap (.ref fa)->
   ∃fd:fy,(∀(s:cb)(u:ay),aas s fd #[[u],[]] [("script",u)])/\∀b:g3,(K w.params).In b->b.Ns eC c->FnOk l.prog w (K w.params) c b CX0 33 fa fd ["script"] (Hu<|K w.params)):
  W.WalkO q loose XP YP l.row.toRowW d [] (λf vs=>Y6 f vs):=
 _2.L7 (n:=63) (k:=33) (x:="script") (CX:=λ_=>CX0) (sp:=λw=>Hu (K w.params)) p (by decide) e #[rfl,by decide,by decide,rfl] o F (λ_ _ a j i m g=>#[a,j,rfl,m,g,i,λ_=>rfl]) λ_ _ _ _ _ z=>z
end _T
open PySem PySem.W PyProof.Rows
structure PySem.W.Fast:Prop where
 (tw5699721984904055577 tw7512382243331933786 tw729651403778992474 tw6098725292439988455 tw12360957712693032466 tw2827824797117415844 tw2312652871653305658 tw11799733001600320208 tw5631133706114887328 tw4883574551820687157 tw17635441714575368402 tw15953244474438025046 tw8026882553680347693 tw2873502433439660047 tw17173890278406907999 tw8832801820908700769 tw14376104345942649326 tw10523483264301290524 tw4800123766269878043 tw9835633181307248806 tw3288542279910031613 tw17179384049616008558 tw9893025037216774612 tw9886397956002964481 tw11440075307303295485 tw14114859544022763083 tw15214894560118461349 tw6058116314422368326 tw11226293317934099347 tw3671874377143607900 tw716043688485057938 tw2569094218403592728 tw4847309039497952491 tw807198540085085331 tw5723950063508973900 tw12775951294499629310 tw2424437676860580096 tw17196603563254700579 tw4217387208946146522 tw5292725958390170128 tw4086889813181961350 tw1470540114016164719 tw9569633606551709014 tw3526186455516570582 tw16583460096756000739 tw387471615527943980 tw10853779318601286433 tw8460238345141984342 tw1938614053286017247 tw9379353018180361769 tw5221240845739445772 tw11237708523094388402 tw2228847259440782391 tw12935586248708501458 tw15895008801431144432 tw2941416984961219627 tw3007701092042947178 tw11813756051143983750 tw9720147557525620545 tw6575102781714867716 tw2434244274806281730 tw12030318512833045394 tw7435728763333327966 tw2521548390570575708 tw12057643079339462897 tw6824038320886048953 tw5613857885663845532 tw5880917164958129790 tw9711852448196957438 tw5356135494077736198 tw4775653995957629139 tw7121952523948824657 tw5645542749515990527 tw1540528795210417658 tw3509583173187328640 tw7234866207951286307 tw7355254240102194692 tw12129400034209970897 tw16304097353358642732 tw7703155140940274564 tw5420960179431229276 tw7710632356733700229 tw17609985193256755270 tw10463166026190004608 tw2542771788038895046 tw16223189678903148369 tw65288664814986096 tw5886755195002009268 tw18003632764805054219 tw13650328233035907969 tw9147876692849423228 tw8757842693087888755 tw8689553138339769769 tw15881083940731894542 tw8585992511594134448 tw3403374630187603525 tw3537986502825585176 tw9319647895438793089 tw9542193723037011683 tw2925524721916474948 tw2691869817152947224 tw9563162055571505189 tw11951686277767211462 tw13814524587283416582 tw7863179769592624289 tw8271365399457380711 tw7812157116916894899 tw11158535648360665696 tw1957259226510028039 tw10549606641936121863 tw4455596267428398123 tw15554965414538648220 tw17534796184307366162 tw2358600473025081410 tw23510754359702095 tw11843541671955232098 tw4780434287264559450 tw5111607152537544494 tw10854393505261223019 tw17017882020220961557 tw5949754681827004557 tw2116780279993005849 tw12498128091815173753 tw12662994803428215957 tw5162471777449868358 tw3017250382903172449 tw263228259359226216 tw3789674036188766204 tw16996707167017853683 tw5254081569389729327 tw806322802395315907 tw6315020753073540575 tw6867901362939250581 tw410012035150755605 tw3529181975282249531 tw10319942887097367447 tw2014506451495722930 tw2092707699015291428 tw11224757035759170128 tw1060356278543044685 tw7697395636624640119 tw10119177206591035189 tw10606021299014288154 tw2110228613335748064 tw843009961725654570 tw2233575394538580152 tw6729068098133065474 tw15886407577994856775 tw11797394311057652818 tw10544460446535086531 tw7221610632950427116 tw12494981462469675175 tw12774265026072640347 tw11313273076544548709 tw5055479288734723550 tw10390252180443988696 tw14732132957995120071 tw2199292843372233718 tw9397130068285313491 tw16997427108609006297 tw4370587801773290495 tw7172752702711601832 tw167996218058559860 tw12323728494593654317 tw11469831771973037687 tw3981411148644583812 tw7016006055511609666 tw9607032606630638434 tw14181391204693815601 tw13709361065208109347 tw14628509359622260749 tw12251835467405412043 tw3632743085160378046 tw204271062952306021 tw9832229294086485278 tw9734157464748332664 tw10429513691487321139 tw17124649856795266420 tw14290372477210414410 tw7789971799340907462 tw16260917234440751916 tw2550959884185847345 tw7205603409681604352 tw8298853804617075185 tw8631326893741563596 tw3763090199606557533 tw16693920613433055074 tw8843630075939786535 tw15825701227073313727 tw8956570023605811588 tw8087037046075488612 tw10970678668309493690 tw12375350027116351177 tw13721696156136896788 tw15291756985880350969 tw2980325760946855351 tw4055949240605298286 tw7168110968526651007 tw2583307346967338246 tw11424080305603935406 tw2582129187460227523 tw4256669129778605931 tw7548638983933662630 tw2891474550288265007 tw11373972939149008277 tw1127086051796663182 tw7210434480820752401 tw13257355051391532486 tw3449920793986989010 tw8117820228927859030 tw813082645314141502 tw128853737075016313 tw10823215266291245556 tw3236459880110442891 tw3599845054694731258 tw11473696434406433639 tw13307846751160030163 tw12564780011402222985 tw13486491867030142004 tw5949027355343087163 tw2298561793794704922 tw653288630123181447 tw17711525723203823316 tw11567376033103399023 tw16701111159587707266 tw11644507254612947027 tw2446971932381769840 tw15641169180231326662 tw10572536761047004538 tw719100701130127461 tw17940572739596418500 tw8561999225931542531 tw10045266380195503519 tw4247801584451335159 tw15318280936599271829 tw2565415173131909904 tw9962187942605713376 tw17756303858546933826 tw2636661082821470937 tw3864514526239151673 tw11365421608452504575 tw11567020266028754413 tw11815009727192465498 tw16012346581769837478 tw1005500026044536448 tw1199857224743374612 tw3838464804139191366 tw8539586509467648401 tw8649673348725366435 tw357592413341070301 tw1761773823356151765 tw18093014021082131548 tw2812892170267839419 tw6564434045550071055 tw10539163561764304233 tw10030144922460759954 tw12159290747359619139 tw9608212154323113416 tw5654009836318631819 tw4313860871073800956 tw13752521978149770706 tw15630617114106122624 tw1721906425916992756 tw14877412613488279393 tw3018346796997880161 tw13482170682310894518 tw9680706056771148528 tw18289787981391486887 tw16498672178590116592 tw1857487435292341119 tw7817703304948659417 tw1296931720324611808 tw3623190783876824202 tw15458903122111856236 tw8372816495027389779 tw15507018486792512562 tw7978725003551996435 tw16495109353945705865 tw3864164958581769776 tw9013999185274116155 tw9895929527994341176 tw2366932562231360623 tw5582073917305697467 tw14588825944140063510 tw8095626438900100643 tw7843276919266086717 tw3426747890369481847 tw2768542812155774869 tw1478884606070351452 tw15419459849472011108 tw1049265365171269515 tw4639701632013080820 tw15175901047101842567 tw7063690097664504188 tw15793272645261609523 tw17977246448506295077 tw3618356630476335487 tw12265931129399900861 tw17205493930909471145 tw1434329322989663297 tw6677012241469329307 tw12064770724904273522 tw16079612512484170081 tw15620089922113200539 tw3229701037381920354 tw4074885801334451082 tw16527330014837046326 tw16442644815252542016 tw14525138729056992660 tw5662735817461205356 tw12482322927711767468 tw4085353938482793395 tw649059413811197244 tw8588191776584628935 tw14068719355634690433 tw8257448307196521603 tw18118031637459220166 tw9697360381963269518 tw181424571433664498 tw18072354659270984942 tw14970054323818483749 tw3485068198956935274 tw14048270119152045776 tw5200007122682522610 tw8556090298733561898 tw14626644006448551399 tw2060550329885597908 tw124438804847622818 tw14874810423808160177 tw1435523027390824486 tw14426031111653661048 tw12611509533167958051 tw9635604480351222338 tw15088340610630992484 tw16251991697277967660 tw17577252081868922275 tw13537397780687934123 tw928015245854292106 tw1726565649241525045 tw17216288958482496685 tw17974711617354321992 tw4561949570138672864 tw12923731745000577772 tw5970123849932265278 tw7128361167498935498 tw17248702656567786347 tw17050760689630766077 tw10593886898540843173 tw12540631962714203627 tw6151995947093895195 tw1030481308558155997 tw1107457483257176585 tw13106537859007565999 tw5132572669234138452 tw9592066057555521589 tw11662128544815940631 tw8821319020814612643 tw1060082708733819087 tw10663754827951544164 tw6553562807866281165 tw11063227183972016114 tw5648196607869580361 tw12807479313487812995 tw14719648821324002558 tw8338724841783178363 tw1289409036779500126 tw15003389735400665905 tw3477178639772430225 tw12296565940598436941 tw14893508678906647440 tw14668471227512358553 tw2904786580349084871 tw15958907624664644005 tw14803826298098155418 tw10628537374592790295 tw7621110043802299707 tw16678033138298546263 tw9248449176910646475 tw1933032806887188839 tw7283433458999630472 tw4383785382821979123 tw8989396632478497037 tw15796863042801573157 tw4112314325835375265 tw5326950509349364441 tw15273109909033464684 tw11981510424613858039 tw3224376281495875597 tw14203056392162973693 tw11420784192880480103 tw11147700583851596716 tw4994914938329918357 tw18312499516962457623 tw5362827091510802748 tw1530744902637924635 tw17053567549543469435 tw2509641801023234861 tw9124396611358746490 tw8142819647465942198 tw17368564151922839413 tw17710224029068919093 tw12283338516025175985 tw8143841468794833947 tw9658981001267119654 tw5858002858300136798 tw8856240498224681492 tw16710302294481951339 tw11327121028238260851 tw12049652375851120493 tw17715111006188685107 tw3139515330344790112 tw7493258041271444715 tw5588654233878680370 tw3963018254033707681 tw12445292333917838712 tw17421356082283538192 tw5839837365852527743 tw7204695303481323463 tw9058868587928265573 tw15571513626874520570 tw17439597487819105562 tw6737531245792376891 tw399441853650254344 tw10345797537627567580 tw9640460125424286143 tw231052030921551466 tw2373127868162653928 tw3524822615657458568 tw9603584412430460137 tw13022140865148758898 tw17883953272613185685 tw17695593781908577498 tw15645083468924720994 tw16065546606013899996 tw1904384060675131222 tw10450728129527878968 tw2350115537030248905 tw10886321538830701008 tw14505939782797788568 tw12182396258980106202 tw6223762733019865641 tw140020705809189036 tw13016434021203462632 tw8966690935537865447 tw1377455540879425351 tw12523663311078920268 tw9515935431913007058 tw2806957746976416065 tw16049382033318516708 tw10526351759690888715 tw14321399824904765221 tw11353483712701299780 tw823581782756600140 tw14963513867276233383 tw11600600277611161941 tw13980003370196761966 tw514243467848704614 tw6129396247031189822 tw16965324166833660479 tw14007690136181142644 tw4012932262629747121 tw1592793408071296077 tw13917224656874399772 tw3989508297053964034 tw12033282460196247654 tw10419210468237579319 tw814324583656490589 tw7020891568890314959 tw2781459816409823658 tw7753178010002528810 tw2105262372526565119 tw8657498103442643835 tw16224548054385946171 tw16203998660797292752 tw4939935629888191818 tw7764612634389348132 tw12425117257312700206 tw6666329044367525802 tw7185223494934362162 tw10625569671247515137 tw15012368694074961074 tw8088171652157337873 tw17843802859265651406 tw9649448208085198335 tw2823715735348102480 tw17913651179580087611 tw3381405089270492013 tw2199993191084935869 tw10272294510255555002 tw9011697741372385273 tw15279311203332424 tw10786387959269628178 tw17372466714020033644 tw3571664379314598624 tw14828964138986115845 tw17543721782917501126 tw3898678894857356911 tw16117245529134989465 tw11782709845275797448 tw1405916204929605278 tw15884011684403148850 tw2789249791020946354 tw11410289257661853318 tw11790485083129312479 tw6298788790169889613 tw6208315199607555451 tw15620668116202111660 tw3225079941098948185 tw12558711671383401111:True)
set_option maxRecDepth 100000 in
set_option maxHeartbeats 0 in
theorem PySem.Challenge.cw_twinstride_k42_all_least_remedies_holds : PySem.Challenge.rw_twinstride_k42_all_least_remedies.Holds := by
 w_on;o_law;k_head;(case hw=>w_witness2)
 k_fill
 refine _T.walk (l:=PySem.Challenge.rw_twinstride_k42_all_least_remedies) rfl rfl (λw h Y=>W.kIn_of Y) ?F
 case F=>
  intro w b fa h KX G a;refine' _T.O3 KX G a ..
  any_goals k_is
  any_goals (first|refine' _3.Nf.mk ?_ (_2.y3 ?_ ?_ ?_)|refine' _3.Mf.mk ?_ ?_ (_2.y3 ?_ ?_ ?_)|refine' _3.Af.mk ?_ (_2.y3 ?_ ?_ ?_)|refine' _3.RL ?_ ?_ ?_ ?_ ?_)
  any_goals k_is
  any_goals k_exc
