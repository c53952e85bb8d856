import PyProof.Rows.All
import Wide.All
import OpenK.AllK
import Wide.FinOn
import Lean
import PyProof.EqAt
import PyProof.EqKinds
import PyProof.TupleCall
import PySem.Challenge.RW_twinstride_k54_mean_shares
set_option Elab.async false
set_option linter.all false
set_option maxRecDepth 100000
set_option maxHeartbeats 4000000
set_option compiler.extract_closed false
set_option bootstrap.genMatcherCode false
set_option genSizeOf false
set_option genInjectivity false
open Array renaming replicate->V6,length_toList->W6,toList->W9,append_assoc->Zx
open Bool renaming beq_eq_decide_eq->Vh,false_eq_true->Vj,and_eq_true->VU,false_ne_true->WI,not_true->WZ,true_or->XH,not_false->XY,and_false->XZ,or_false->X7,or_true->Yh,false_or->Y0,and_true->Y1
open False renaming elim->Vv
open ForInStep renaming yield->Xu
open Int renaming toNat_natCast->UW,emod_nonneg->VL,emod_lt_of_pos->VM,natCast_mul->Wh,natCast_dvd_natCast->WN,eq_ofNat_of_zero_le->XE,toNat->Yu,mul_le_mul_of_nonneg_left->Yz,le_refl->YA,mul_ediv_cancel_left->Y9,mul_ediv_mul_of_pos->Zg,dvd_mul_of_dvd_left->Zh,zero_add->Zn,toNat_of_nonneg->ZF
open List renaming getElem?_cons_zero->dt,getElem?_cons_succ->Uz,length_map->UA,getElem?_eq_getElem->UC,map_cons->UG,getElem?_map->UH,mem_cons_of_mem->UJ,mem_cons->UK,set->UN,length_cons->UO,mem_cons_self->UP,mem_map->UR,size_toArray->US,length_append->UU,replicate->UX,filter_cons->UZ,mem_map_of_mem->Va,nil_append->Vc,mem_filter->Vd,getElem?_eq_some_iff->Ve,cons_append->Vf,mem_append->Vg,lookup->Vk,append_nil->Vl,mem_append_right->Vm,length_filter_le->Vn,map_map->Vq,range->Vu,filter_map->Vx,mem_singleton->VC,mem_of_getElem?->VD,map_nil->VF,map_congr_left->VH,getElem?_append_right->VP,nodup_cons->VQ,length_set->VR,getElem?_eq_none->VT,length_nil->V0,foldl_cons->V1,map_id->V3,length->V8,replicate_succ->Wa,getElem?_range->Wb,mem_range->Wc,sum_cons->Wg,length_singleton->Wi,filter_congr->Wj,not_mem_nil->Wq,lookup_cons->Ws,length_take->Wt,getElem?_append_left->Wz,filterMap_cons->WB,of_mem_zip->WE,find?_cons->WG,getElem?_set_self->WS,ext_getElem?->WT,replicate_succ'->W2,mem_append_left->W3,getElem_of_mem->W8,take->Xb,drop->Xc,getD_eq_getElem?_getD->Xf,getElem?_zip_eq_some->Xl,getElem?_eq_none_iff->Xm,drop_eq_getElem_cons->Xn,nodup_append->Xq,getElem?_set->Xr,zipIdx_cons->XA,length_drop->XB,take_of_length_le->XF,drop_eq_nil_of_le->XG,map_append->XN,range_eq_range'->XU,range'->XW,getElem?_set_ne->XX,any_cons->X6,filter_append->Yb,findIdx?_eq_some_iff_getElem->Ye,take_succ_eq_append_getElem->Yf,getElem?_nil->Yg,nodup_range->Yp,getElem_mem->Yq,zipIdx_map->Yw,length_zip->Yx,forIn_cons->Yy,idxOf_lt_length_of_mem->YF,take_succ->YK,pairwise_iff_getElem->YT,getElem?_replicate->Y6,filter_cons_of_pos->Y7,filter_cons_of_neg->Y8,range_succ_eq_map->Ze,filter_eq_nil_iff->Zf,dropLast_eq_take->Zm,getElem?_zipIdx->Zp,length_pos_iff->Zv,filter_eq_self->Zw,mem_filterMap->ZD,findIdx?_cons->ZE
open List.Pairwise renaming filter->Yt,map->YL
open List.cons renaming injEq->VY
open Nat renaming le_trans->UL,lt_of_lt_of_le->UM,le_refl->UQ,ne_of_lt->UT,lt_irrefl->Vs,pow_le_pow_right->VE,lt_or_ge->VX,le_add_right->V4,ne_of_gt->Ww,gcd->Wx,lt_of_le_of_lt->WL,zero_le->WM,zero_add->WW,lt_succ_of_lt->WX,mul_le_mul->Xj,mul_pos->Xt,not_lt->Yd,le_of_succ_le->Yl,le_of_lt->Ym,le_succ->Yv,not_lt_zero->YE,gcd_pos_of_pos_left->Zd,min_self->Zj,lt_trans->Zk,le_of_eq->Zl,log2_lt->Zu,mul_le_mul_left->ZC
open Ne renaming symm->Vb
open Option renaming map_some->VI,map_eq_some_iff->VO,join_some->VS,isSome_iff_exists->V7,isSome_map->Ya
open Option.some renaming inj->VG
open PyProof.Rows renaming callWith_type1->Vi,slot_tuple_getitem->Vz,envOfC->V5
open PySem renaming mem_of_lookup->Vy,Within->Y2,call->Zq,list_append->Zy
open PySem.Around renaming under_plainId->Zc
open PySem.Builtin renaming bitAnd->W7,bitOr->XT
open PySem.Builtin.Dict renaming updateFrom->Yk
open PySem.Builtin.Int renaming intBits->VW
open PySem.Builtin.Slice renaming slicePlaces->WY,sliceAdjust->X9
open PySem.Builtin.SmallTypes renaming nextOf->VA,ownedTupleIsFree->Wf,ownedTupleHandOut->Xe
open PySem.Builtin.Tuple renaming tupleTooMany->X4,tupleItemsOf->X5
open PySem.Calls renaming spliced_cons->Wd,callWith_builtin->We,evalArgs_plain->Wn,spliced_nil->WQ,Name_function_global->YD
open PySem.Expr renaming Call->Y5
open PySem.F renaming plainAttrs_list->VZ,slot_tuple_iterator_next->Wv,slot_tuple_mul->WK,slot_dict_pop->WR,slot_list_getattribute->WV,slot_list_pop->Xd,args_tuple_mul_2->Xh,args_tuple_add_2->Xi,entry_tuple_mul->Xo,entry_tuple_add->Xp,slot_tuple_add->Xv,slot_zip_getattribute->XM,slot_list_append->X0,slot_NoneType_hash->Ys,slot_tuple_index->YC,slot_list_index->YG,slot_list_count->YH,plainAttrs_dict->YI,args_dict_pop_3->YJ,entry_dict_pop->YR,args_tuple_iterator_next_1->YS,type_list_pop->YW,type_dict_pop->YX,slot_int_rmul->YY,entry_tuple_iterator_next->YZ,slot_list_clear->Zo,slot_enumerate_next->ZA
open PySem.Heap renaming get?_push_of_some->UB,lt_size->UD,get?_push_size->UI,size_push->Vw,SameBut->VV,get?_update_self->XO,ExtBut->XR,get?_update_other->Zb
open PySem.Heap.SameBut renaming update->Xz
open PySem.Manifest renaming find?->Zz
open PySem.NameKind renaming cell->XQ
open PySem.Obj renaming mapSeq->Yc
open PySem.Paired renaming length->WA
open PySem.PyData renaming hasDict->VN,showable->WD,shownAll->W0,depth->W5,shown->Xy,showableAll->X1,hasDictAll->X8,depthAll->Yo,noDict_hsm->Zt
open PySem.SeqAt renaming EqAt->XD,RcNeAt->Y3,RcAt->Zs
open PySem.SeqAt.EqAt renaming bool_bool->Xx,str_none->YM,none_str->YN,none_int->YO,int_none->YQ,str_int->YU,int_str->YV
open PySem.SeqAt.RcAt renaming lists_lengths->Yn,tuples->Y4,lists->Za
open PySem.Str renaming ofString->WU,empty->Yr
open PySem.Value renaming ref->UY,none->Wm,type->Xa,bool->X3,str->Yi,int->Yj
open PySem.W renaming Frag->UE,findIn->Vp,mg_none_of->Vr,hasDictIn->Vt,nsIn->VB,keepIn->VJ,mroIn->V2,mg_of->V9,kia_one->Wl,emptyDict->Wu,cellsFrom_some->WC,typeIn->WJ,fnOf->WO,plainGet->W4,callWith_K->Xg,instObj->Xk,plainOver->Xw,makesIn->XI,kitOne->XJ,codeIn->X2,hideAll->YB,plainGet_of->Zi,excIn->Zr
open String renaming reduceBEq->Xs
open Sum renaming inr->Vo,inl->WH
open True renaming intro->Wo
open Bool renaming false->eC
open Option renaming some->ap,none->ay
open PyProof.Rows renaming AllBare->UV,subscriptTail_builtinR->abN
open PySem renaming Value->ax,wpAny_bind->cT,Addr->eg,Shared->ez,starEach->eH,wpAny->eS,wpAny_pure->eX,mainGlobals->ff,model->fv,Program->fx,bootBuiltins->fy,Expr->f',Around->gx,eval->g3,World->hB,FuncData->hG,Heap->h9,backTo->j0,binaryOp->kc,compareOp->kl,wpAny_mono->kr,attributeBase->kB,wpAny_field->k',wpAny_Call_Name_kw->lm,wpAny_loadPart'->lN,wpAny_setField_rec->lT,wpAny_call_entry->l',swapsWith->mo,assignEach->mu,cLine->n7,wpAny_holding->ol,Stmt->om,call_meets->ot,cellsFrom->ox,wpAny_execs_nil->pa,Scope->pt,holding->py,codeAny_mono->qa,Keyword->q0,wpAny_passesOwn->ra,backToKw->rc,foldedSetIterable->re,sysModules->rN,checkBuiltinCall->ss,wpAny_truthy_bool->vr,wpAny_seqItems->wh,wpAny_pyIter_list->w6,wpAny_newObj_type->x9,codeAny->y',typeLookup->z4,rawInt->z5,wpAny_attempt->z6,wpAny_specialOf->B',pushCells->F',getMethod->G',wpAny_newTuple->J',tupleKind_room_in1->K',getattributeRaised->L',standAt->R',sliceBounds->S',relabel->UF,typeOf->U_,pyNext->U',wpAny_isInstance->V_,wpAny_execs_cons->V',getAttr?->Wp,Operator->WF,wpAny_rule->WP,wpAny_call->W1,valueAt->W_,getItem->W',PlainAttrs->XV,Paired->X_,pushCells_keeps->Y_,letOwnedTupleGo->Y',wpAny_of_eq->ZB,codeAny_call_builtin->Z_,NameKind->Z',IsPart->aa7,wpAny_standAt->aa8,strLen_append->aa9,checkTypeCall->aa_,behindInMarks->aa',Model->aba,stored->abb,argsOk->abc,wpAny_typeOf->abd,entryFor->abe,callerA->abf,callWith->abg,BindsTo->abh,wpAny_pyIter_zip->abi,pyIter->abj,noFill_tuple_add->abk,assign->abl,Result->abm,IsZip->abo,codeAny_builtin->abp,setItem->abq,wpAny_newFunctionEnv_cells->abr,isSubtype_stop->abt,closureFor->abv,builtinsNs->abw,bindArgs->abx,wpAny_comprehension_free->abA,seq_tuple_add->abB,tupleKind->abC,seqIndex?->abD,PassesOwn->abG,DictEntry->abK,wpAny_pyNext_list_item->abL,wpAny_Call_method_late->abM,seqIndex_neg->abO,concat_meets->abR,callType_new->abS,wpAny_pyNext_list_end->abU,codeAny_handlers_test->abV,codeAny_call_function->abW,wpAny_loadName_local->abX
open PySem.W renaming looks_mroIn->abn,findIn->abu,looks_findIn->abP
abbrev ab_:=List Int
abbrev ab':=List PySem.Str
abbrev aca:=List ax
abbrev acb:=List eg
abbrev acd:=List f'
abbrev ace:=List om
abbrev acf:=ax->ez->Prop
abbrev acg:=List (eg×PySem.Obj)
abbrev ach:=PySem.Str->Option ax
abbrev aci:=Array ax
set_option hygiene false in
local macro_rules|`(tactic|ac_rfl)=>`(tactic|(intro _ _ _ _ _ _;first|exact us1 λ_=>rfl|exact us2 λ_ _=>rfl|exact us3 λ_ _ _=>rfl|exact us4 λ_ _ _ _=>rfl|exact us5 λ_ _ _ _ _=>rfl|exact us6 λ_ _ _ _ _ _=>rfl|exact us7 λ_ _ _ _ _ _ _=>rfl|exact us8 λ_ _ _ _ _ _ _ _=>rfl))
set_option hygiene false in
local macro_rules|`(tactic|and_intros)=>`(tactic|(first|exact .inl rfl|exact .inr rfl|assumption))
local macro_rules|`(tactic|lia)=>`(tactic|first|(with_reducible first|assumption|exact Nat.le_add_right _ _|exact Nat.le_trans (by assumption) (by decide +kernel)|exact Nat.lt_of_le_of_lt (by assumption) (by decide +kernel)|exact Int.le_of_lt (by assumption))|decide +kernel|lia -abstractProof)
noncomputable section
open List renaming toArray->tX
local macro_rules|`(#[$xs,*])=>`(⟨$xs,*⟩)
namespace _S
end _S
namespace _2
open PySem PySem.Spec PyProof.Rows
variable{a b f:eg}{A:gx}{X:Cx}{e:f'}{h h':h9}{H:Hp}{ch:acb}{N:ab'}{i t':Nat}{P:fx}{r:R2}{s:ez}{m x:Str}{K:UE}
abbrev aI:=Sum Int Str
noncomputable def pV:aI->ax->Bool
 |.inl k,v=>Value.isInt k v
 |.inr x,v=>Value.isStrOf x v
noncomputable def Su(w:hB):aI->Int
 |.inl k=>hashInt k
 |.inr x=>hashStr w x
theorem a_:∀{k:aI}{v:ax},pV k v=true->(∃i t,k=WH i/\v=Yj i t)\/(∃x t,k=Vo x/\v=Yi x t)
 |.inl i,v,h=>by
  obtain⟨t,e⟩:=Value.isInt_shape h;exact .inl #[i,t,rfl,e]
 |.inr x,v,h=>by
  obtain⟨t,e⟩:=Value.isStrOf_shape h;exact .inr #[x,t,rfl,e]
theorem Et(i:Int)(t:Tok):pV (.inl i) (.int i t)=true:=by simp[pV,Value.isInt]
theorem DM(x:Str)(t:Tok):pV (.inr x) (.str x t)=true:=by simp[pV,Value.isStrOf]
theorem P9(a b:Int):decide ((WH a:aI)=WH b)=(a==b):=by
 by_cases e:a=b
 .subst e;simp
 simp_all
theorem R8(a b:Str):decide ((Vo a:aI)=Vo b)=decide (a=b):=by
 simp_all
theorem O6(a:Int)(b:Str):decide ((WH a:aI)=Vo b)=false:=decide_eq_false (λq=>nomatch q)
theorem OA(a:Str)(b:Int):decide ((Vo a:aI)=WH b)=false:=decide_eq_false (λq=>nomatch q)
def aV(prog:fx)(w:hB):PySem.KeyKind prog w aI where
 is:=pV
 hash:=Su w
 inj:=λv a b q l=>by
  rcases a_ q with⟨i,t,rfl,rfl⟩|⟨x,t,rfl,rfl⟩
  .rcases a_ l with⟨j,u,rfl,e⟩|⟨y,u,rfl,e⟩
   .injection e with e1 _;rw[e1]
   .exact nomatch e
  .rcases a_ l with⟨j,u,rfl,e⟩|⟨y,u,rfl,e⟩
   .exact nomatch e
   .injection e with e1 _;rw[e1]
 byValue:=λk v h=>by
  rcases a_ h with⟨i,t,rfl,rfl⟩|⟨x,t,rfl,rfl⟩<;>rfl
 pyHash:=λg h=>by
  rcases a_ g with⟨i,t,rfl,rfl⟩|⟨x,t,rfl,rfl⟩
  .exact wpAny_pyHash_int h
  .exact wpAny_pyHash_str h
 eqBool:=λz g h=>by
  rcases a_ z with⟨i,t,rfl,rfl⟩|⟨x,t,rfl,rfl⟩
  .rcases a_ g with⟨j,u,rfl,rfl⟩|⟨y,u,rfl,rfl⟩
   .rw[P9]at h;exact wpAny_eqBool_int h
   .rw[O6]at h;exact YV i t y u _ _ _ _ h
  .rcases a_ g with⟨j,u,rfl,rfl⟩|⟨y,u,rfl,rfl⟩
   .rw[OA]at h;exact YU x t j u _ _ _ _ h
   .rw[R8]at h;exact wpAny_eqBool_str h
 «strs»:=λk x t v h=>by
  rcases a_ h with⟨i,u,rfl,e⟩|⟨y,u,rfl,e⟩
  .exact nomatch e
  .injection e with e1 _
   subst e1;cases v<;>rfl
set_option genInjectivity true in
inductive V where
 |non|bl (b:Bool)|int (i:Int)|str (x:Str)|byt (b:Array UInt8)|flt (b:UInt64)|ref (a:eg)|ty (n:String)
 deriving DecidableEq
def RelV:V->ax->Prop
 |.non,u=>u=Wm
 |.bl b,u=>u=X3 b
 |.int i,u=>∃t,u=Yj i t
 |.str x,u=>∃t,u=Yi x t
 |.byt b,u=>∃t,u=Value.bytes b t
 |.flt b,u=>∃t,u=Value.float b t
 |.ref a,u=>u=UY a
 |.ty n,u=>u=Xa n
abbrev Vals:List V->List ax->Prop:=X_ RelV
theorem Vals.length(r:Vals xs us):xs.length=us.length:=WA r
theorem Vals.get:∀{xs:List V}{us:aca}{i:Nat}{x:V},Vals xs us->xs[i]?=ap x->∃u,us[i]?=ap u/\RelV x u
 |_,_,_,_,.nil,e=>by simp at e
 |_,_,0,_,.cons r _,e=>by simp_all
 |_,_,i+1,x,.cons _ t,e=>by
  obtain⟨u,j,g⟩:=Vals.get t (by simpa using e)
  simp_all
theorem Vals.set{x:V}(r:RelV x u):∀{xs:List V}{us:aca}(i:Nat),Vals xs us->Vals (xs.set i x) (us.set i u)
 |_,_,_,.nil=>.nil
 |_,_,0,.cons _ t=>.cons r t
 |_,_,i+1,.cons q t=>.cons q (Vals.set r i t)
theorem Vals.append:∀{xs ys:List V}{us g:aca},Vals xs us->Vals ys g->Vals (xs++ys) (us++g):=by
 intro xs ys us g h s
 induction h with
 |nil=>exact s
 |cons r _ ih=>exact .cons r ih
theorem Vals.take:∀{xs:List V}{us:aca}(n:Nat),Vals xs us->Vals (xs.take n) (us.take n)
 |_,_,0,_=>.nil
 |_,_,_+1,.nil=>.nil
 |_,_,n+1,.cons r t=>.cons r (Vals.take n t)
theorem Vals.drop:∀{xs:List V}{us:aca}(n:Nat),Vals xs us->Vals (xs.drop n) (us.drop n)
 |_,_,0,r=>r
 |_,_,_+1,.nil=>.nil
 |_,_,n+1,.cons _ t=>Vals.drop n t
def RelO:Option V->Option ax->Prop
 |some v,ap u=>RelV v u
 |none,ay=>True
 |_,_=>False
def KV{κ:Type}:List (κ×V)->List (κ×ax)->Prop:=X_ λ(p:κ×V)(q:κ×ax)=>p.1=q.1/\RelV p.2 q.2
def kV:aI->V
 |.inl i=>.int i
 |.inr x=>.str x
set_option genInjectivity true in
inductive HO where
  |lst (xs:List V)
  |tup (xs:List V)
  |dK (ab4:List (aI×V))|dT (ab4:List (List aI×V))
  |set (S:Int->Bool) (n:Nat)
  |ins (C dx:eg) (fs:List (Str×V))
  |own (x:eg)
  |xd (fs:List (Str×V))
  |met (f x:eg)
  |rng (lo hi:Int)
  |frz (o:Obj) (u:HO)
  |tbl (ps:aci)
  |ext (φ:h9->Prop)
abbrev Hp:=eg->Option HO
noncomputable def upd(H:Hp)(a:eg)(o:HO):Hp:=λb=>if b=a then ap o else H b
theorem upd_same:upd H a o a=ap o:=by unfold upd;simp_all
theorem aM(h:b≠a):upd H a o b=H b:=by unfold upd;rw[if_neg h]
theorem S9(h:H a=ap o)(h':H b=ap u)(d:o≠u):a≠b:=by
 intro e;subst e;rw[h]at h';exact d (VG h')
theorem bo(h:H a=ap o)(h':H b=ay):a≠b:=by
 intro e;simp_all
section
variable(P:fx)(w:hB)
def ObjOk(H:Hp)(h:h9)(a:eg):HO->Prop
 |.lst xs=>xs.length<=sizeLine/\∃(ab8:aca)(n:Nat),Vals xs ab8/\h.get? a=ap { cls:=.type "list",data:=.seq ab8.toArray n }
 |.tup xs=>xs.length<=sizeLine/\∃ab8:List ax,Vals xs ab8/\∃o,h.get? a=ap o/\(o.cls=.type "tuple"/\∃n,o.data=.seq ab8.toArray n)/\o.dict=ay
 |.dK ab4=>ab4.length<=sizeLine/\(a==rN)=eC/\∃vs,KV ab4 vs/\h.DictOf (aV P w) a vs
 |.dT ab4=>ab4.length<=sizeLine/\(a==rN)=eC/\∃xs:List (List aI×eg×ax),
   X_ (λ(p:List aI×V)(q:List aI×eg×ax)=>p.1=q.1/\H q.2.1=ap (.tup<|p.1.map kV)/\RelV p.2 q.2.2) ab4 xs/\
   ∃o es ep,h.get? a=ap o/\o.ExactDict/\o.data=.dict es ep/\es.toList=xs.map (entryOfKey<|tupleKind<|aV P w)/\(xs.map (·.1)).Nodup
 |.set S n=>h.SetOf (intKind P w) a S n
 |.ins C dx fs=>H dx=ap (.own a)/\fs.length<=1000/\dx≠a/\h.get? a=ap (Xk C dx)/\
   ∃mA,h.Ns1 dx mA/\(∀f,RelO (fs.lookup f) (mA f))/\Y2 mA (fs.map (·.1))
 |.own _=>∃o,h.get? a=ap o
 |.xd fs=>∃mA,h.Ns1 a mA/\∀f,RelO (fs.lookup f) (mA f)
 |.rng lo hi=>∃t u v,h.get? a=ap { cls:=.type "range",data:=.fields (tX [.int lo t,.int hi u,.int 1 v]) }
 |.frz o u=>h.get? a=ap o/\ObjOk H h a u
 |.tbl ps=>h.get? a=ap { cls:=.none,data:=.fields ps }
 |.met f x=>h.get? a=ap (W.methodObj (.ref f)<|.ref x)
 |.ext φ=>φ h/\(∃o,h.get? a=ap o)/\∀h1 h2:h9,φ h1->(∀o,h1.get? a=ap o->h2.get? a=ap o)->φ h2
def HOk(H:Hp)(h:h9):Prop:=∀a o,H a=ap o->ObjOk P w H h a o
end
theorem ObjOk.lt(x:ObjOk P w H h a o):a<h.objs.size:=by
 cases o with
 |lst xs=>obtain⟨_,_,_,_,e⟩:=x;exact UD e
 |tup xs=>obtain⟨_,_,_,_,e,_⟩:=x;exact UD e
 |dK ab4=>obtain⟨_,_,_,_,o,_,_,e,_⟩:=x;exact UD e
 |dT ab4=>obtain⟨_,_,_,_,o,_,_,e,_⟩:=x;exact UD e
 |set S n=>obtain⟨o,_,_,_,e,_⟩:=x;exact UD e
 |ins C dx fs=>obtain⟨_,_,_,e,_⟩:=x;exact UD e
 |own y=>obtain⟨_,e⟩:=x;exact UD e
 |xd fs=>obtain⟨_,⟨_,_,_,e,_⟩,_⟩:=x;exact UD e
 |rng lo hi=>obtain⟨_,_,_,e⟩:=x;exact UD e
 |frz ob u=>obtain⟨e,_⟩:=x;exact UD e
 |tbl ps=>exact UD x
 |met f y=>exact UD x
 |ext φ=>obtain⟨_,⟨_,e⟩,_⟩:=x;exact UD e
theorem ir:∀{g:List α}{j:List l},X_ F g j->(∀a b,F a b->G a b)->X_ G g j:=by
 intro g j h f
 induction h with
 |nil=>exact .nil
 |cons r _ ih=>exact .cons (f _ _ r) ih
theorem ObjOk.stay(x:ObjOk P w H h a o)(k:∀b u,(b=a\/H b=ap (.own a))->h.get? b=ap u->h'.get? b=ap u)(J:∀b,H b=ap (.own a)->H' b=ap (.own a))(L:∀b xs,H b=ap (.tup xs)->H' b=ap (.tup xs)):ObjOk P w H' h' a o:=by
 induction o with
 |lst xs=>obtain⟨z,l,n,r,e⟩:=x;exact#[z,l,n,r,k _ _ (.inl rfl) e]
 |tup xs=>obtain⟨z,l,r,g,e,c⟩:=x;exact#[z,l,r,g,k _ _ (.inl rfl) e,c]
 |dK ab4=>obtain⟨z,y,G,r,g,es,j,e,c⟩:=x;exact#[z,y,G,r,g,es,j,k _ _ (.inl rfl) e,c]
 |dT ab4=>
  obtain⟨z,y,xs,r,g,es,j,e,c⟩:=x;exact#[z,y,xs,ir r λp q z=>#[z.1,L _ _ z.2.1,z.2.2],g,es,j,k _ _ (.inl rfl) e,c]
 |set S n=>obtain⟨g,es,j,t,e,c⟩:=x;exact#[g,es,j,t,k _ _ (.inl rfl) e,c]
 |ins C dx fs=>
  obtain⟨d,z,ne,e,mA,⟨B,es,j,I,c⟩,r⟩:=x;exact#[J _ d,z,ne,k _ _ (.inl rfl) e,mA,#[B,es,j,k _ _ (.inr d) I,c],r]
 |own y=>obtain⟨g,e⟩:=x;exact#[g,k _ _ (.inl rfl) e]
 |xd fs=>obtain⟨mA,⟨B,es,j,e,c⟩,r⟩:=x;exact#[mA,#[B,es,j,k _ _ (.inl rfl) e,c],r]
 |rng lo hi=>obtain⟨t,u,v,e⟩:=x;exact#[t,u,v,k _ _ (.inl rfl) e]
 |frz g u ih=>obtain⟨e,q⟩:=x;exact#[k _ _ (.inl rfl) e,ih q]
 |tbl ps=>
  have e:h.get? a=ap { cls:=.none,data:=.fields ps }:=x;show h'.get? a=ap { cls:=.none,data:=.fields ps };exact k a _ (.inl rfl) e
 |met f y=>
  have e:h.get? a=ap (W.methodObj (.ref f)<|.ref y):=x;show h'.get? a=ap (W.methodObj (.ref f)<|.ref y);exact k a _ (.inl rfl) e
 |ext φ=>obtain⟨p,⟨o,e⟩,F⟩:=x;exact#[F _ _ p λo q=>k _ _ (.inl rfl) q,#[o,k _ _ (.inl rfl) e],F]
theorem HOk.lt(x:HOk P w H h)(e:H a=ap o):a<h.objs.size:=(x a o e).lt
theorem HOk.fresh(x:HOk P w H h)(e:h.objs.size<=a):H a=none:=by
 cases q:H a with
 |none=>rfl
 |some u=>exact absurd (UM (x.lt q) e) (Vs _)
theorem HOk.kept(x:HOk P w H h)(k:∀b u,h.get? b=ap u->h'.get? b=ap u):HOk P w H h':=λa o e=>
 (x a o e).stay (λb u _ q=>k b u q) (λ_ q=>q) λ_ _ q=>q
theorem HOk.laid(x:HOk P w H h)(k:∀b u,h.get? b=ap u->h'.get? b=ap u)(l:h.objs.size<=a)(new:ObjOk P w (upd H a o) h' a o):HOk P w (upd H a o) h':=λb u e=>by
 have j:=x.fresh l
 by_cases g:b=a
 .subst g;rw[upd_same]at e;cases e;exact new
 .rw[aM g]at e
  exact(x b u e).stay (λc v _ q=>k c v q) (λc q=>by rw[aM (bo q j)];exact q) λc y q=>by rw[aM (bo q j)];exact q
def Rd(H:Hp)(a:eg)(u:HO):Prop:=H a=ap u\/∃o,H a=ap (.frz o u)
theorem Rd.ok(r:Rd H a u)(x:HOk P w H h):ObjOk P w H h a u:=by
 rcases r with r|⟨o,r⟩
 .exact x a u r
 obtain⟨_,q⟩:=x a _ r;exact q
def TC:Option HO->Prop
 |some (.lst _)=>True
 |some (.dK _)=>True
 |some (.dT _)=>True
 |some (.set _ _)=>True
 |some (.ins _ _ _)=>True
 |some (.ext _)=>True
 |_=>False
section
variable{x e:eg}
theorem HOk.write(ok:HOk P w H h)(G:TC (H x))(L:e=x\/H e=ap (.own x))(k:∀b u,b≠e->h.get? b=ap u->h'.get? b=ap u)(I:∃u,h'.get? e=ap u)(new:ObjOk P w (upd H x o') h' x o'):HOk P w (upd H x o') h':=λb u q=>by
 have j:∀c y,H c=ap (.own y)->c≠x:=λc y r z=>by subst z;rw[r]at G;exact G
 have l:∀c F,H c=ap (.tup F)->c≠x:=λc F r z=>by subst z;rw[r]at G;exact G
 by_cases B:b=x
 .subst B;rw[upd_same]at q;cases q;exact new
 .rw[aM B]at q
  by_cases g:b=e
  .have J:H b=ap (.own x):=by
    rcases L with z|z
    .exact absurd (g.trans z) B
    .rw[g];exact z
   rw[q]at J;cases J;obtain⟨v,O⟩:=I;exact#[v,by rw[g];exact O]
  .refine (ok b u q).stay (λc v hc r=>k c v ?_ r) (λc r=>by rw[aM (j c b r)];exact r) λc F r=>by rw[aM (l c F r)];exact r
   rcases hc with rfl|hc
   .exact g
   .rintro rfl
    rcases L with z|z
    .exact j c b hc z
    .rw[hc]at z;cases z;exact B rfl
end
structure Un(fs ex:acb)(H H':Hp)(h h':h9):Prop where
 keep:∀b o,h.get? b=ap o->H b=ay->b∉fs->b∉ex->h'.get? b=ap o
 slot:∀b o,h.get? b=ap o->H b=ay->b∈fs->b∉ex->∃sl,h'.get? b=ap { o with slots:=sl }
 free:∀b o,h.get? b=ap o->H b=ay->b∉ex->H' b=ay
 there:∀b o,h.get? b=ap o->b∉ex->∃o',h'.get? b=ap o'
 tups:∀b xs,H b=ap (.tup xs)->H' b=ap (.tup xs)
 frzs:∀b o u,H b=ap (.frz o u)->H' b=ap (.frz o u)
 tbls:∀b ps,H b=ap (.tbl ps)->∃more,H' b=ap (.tbl (ps++more))
section
variable{x e:eg}
theorem Un.any(u:Un fs ex H H1 h h1)(q:h.get? b=ap g)(n:H b=ay)(l:b∉ex):∃v,h1.get? b=ap { g with slots:=v }:=by
 by_cases j:b∈fs
 .exact u.slot b g q n j l
 exact#[_,u.keep b g q n j l]
theorem Un.kept(k:∀b u,h.get? b=ap u->h'.get? b=ap u):Un fs ex H H h h':=
 #[λb g q _ _ _=>k b g q,λb g q _ _ _=>#[_,k b g q],λ_ _ _ n _=>n,λb g q _=>#[g,k b g q],λ_ _ q=>q,λ_ _ _ q=>q,λ_ ps q=>#[(tX []),by rw[q];simp]]
theorem Un.refl:Un fs ex H H h h:=Un.kept λ_ _ q=>q
theorem Un.laid(k:∀b u,h.get? b=ap u->h'.get? b=ap u)(l:h.objs.size<=a)(g:H a=ay):Un fs ex H (upd H a o) h h' where
 keep:=λb u q _ _ _=>k b u q
 slot:=λb u q _ _ _=>#[_,k b u q]
 free:=λb u q n _=>by rw[aM (UT<|UM (UD q) l)];exact n
 there:=λb u q _=>#[u,k b u q]
 tups:=λb j q=>by rw[aM (bo q g)];exact q
 frzs:=λb u j q=>by rw[aM (bo q g)];exact q
 tbls:=λb ps q=>#[(tX []),by rw[aM (bo q g),q];simp]
theorem Un.write(v:TC (H x))(G:e=x\/H e=ap (.own x))(k:∀b u,b≠e->h.get? b=ap u->h'.get? b=ap u)(F:∃u,h'.get? e=ap u):Un fs ex H (upd H x o) h h':=by
 have y:∀b,H b=ay->b≠x:=λb n z=>by subst z;rw[n]at v;exact v
 have l:∀b,H b=ay->b≠e:=λb n z=>by
  simp_all
 have g:∀b u,H b=ap u->¬TC (ap u)->b≠x:=λb u q nm z=>by simp_all
 refine#[λb u q n _ _=>k b u (l b n) q,λb u q n _ _=>#[_,k b u (l b n) q],λb u q n _=>by rw[aM (y b n)];exact n,λb u q _=>?_,
  λb B q=>by rw[aM (g b _ q λz=>z)];exact q,λb u B q=>by rw[aM (g b _ q λz=>z)];exact q,λb ps q=>#[(tX []),by rw[aM (g b _ q λz=>z),q];simp]]
 by_cases j:b=e
 .simp_all
 exact#[u,k b u j q]
end
noncomputable def trk(h:h9)(H:Hp):List Addr:=(Vu h.objs.size).filter λa=>(H a).isSome
def tG(h:h9)(H:Hp):Heap:=YB h (trk h H)
theorem Ej(h:h9)(H:Hp):(tG h H).objs.size=h.objs.size:=W.hideAll_size _ _
theorem Il(e:h.get? b=ap o)(n:H b=ay):(tG h H).get? b=ap o:=
 W.hideAll_get _ e λg=>by
  have q:=(Vd.mp g).2
  simp_all
theorem KD(e:(tG h H).get? b=ap o):h.get? b=ap o/\H b=none:=by
 have g:=W.of_hideAll _ e;refine#[g,?_];cases q:H b with
 |none=>rfl
 |some x=>
  have j:b∈trk h H:=Vd.mpr #[Wc.mpr (UD g),by simp[q]]
  have z:(tG h H).get? b=none:=W.hideAll_none _ j
  simp_all
structure Mod(K:UE)(mg:ach)(base:h9):Prop where
 kin:K.In base
 glob:base.Ns ff mg
 blt:∃mb,base.Ns abw mb/\∀x:Str,x≠"__name__"->mb x=fy x
 nolimit:base.NoLimit
structure Cx where
 prog:fx
 w:hB
 K:UE
 mg:Str->Option ax
 base:h9
 A:gx
 N:List Str
 s₀:ez
 H₀:Hp
 env:Env
 outer:List Env
 stack:List Env
 ex:List eg
 fn:Str->Bool
 calm:Bool
 pn:List (eg×Obj)
 xe:ax->ez->Prop
noncomputable def iT(l:List Env):List Addr:=l.filterMap (·.frame)
abbrev Cx.fs(X:Cx):List Addr:=iT X.outer
def RG(sc:pt)(x:Str):Prop:=sc.names.lookup x=ap .local\/sc.names.lookup x=ap .cell\/sc.names.lookup x=ap .free
def xH(sc:pt)(x:Str):Prop:=sc.names.lookup x=ap .local\/sc.names.lookup x=ap .cell
def Look(env:Env)(h:h9)(m:ach)(x:Str)(u:ax):Prop:=
 (env.kindOf x=ap .local/\m x=ap u)\/((env.kindOf x=ap .cell\/env.kindOf x=ap .free)/\∃c,env.cells.lookup x=ap c/\h.IsCell c (ap u))
structure Cx.Ok(X:Cx):Prop where
 mod:Mod X.K X.mg X.base
 kind:X.env.scope.kind=.function
 glob:X.env.globals=ff
 blt:X.env.builtins=abw
 above:X.s₀.heap.objs.size<=X.env.locals
 inj:∀x y c,X.env.cells.lookup x=ap c->X.env.cells.lookup y=ap c->x=y
 has:∀x,(X.env.kindOf x=ap .cell\/X.env.kindOf x=ap .free)->∃c,X.env.cells.lookup x=ap c
 cab:∀x c,X.fn x=true->X.env.cells.lookup x=ap c->X.s₀.heap.objs.size<=c
 hd:X.calm=true->X.A.handled=ay
 frames:X.A.frames=ap X.stack
 stk:X.stack=X.outer\/(X.stack=X.env::X.outer/\X.env.frame=ap X.env.locals)
 exf:∀b∈X.ex,b≠X.env.locals/\∀x c,X.env.cells.lookup x=ap c->c≠b
 bs:∀b o,X.base.get? b=ap o->X.s₀.heap.get? b=ap o/\X.H₀ b=ay
 bsz:X.base.objs.size<=X.s₀.heap.objs.size
 noex:∀b o,X.base.get? b=ap o->b∉X.ex
 exfs:∀b∈X.ex,b∉X.fs
 funs:X.s₀.heap.FunFrames X.base X.outer
 frf:∀b∈X.fs,X.H₀ b=ay
structure Inv(X:Cx)(ab2:acg)(U:List (Option V))(H:Hp)(s:ez):Prop where
 ok:X.Ok
 os:s.os=X.s₀.os
 bare:UV s.gens
 base:Un X.fs X.ex X.H₀ H X.s₀.heap s.heap
 loc:∃m,s.heap.Ns X.env.locals m/\∀(i:Nat)(x:Str)(v:V),X.N[i]?=ap x->U[i]?=ap (ap v)->RG X.env.scope x->∃u,RelV v u/\Look X.env s.heap m x u
 cell:∀x c,X.env.cells.lookup x=ap c->∃v,s.heap.IsCell c v
 free:H X.env.locals=ay
 freeC:∀x c,X.env.cells.lookup x=ap c->H c=ay
 pin:∀p∈X.pn++ab2,s.heap.get? p.1=ap p.2/\H p.1=ay/\p.1≠X.env.locals/\p.1∉X.fs/\∀v,p.2.data≠.cell v
 hok:HOk X.prog X.w H s.heap
 len:U.length=X.N.length
theorem Cx.Ok.nofr(ok:X.Ok)(e:X.base.get? b=ap o):b∉X.fs:=λg=>by
 have:=(ok.funs.mem g).1
 simp_all
theorem Inv.bs(I:Inv X ab2 U H s):∀b o,X.base.get? b=ap o->s.heap.get? b=ap o/\H b=none:=λb o e=>
 #[I.base.keep b o (I.ok.bs b o e).1 (I.ok.bs b o e).2 (I.ok.nofr e) (I.ok.noex b o e),I.base.free b o (I.ok.bs b o e).1 (I.ok.bs b o e).2<|I.ok.noex b o e]
theorem Inv.bk(I:Inv X ab2 U H s):∀b o,X.base.get? b=ap o->s.heap.get? b=ap o:=λb o e=>(I.bs b o e).1
theorem Inv.mod(I:Inv X ab2 U H s):Mod X.K X.mg X.base:=I.ok.mod
theorem Inv.kIn(I:Inv X ab2 U H s):X.K.In s.heap:=I.ok.mod.kin.keeps I.bk
theorem Inv.lt(I:Inv X ab2 U H s):X.env.locals<s.heap.objs.size:=let ⟨_,hn,_⟩:=I.loc;hn.lt
theorem Inv.sz(I:Inv X ab2 U H s):X.s₀.heap.objs.size<=s.heap.objs.size:=UL I.ok.above (Ym I.lt)
theorem Inv.nofs(I:Inv X ab2 U H s)(h:s.heap.objs.size<=a):a∉X.fs:=λg=>by
 obtain⟨_,o,j,_⟩:=I.ok.funs.mem g;exact absurd (UM (UD j)<|UL I.sz h) (Vs _)
theorem Inv.cne(I:Inv X ab2 U H s):∀x c,X.env.cells.lookup x=ap c->c≠X.env.locals:=λx c e z=>by
 obtain⟨v,o,B,q⟩:=I.cell x c e;obtain⟨m,⟨l,es,y,g,j,_⟩,_⟩:=I.loc
 simp_all
theorem Inv.funs(I:Inv X ab2 U H s):s.heap.FunFrames X.base X.outer:=by
 have all:∀(l:List _),(∀b∈iT l,b∈X.fs)->X.s₀.heap.FunFrames X.base l->s.heap.FunFrames X.base l:=by
  intro l
  induction l with
  |nil=>intro _ _;trivial
  |cons env r ih=>
   rintro v ⟨B,⟨L,o,q,G,J,F⟩,y⟩
   have g:=v L (by unfold iT;rw[WB,q];exact UP)
   obtain⟨O,e⟩:=I.base.slot L o J (I.ok.frf L g) g λz=>I.ok.exfs L z g;exact#[B,#[L,_,q,G,e,F],ih (λb j=>v b (by unfold iT;rw[WB,q];exact UJ _ j)) y]
 exact all _ (λ_ j=>j) I.ok.funs
theorem Inv.stack(I:Inv X ab2 U H s):s.heap.FunFrames X.base X.stack:=by
 rcases I.ok.stk with e|⟨e,hf⟩
 .rw[e];exact I.funs
 .rw[e]
  obtain⟨m,g,_⟩:=I.loc;refine .cons (by rw[I.ok.kind];decide) hf g ?_ I.funs
  exact Heap.get?_none_of_le (UL I.ok.bsz I.ok.above)
theorem Inv.stkSub(I:Inv X ab2 U H s):∀b∈iT X.stack,b∈X.env.locals::X.fs:=λb g=>by
 rcases I.ok.stk with e|⟨e,hf⟩
 .rw[e]at g;exact UJ _ g
 rw[e]at g;unfold iT at g;rw[WB,hf]at g;exact g
theorem Inv.stkFree(I:Inv X ab2 U H s):∀b∈iT X.stack,H b=none:=λb hb=>by
 rcases UK.mp (I.stkSub b hb) with e|hb
 .rw[e];exact I.free
 obtain⟨_,o,g,_⟩:=I.ok.funs.mem hb;exact I.base.free b o g (I.ok.frf b hb) λz=>I.ok.exfs b z hb
theorem Inv.step{t':Nat}(I:Inv X ab2 U H s)(B:∀b∈ch,(b∈X.ex\/X.s₀.heap.objs.size<=b)/\b≠X.env.locals/\(∀x c,X.env.cells.lookup x=ap c->c≠b)/\∀p∈X.pn++ab2,p.1≠b)(keep:∀b o,b≠X.env.locals->b∉X.fs->b∉ch->s.heap.get? b=ap o->H b=ay->h'.get? b=ap o)(slot:∀b o,b≠X.env.locals->b∈X.fs->b∉ch->s.heap.get? b=ap o->H b=ay->∃sl,h'.get? b=ap { o with slots:=sl })(free:∀b o,b∉ch->s.heap.get? b=ap o->H b=ay->H' b=ay)(there:∀b o,b∉ch->s.heap.get? b=ap o->∃S,h'.get? b=ap S)(tups:∀b J,H b=ap (.tup J)->H' b=ap (.tup J))(frzs:∀b o u,H b=ap (.frz o u)->H' b=ap (.frz o u))(tbls:∀b ps,H b=ap (.tbl ps)->∃more,H' b=ap (.tbl (ps++more)))(ns:∀m,s.heap.Ns X.env.locals m->h'.Ns X.env.locals m)(hok:HOk X.prog X.w H' h')(hg:UV g'):
  Inv X ab2 U H' { s with heap:=h',gens:=g',drawn:=d',toks:=t' }:=by
 have W:∀b o,X.s₀.heap.get? b=ap o->b≠X.env.locals:=λb o e=>UT (UM (UD e) I.ok.above);have F:∀b o,X.s₀.heap.get? b=ap o->b∉X.ex->b∉ch:=λb o e g L=>by
  rcases (B b L).1 with z|z
  .exact g z
  .exact absurd (UM (UD e) z) (Vs _)
 have j:∀x c,X.env.cells.lookup x=ap c->∀v,s.heap.IsCell c v->h'.IsCell c v:=λx c e v ⟨o,O,Y⟩=>by
  have y:c∉ch:=λz=>(B c z).2.2.1 x c e rfl
  by_cases hc:c∈X.fs
  .obtain⟨sl,q⟩:=slot c o (I.cne x c e) hc y O (I.freeC x c e)
   exact#[_,q,Y]
  .exact#[o,keep c o (I.cne x c e) hc y O (I.freeC x c e),Y]
 refine#[I.ok,I.os,hg,#[λb o e n L g=>?_,λb o e n L g=>?_,λb o e n g=>?_,λb o e g=>?_,λb J e=>tups b J (I.base.tups b J e),λb o J e=>frzs b o J (I.base.frzs b o J e),λb ps e=>?_],?_,λx c e=>?_,?_,λx c e=>?_,λp hp=>?_,hok,I.len]
 .exact keep b o (W b o e) L (F b o e g) (I.base.keep b o e n L g) (I.base.free b o e n g)
 .obtain⟨sl,G⟩:=I.base.slot b o e n L g
  obtain⟨Z,R⟩:=slot b _ (W b o e) L (F b o e g) G (I.base.free b o e n g);exact#[Z,R]
 .obtain⟨S,G⟩:=I.base.there b o e g
  exact free b S (F b o e g) G (I.base.free b o e n g)
 .obtain⟨S,G⟩:=I.base.there b o e g
  exact there b S (F b o e g) G
 .obtain⟨m1,G⟩:=I.base.tbls b ps e
  obtain⟨m2,R⟩:=tbls b _ G;exact#[m1++m2,by rw[R,Zx]]
 .obtain⟨m,hn,hl⟩:=I.loc
  refine#[m,ns m hn,λi x v G R e3=>?_];obtain⟨u,r,l⟩:=hl i x v G R e3;refine#[u,r,?_];rcases l with l|⟨k,c,e,z⟩
  .exact .inl l
  .exact .inr #[k,c,e,j x c e _ z]
 .obtain⟨v,z⟩:=I.cell x c e
  exact#[v,j x c e v z]
 .obtain⟨m,⟨o,_,_,O,_⟩,_⟩:=I.loc
  exact free _ o (λz=>(B _ z).2.1 rfl) O I.free
 .obtain⟨v,o,O,Y⟩:=I.cell x c e
  exact free c o (λz=>(B c z).2.2.1 x c e rfl) O (I.freeC x c e)
 .obtain⟨e,n,ne,nf,d⟩:=I.pin p hp
  have y:p.1∉ch:=λz=>(B p.1 z).2.2.2 p hp rfl;exact#[keep p.1 p.2 ne nf y e n,free p.1 p.2 y e n,ne,nf,d]
theorem Inv.un{t':Nat}(I:Inv X ab2 U H s)(u:Un X.fs [] H H' s.heap h')(v:HOk X.prog X.w H' h'):Inv X ab2 U H' { s with heap:=h',toks:=t' }:=by
 obtain⟨m,⟨o,es,J,y,r⟩,_⟩:=id I.loc;obtain⟨R,G⟩:=u.any y I.free (by simp)
 exact I.step (g':=s.gens) (d':=s.drawn) (ch:=[]) (λ_ z=>nomatch z) (λb o _ l _ e n=>u.keep b o e n l (by simp)) (λb o _ l _ e n=>u.slot b o e n l (by simp)) (λb o _ e n=>u.free b o e n (by simp)) (λb o _ e=>u.there b o e (by simp)) u.tups u.frzs u.tbls (λO F=>by
  obtain⟨L,q,j,g,B⟩:=F;rw[y]at g;cases g;exact#[_,q,j,G,B]) v I.bare
theorem Inv.call{t':Nat}(I:Inv X ab2 U H s)(u:Un (iT X.stack) ch H H' s.heap h')(B:HOk X.prog X.w H' h')(O:UV g')(l:∀b∈ch,(b∈X.ex\/X.s₀.heap.objs.size<=b)/\b≠X.env.locals/\(∀x c,X.env.cells.lookup x=ap c->c≠b)/\∀p∈X.pn++ab2,p.1≠b):
  Inv X ab2 U H' { s with heap:=h',gens:=g',drawn:=d',toks:=t' }:=by
 obtain⟨m,⟨o,es,R,F,r⟩,_⟩:=id I.loc;obtain⟨Y,y⟩:=u.any F I.free λz=>(l _ z).2.1 rfl;exact I.step (ch:=ch) l (λb o y J g e n=>u.keep b o e n (λz=>(UK.mp<|I.stkSub b z).elim y J) g) (λb o _ _ g e n=>u.any e n g) (λb o g e n=>u.free b o e n g) (λb o g e=>u.there b o e g) u.tups u.frzs u.tbls (λW L=>by
  obtain⟨S,v,q,j,G⟩:=L;rw[F]at j;cases j;exact#[_,v,q,y,G]) B O
theorem Inv.turned{t':Nat}(I:Inv X ab2 U H s)(k:∀b o,b≠g->s.heap.get? b=ap o->h'.get? b=ap o)(R:H g=ay)(y:g≠X.env.locals)(S:g∈X.ex\/X.s₀.heap.objs.size<=g)(L:∀x c,X.env.cells.lookup x=ap c->c≠g)(O:∀p∈X.pn++ab2,p.1≠g):Inv X ab2 U H { s with heap:=h',toks:=t' }:=by
 have l:∀b u,H b=ap u->b≠g:=λb u e z=>by rw[z,R]at e;cases e
 refine I.step (g':=s.gens) (d':=s.drawn) (ch:=[g]) (λb B=>?_) (λb o _ _ j e _=>k b o (λz=>j (by simp[z])) e) (λb o _ _ j e _=>#[o.slots,k b o (λz=>j (by simp[z])) e]) (λ_ _ _ _ n=>n)
  (λb o j e=>#[o,k b o (λz=>j (by simp[z])) e]) (λ_ _ e=>e) (λ_ _ _ e=>e) (λb ps e=>#[(tX []),by rw[e];simp]) (λm F=>?_) (λb u e=>?_) I.bare
 .have e:b=g:=by simpa using B
  subst e;exact#[S,y,L,O]
 .obtain⟨o,es,G,J,r⟩:=F
  exact#[o,es,G,k _ o (Vb y) J,r]
 .refine (I.hok b u e).stay (λc v j q=>k c v ?_ q) (λ_ q=>q) λ_ _ q=>q
  rcases j with z|z
  .rw[z];exact l b u e
  .exact l c _ z
theorem Inv.tok(I:Inv X ab2 U H s)(t:Nat):Inv X ab2 U H { s with toks:=t }:=I.un Un.refl I.hok
theorem Inv.kept{t':Nat}(I:Inv X ab2 U H s)(k:∀b u,s.heap.get? b=ap u->h'.get? b=ap u):Inv X ab2 U H { s with heap:=h',toks:=t' }:=I.un (Un.kept k) (I.hok.kept k)
theorem Inv.laid{t':Nat}(I:Inv X ab2 U H s)(k:∀b u,s.heap.get? b=ap u->h'.get? b=ap u)(g:s.heap.objs.size<=a)(new:ObjOk X.prog X.w (upd H a o) h' a o):
  Inv X ab2 U (upd H a o) { s with heap:=h',toks:=t' }:=I.un (Un.laid k g<|I.hok.fresh g) (I.hok.laid k g new)
theorem Inv.write{x e:eg}{t':Nat}(I:Inv X ab2 U H s)(l:TC (H x))(j:e=x\/H e=ap (.own x))(k:∀b u,b≠e->s.heap.get? b=ap u->h'.get? b=ap u)(g:∃u,h'.get? e=ap u)(new:ObjOk X.prog X.w (upd H x o) h' x o):Inv X ab2 U (upd H x o) { s with heap:=h',toks:=t' }:=I.un (Un.write l j k g) (I.hok.write l j k g new)
theorem Inv.pins_of(I:Inv X ab2 U H s)(h:∀p∈g,s.heap.get? p.1=ap p.2/\H p.1=ay/\p.1≠X.env.locals/\p.1∉X.fs/\∀v,p.2.data≠.cell v):Inv X g U H s:=
 #[I.ok,I.os,I.bare,I.base,I.loc,I.cell,I.free,I.freeC,λp j=>(Vg.mp j).elim (λz=>I.pin p (W3 _ z)) (h p),I.hok,I.len]
theorem pT(q:N.Nodup){j:Nat}(a:N[i]?=ap x)(b:N[j]?=ap x):i=j:=by
 obtain⟨y,l⟩:=Ve.mp a;obtain⟨v,g⟩:=Ve.mp b;exact(List.getElem_inj q).mp (l.trans g.symm)
theorem rJ(I:Inv X ab2 U H s)(hN:X.N.Nodup)(hi:X.N[i]?=ap x)(F:xH X.env.scope x)(r:RelV v u)(h:∀s',Inv X ab2 (U.set i<|some v) H s'->(∃a,VV a s.heap s'.heap/\(a=X.env.locals\/X.env.cells.lookup x=ap a))->Q () s')(hf:X.fn x=true\/X.env.scope.names.lookup x=ap .local:=by and_intros):eS M A (storeName X.env x u) Q E s:=by
 obtain⟨m,hn,hl⟩:=id I.loc;have hcls:(X.env.scope.kind==.class||(X.env.scope.kind==.module&&X.env.locals != X.env.globals))=false:=by rw[I.ok.kind];rfl
 have L:i<U.length:=by rw[I.len];exact(Ve.mp hi).1
 have cne:=I.cne;have l:∀{a:eg}{h':h9},(∃o,s.heap.get? a=ap o/\H a=ay)->VV a s.heap h'->HOk X.prog X.w H h':=λ{a h'} ha g b ob e=>by
  obtain⟨_,_,G⟩:=ha;refine (I.hok b ob e).stay (λc w' hc q=>(g.2 c ?_).trans q) (λ_ q=>q) λ_ _ q=>q
  rintro rfl
  rcases hc with rfl|hc
  .rw[G]at e;cases e
  .rw[G]at hc;cases hc
 rcases F with hk|hk
 .refine wpAny_storeName_local hk hn (λh' hn' g=>?_) hcls
  obtain⟨oL,_,_,hoL,_⟩:=id hn;refine h _ #[I.ok,I.os,I.bare,#[λb o e n R F=>?_,λb o e n R F=>?_,I.base.free,λb o e F=>?_,I.base.tups,I.base.frzs,I.base.tbls],#[_,hn',λj y v' B J e3=>?_],λy c e=>?_,I.free,I.freeC,λp hp=>?_,l #[oL,hoL,I.free] g,by simpa using I.len] #[_,g,.inl rfl]
  .exact(g.2 b<|UT<|UM (UD e) I.ok.above).trans (I.base.keep b o e n R F)
  .obtain⟨sl,B⟩:=I.base.slot b o e n R F
   exact#[sl,(g.2 b<|UT<|UM (UD e) I.ok.above).trans B]
  .obtain⟨o',B⟩:=I.base.there b o e F
   exact#[o',(g.2 b<|UT<|UM (UD e) I.ok.above).trans B]
  .by_cases S:j=i
   .subst S
    rw[hi]at B;cases B;rw[WS L]at J;cases J;exact#[u,r,.inl #[hk,by simp]]
   .rw[XX (Vb S)]at J
    obtain⟨u',r',q⟩:=hl j y v' B J e3;refine#[u',r',?_];rcases q with⟨k,e⟩|⟨k,c,e,z⟩
    .refine .inl #[k,?_]
     have:y≠x:=λe=>S (pT hN B (e▸hi));simp[this,e]
    .exact .inr #[k,c,e,z.sameBut g<|cne y c e]
  .obtain⟨w',z⟩:=I.cell y c e
   exact#[w',z.sameBut g<|cne y c e]
  .obtain⟨e,n,ne,nf,d⟩:=I.pin p hp
   exact#[(g.2 p.1 ne).trans e,n,ne,nf,d]
 .have O:X.fn x=true:=by
   rcases hf with z|z
   .exact z
   .rw[z]at hk;cases hk
  obtain⟨c,hc⟩:=I.ok.has x (.inl hk);obtain⟨w',z⟩:=I.cell x c hc;refine wpAny_storeName_cell I.ok.kind hk hc z (λh' hc' g=>?_);obtain⟨oc,Y,Z⟩:=id z;refine h { s with heap:=h' } #[I.ok,I.os,I.bare,#[λb o e n R F=>?_,λb o e n R F=>?_,I.base.free,λb o e F=>?_,I.base.tups,I.base.frzs,I.base.tbls],#[m,hn.sameBut g (Vb<|cne x c hc),λj y v' B J e3=>?_],λy c' e=>?_,I.free,I.freeC,λp hp=>?_,l #[oc,Y,I.freeC x c hc] g,by simpa using I.len] #[c,g,.inr hc]
  .exact(g.2 b<|UT<|UM (UD e)<|I.ok.cab x c O hc).trans (I.base.keep b o e n R F)
  .obtain⟨sl,B⟩:=I.base.slot b o e n R F
   exact#[sl,(g.2 b<|UT<|UM (UD e)<|I.ok.cab x c O hc).trans B]
  .obtain⟨o',B⟩:=I.base.there b o e F
   exact#[o',(g.2 b<|UT<|UM (UD e)<|I.ok.cab x c O hc).trans B]
  .by_cases S:j=i
   .subst S
    rw[hi]at B;cases B;rw[WS L]at J;cases J;exact#[u,r,.inr #[.inl hk,c,hc,hc']]
   .rw[XX (Vb S)]at J
    obtain⟨u',r',q⟩:=hl j y v' B J e3;refine#[u',r',?_];rcases q with q|⟨k,c',e,z'⟩
    .exact .inl q
    .refine .inr #[k,c',e,z'.sameBut g ?_]
     rintro rfl
     exact S (pT hN B (I.ok.inj _ _ _ e hc▸hi))
  .by_cases W:c'=c
   .subst W;exact#[_,hc']
   .obtain⟨w2,z2⟩:=I.cell y c' e
    exact#[w2,z2.sameBut g W]
  .obtain⟨e,n,ne,nf,d⟩:=I.pin p hp
   refine#[(g.2 p.1 ?_).trans e,n,ne,nf,d];intro q;rw[q,Y]at e;have q':oc=p.2:=VG e;exact d w' (by rw[<- q'];exact Z)
theorem gE(I:Inv X ab2 U H s)(q:X.N.Nodup)(l:X.N[i]?=ap x)(g:xH X.env.scope x)(r:RelV v u)(h:∀s',Inv X ab2 (U.set i<|some v) H s'->Q () s')(j:X.fn x=true\/X.env.scope.names.lookup x=ap .local:=by and_intros):eS M A (storeName X.env x u) Q E s:=
 rJ I q l g r (λs' I' _=>h s' I') j
theorem Inv.call'(I:Inv X ab2 U H s)(v:s'.os=s.os)(u:Un (iT X.stack) ch H H' s.heap s'.heap)(j:HOk X.prog X.w H' s'.heap)(q:UV s'.gens)(g:∀b∈ch,(b∈X.ex\/X.s₀.heap.objs.size<=b)/\b≠X.env.locals/\(∀x c,X.env.cells.lookup x=ap c->c≠b)/\∀p∈X.pn++ab2,p.1≠b):Inv X ab2 U H' s':=by
 obtain⟨h',g',d',t',l⟩:=s';have e:l=s.os:=v;subst e;exact I.call (g':=g') (t':=t') (d':=d') u j q g
abbrev XK:=ax->Option eg->Hp->Prop
abbrev St:=List (Option V)
abbrev VK:=V->Hp->Prop
abbrev TE:=St->Hp->VK->Prop
abbrev TT:=St->Hp->(Bool->Hp->Prop)->Prop
abbrev TA:=St->Hp->(List V->Hp->Prop)->Prop
structure Ends where
 nx:St->Hp->Prop
 rt:VK
 bk:St->Hp->Prop:=λ_ _=>False
 ct:St->Hp->Prop:=λ_ _=>False
abbrev TS:=Ends->St->Hp->Prop
inductive EP(X:Cx)(ab2:acg)(U:St)(Q:VK)(u:ax)(s':ez):Prop
 |mk (v:V) (H':Hp) (h0:Inv X ab2 U H' s') (h1:RelV v u) (h2:Q v H'):EP X ab2 U Q u s'
inductive TP(X:Cx)(ab2:acg)(U:St)(Q:Bool->Hp->Prop)(b:Bool)(s':ez):Prop
 |mk (H':Hp) (h0:Inv X ab2 U H' s') (h1:Q b H'):TP X ab2 U Q b s'
inductive AP(X:Cx)(ab2:acg)(U:St)(Q:List V->Hp->Prop)(us:aca)(s':ez):Prop
 |mk (vs:List V) (H':Hp) (h0:Inv X ab2 U H' s') (h1:Vals vs us) (h2:Q vs H'):AP X ab2 U Q us s'
def SP(X:Cx)(ab2:acg)(D:Ends)(f:Flow)(s':ez):Prop:=
 match f with
 |.next=>∃σ' H',Inv X ab2 σ' H' s'/\D.nx σ' H'
 |.brk=>∃σ' H',Inv X ab2 σ' H' s'/\D.bk σ' H'
 |.cont=>∃σ' H',Inv X ab2 σ' H' s'/\D.ct σ' H'
 |.ret u=>∃v σ' H',Inv X ab2 σ' H' s'/\RelV v u/\D.rt v H'
def PE(X:Cx)(e:f')(t:TE):Prop:=
 ∀(ab2:acg)(s:ez)(U:St)(H:Hp)(Q:VK),Inv X ab2 U H s->t U H Q->eS (fv X.prog X.w) X.A (g3 e X.env) (EP X ab2 U Q) X.xe s
def PT(X:Cx)(e:f')(t:TT):Prop:=
 ∀(ab2:acg)(s:ez)(U:St)(H:Hp)(Q:Bool->Hp->Prop),Inv X ab2 U H s->t U H Q->eS (fv X.prog X.w) X.A (isTrue e X.env<|eval e X.env) (TP X ab2 U Q) X.xe s
def PW(X:Cx)(e:f')(t:TT):Prop:=
 ∀(whole:Sem ax)(ab2:acg)(s:ez)(U:St)(H:Hp)(Q:Bool->Hp->Prop),Inv X ab2 U H s->t U H Q->eS (fv X.prog X.w) X.A (isTrue e X.env whole) (TP X ab2 U Q) X.xe s
def PA(X:Cx)(es:acd)(t:TA):Prop:=
 ∀(pos:Pos)(ab2:acg)(s:ez)(U:St)(H:Hp)(Q:List V->Hp->Prop),Inv X ab2 U H s->t U H Q->eS (fv X.prog X.w) X.A (spliced<|backTo pos<|starEach es X.env) (AP X ab2 U Q) X.xe s
def PS(X:Cx)(st:om)(t:TS):Prop:=
 ∀(ab2:acg)(s:ez)(U:St)(H:Hp)(D:Ends),Inv X ab2 U H s->t D U H->eS (fv X.prog X.w) X.A (exec st X.env) (SP X ab2 D) X.xe s
def wk(X:Cx)(st:ace)(t:TS):Prop:=
 ∀(ab2:acg)(s:ez)(U:St)(H:Hp)(D:Ends),Inv X ab2 U H s->t D U H->eS (fv X.prog X.w) X.A (execs st X.env) (SP X ab2 D) X.xe s
theorem bE(h:eS M A t Q E s)(g:∀a s,Q a s->Q' a s):eS M A t Q' E s:=kr h g λ_ _ x=>x
section
def Q0(i:Nat):TE:=λU H Q=>∃v,U[i]?=ap (ap v)/\Q v H
def tC(v:V):TE:=λ_ H Q=>Q v H
theorem G_(B:X.N[i]?=ap x)(z:RG X.env.scope x)(g:(x==("__debug__":Str))=false:=by decide)(hcd:(x==("__classdict__":Str))=false:=by decide):PE X (.Name x pos) (Q0 i):=by
 rintro ab2 s U H Q I ⟨v,e,h⟩
 obtain⟨m,y,j⟩:=I.loc;obtain⟨u,r,l⟩:=j i x v B e z;have fin:EP X _ U Q u s:=#[v,H,I,r,h];rcases l with⟨hk,q⟩|⟨hk,c,hc,hcell⟩
 .exact wpAny_Name (abX I.ok.kind hk y q fin) g
 rcases hk with hk|hk
 .exact wpAny_Name (wpAny_loadName_cell I.ok.kind hk hc hcell fin) g
 exact wpAny_Name (wpAny_loadName_free I.ok.kind hk hc hcell fin hcd) g
theorem Tv{b j pos}:PE X (.Constant (.bool b) j pos) (tC<|.bl b):=λ_ _ _ H _ I h=>Constant_bool #[.bl b,H,I,rfl,h]
theorem QT{j pos}:PE X (.Constant .none j pos) (tC .non):=λ_ _ _ H _ I h=>Constant_none #[.non,H,I,rfl,h]
theorem I_{x j pos}:PE X (.Constant (.str x) j pos) (tC<|.str x):=λ_ _ _ H _ I h=>Calls.Constant_str #[.str x,H,I.tok _,#[_,rfl],h]
def Gl(X:Cx)(x:Str):Prop:=X.env.kindOf x=ap .globalImplicit
theorem dF(I:Inv X ab2 U H s)(g:Gl X x)(l:X.mg x=ap u)(h:Q u s)(j:(x==("__debug__":Str))=false:=by decide):eS (fv X.prog X.w) X.A (g3 (.Name x pos) X.env) Q E s:=
 YD I.ok.kind g (Calls.loadGlobal_global (by rw[I.ok.glob];exact I.mod.glob.keeps I.bk) l h) j
theorem dZ(I:Inv X ab2 U H s)(l:Gl X x)(v:X.mg x=ay)(q:fy x=ap u)(h:Q u s)(y:x≠"__name__":=by decide)(hd:(x==("__debug__":Str))=false:=by decide):eS (fv X.prog X.w) X.A (g3 (.Name x pos) X.env) Q E s:=by
 obtain⟨z,j,g⟩:=I.mod.blt;exact YD I.ok.kind l (Calls.loadGlobal_builtin (by rw[I.ok.glob];exact I.mod.glob.keeps I.bk) v (by rw[I.ok.blt];exact j.keeps I.bk) ((g x y).trans q) h) hd
theorem Lu(g:Gl X x)(l:X.mg x=ap u)(r:RelV v u)(j:(x==("__debug__":Str))=false:=by decide):PE X (.Name x pos) (tC v):=
 λ_ _ _ H _ I h=>dF I g l #[v,H,I,r,h] j
theorem KH(g:Gl X x)(l:X.mg x=ay)(j:fy x=ap u)(r:RelV v u)(q:x≠"__name__":=by decide)(hd:(x==("__debug__":Str))=false:=by decide):PE X (.Name x pos) (tC v):=
 λ_ _ _ H _ I h=>dZ I g l j #[v,H,I,r,h] q hd
variable{a b:f'}
def tAnd(t u:TT):TT:=λU H Q=>t U H λc H1=>if c=true then u U H1 Q else Q eC H1
def tOr(t u:TT):TT:=λU H Q=>t U H λc H1=>if c=true then Q true H1 else u U H1 Q
def tNot(t:TT):TT:=λU H Q=>t U H λc H1=>Q (!c) H1
theorem Ld(g:PT X a tA):PW X (.BoolOp .And [a] pos) tA:=by
 intro l ab2 s U H Q I h;refine isTrue_and (bE (g _ s U H Q I h) λc j e=>?_);cases c with
 |true=>exact isTrue_and_nil e
 |false=>exact e
theorem Rx(g:PT X a tA):PW X (.BoolOp .Or [a] pos) tA:=by
 intro l ab2 s U H Q I h;refine isTrue_or (bE (g _ s U H Q I h) λc j e=>?_);cases c with
 |false=>exact isTrue_or_nil e
 |true=>exact e
theorem QG(y:PT X a tA)(v:PW X (.BoolOp .And (b::rest) pos) tB'):PW X (.BoolOp .And (a::b::rest) pos) (tAnd tA tB'):=by
 intro l ab2 s U H Q I h;refine isTrue_and (bE (y _ s U H _ I h) λc q j=>?_);obtain⟨H1,I1,g⟩:=j;cases c with
 |true=>exact v l _ q U H1 Q I1 g
 |false=>exact#[H1,I1,g]
theorem RO(y:PT X a tA)(v:PW X (.BoolOp .Or (b::rest) pos) tB'):PW X (.BoolOp .Or (a::b::rest) pos) (tOr tA tB'):=by
 intro l ab2 s U H Q I h;refine isTrue_or (bE (y _ s U H _ I h) λc q j=>?_);obtain⟨H1,I1,g⟩:=j;cases c with
 |true=>exact#[H1,I1,g]
 |false=>exact v l _ q U H1 Q I1 g
theorem NY(g:PT X a tA):PT X (.UnaryOp .Not a pos) (tNot tA):=by
 intro ab2 s U H Q I h;exact isTrue_not (kr (g _ s U H _ I h) (λc j z=>by cases z with|mk a b d=>exact#[a,b,d]) λ_ _ e=>e)
def Sf(ta tb:TE):TE:=λU H Q=>ta U H λx H1=>∃c,x=.bl c/\if c=true then tb U H1 Q else Q (.bl eC) H1
def SU(ta:TE):TE:=λU H Q=>ta U H λx H1=>∃c,x=.bl c/\Q (.bl<|!c) H1
theorem OD{op}(h:PE X a t):PE X (.BoolOp op [a] pos) t:=λab2 s U H Q I g=>BoolOp_one (h _ s U H Q I g)
theorem PK(z:PE X a ta)(y:PE X (.BoolOp .And (b::rest) pos) tb):PE X (.BoolOp .And (a::b::rest) pos) (Sf ta tb):=by
 intro ab2 s U H Q I h;refine BoolOp_and (bE (z _ s U H _ I h) λv q j=>?_);obtain⟨x,H1,I1,l,g⟩:=j;obtain⟨c,rfl,g⟩:=g;cases l;refine vr ?_;cases c with
 |true=>exact y _ q U H1 Q I1 g
 |false=>exact#[.bl _,H1,I1,rfl,g]
theorem Q6(q:PE X a ta):PE X (.UnaryOp .Not a pos) (SU ta):=by
 intro ab2 s U H Q I h;refine UnaryOp_ (bE (q _ s U H _ I h) λv y j=>?_);obtain⟨x,H1,I1,l,g⟩:=j;obtain⟨c,rfl,g⟩:=g;cases l;exact not_of (vr #[.bl !c,H1,I1,rfl,g])
def tIf(t:TT)(ta tb:TE):TE:=λU H Q=>t U H λc H1=>if c=true then ta U H1 Q else tb U H1 Q
theorem IH(q:PT X c tA)(y:PE X a ta)(v:PE X b tb):PE X (.IfExp c a b pos) (tIf tA ta tb):=by
 intro ab2 s U H Q I h;refine wpAny_IfExp (bE (q _ s U H _ I h) λd j l=>?_);obtain⟨H1,I1,g⟩:=l;cases d with
 |true=>exact y _ j U H1 Q I1 g
 |false=>exact v _ j U H1 Q I1 g
end
def SqL(K:UE)(H:Hp)(a:eg)(xs:List V):Prop:=
 Rd H a (.lst xs)\/
  ∃(o:Obj)(ab8:aci)(n:Nat),K.lookup a=ap o/\o.cls=.type "list"/\o.dict=ay/\o.data=.seq ab8 n/\ab8.size<=sizeLine/\Vals xs ab8.toList
def lW(K:UE)(H:Hp)(a:eg)(xs:List V):Prop:=
 Rd H a (.tup xs)\/
  ∃(o:Obj)(ab8:aci)(n:Nat),K.lookup a=ap o/\o.cls=.type "tuple"/\o.data=.seq ab8 n/\ab8.size<=sizeLine/\Vals xs ab8.toList
noncomputable def absV:ax->Option V
 |.none=>ap .non
 |.bool b=>ap (.bl b)
 |.int i _=>ap (.int i)
 |.str x _=>ap (.str x)
 |.bytes b _=>ap (.byt b)
 |.float b _=>ap (.flt b)
 |.ref a=>ap (.ref a)
 |.type n=>ap (.ty n)
 |_=>ay
theorem RelV.abs{x:V}(r:RelV x u):absV u=ap x:=by
 cases x with
 |non=>cases r;rfl
 |bl _=>cases r;rfl
 |int _=>obtain⟨t,rfl⟩:=r;rfl
 |str _=>obtain⟨t,rfl⟩:=r;rfl
 |byt _=>obtain⟨t,rfl⟩:=r;rfl
 |flt _=>obtain⟨t,rfl⟩:=r;rfl
 |ref _=>cases r;rfl
 |ty _=>cases r;rfl
theorem RelV.inj{x:V}(r:RelV x u)(q:RelV y u):x=y:=VG (r.abs.symm.trans q.abs)
theorem Vals.inj:∀{xs ys:List V}{us:aca},Vals xs us->Vals ys us->xs=ys:=by
 intro xs ys us h
 induction h generalizing ys with
 |nil=>intro h';cases h';rfl
 |cons r _ ih=>intro h';cases h' with|cons r' t'=>rw[r.inj r',ih t']
theorem SqL.of(h:H a=ap (.lst xs)):SqL K H a xs:=.inl (.inl h)
theorem Inv.list(I:Inv X ab2 U H s)(h:SqL X.K H a xs):∃ab8:List ax,Vals xs ab8/\PlainL s.heap a ab8.toArray/\xs.length<=sizeLine:=by
 rcases h with h|⟨o,ab8,n,hk,hc,hd,hs,hz,r⟩
 .obtain⟨z,ab8,n,r,e⟩:=h.ok I.hok
  exact#[_,r,#[_,n,e,rfl,rfl,rfl],z]
 refine#[_,r,#[o,n,I.kIn a o hk,hc,hd,by simpa using hs],?_]
 have e:=r.length;simp only[W6]at e;lia
theorem Inv.tuple(I:Inv X ab2 U H s)(h:lW X.K H a xs):∃ab8:List ax,Vals xs ab8/\IsTup s.heap a ab8.toArray/\xs.length<=sizeLine:=by
 rcases h with h|⟨o,ab8,n,hk,hc,hs,hz,r⟩
 .obtain⟨z,ab8,r,g,e,c,_⟩:=h.ok I.hok
  exact#[_,r,#[g,e,c],z]
 refine#[_,r,#[o,I.kIn a o hk,hc,n,by simpa using hs],?_]
 have e:=r.length;simp only[W6]at e;lia
theorem Inv.list_inj(I:Inv X ab2 U H s)(h:SqL X.K H a xs)(h':SqL X.K H a ys):xs=ys:=by
 obtain⟨j,r,⟨o,n,e,_,_,d⟩,_⟩:=I.list h;obtain⟨g,v,⟨y,z,l,_,_,q⟩,_⟩:=I.list h';rw[e]at l;cases l;rw[d]at q
 injection q with d1 _
 have:j=g:=by simpa using congrArg W9 d1
 subst this;exact r.inj v
theorem Inv.tuple_inj(I:Inv X ab2 U H s)(h:lW X.K H a xs)(h':lW X.K H a ys):xs=ys:=by
 obtain⟨j,r,⟨o,e,_,n,d⟩,_⟩:=I.tuple h;obtain⟨g,v,⟨y,l,_,z,q⟩,_⟩:=I.tuple h';rw[e]at l;cases l;rw[d]at q
 injection q with d1 _
 have:j=g:=by simpa using congrArg W9 d1
 subst this;exact r.inj v
noncomputable abbrev Cx.wish(X:Cx)(E:acf):Cx:={ X with xe:=E }
abbrev Cx.nox(X:Cx):Cx:=X.wish λ_ _=>False
theorem Cx.Ok.wish(ok:X.Ok)(E:acf):(X.wish E).Ok:=
 #[ok.mod,ok.kind,ok.glob,ok.blt,ok.above,ok.inj,ok.has,ok.cab,ok.hd,ok.frames,ok.stk,ok.exf,ok.bs,ok.bsz,ok.noex,ok.exfs,ok.funs,ok.frf]
theorem Cx.Ok.unwish(ok:(X.wish E).Ok):X.Ok:=
 #[ok.mod,ok.kind,ok.glob,ok.blt,ok.above,ok.inj,ok.has,ok.cab,ok.hd,ok.frames,ok.stk,ok.exf,ok.bs,ok.bsz,ok.noex,ok.exfs,ok.funs,ok.frf]
theorem Inv.wish(I:Inv X ab2 U H s)(E:acf):Inv (X.wish E) ab2 U H s:=#[I.ok.wish E,I.os,I.bare,I.base,I.loc,I.cell,I.free,I.freeC,I.pin,I.hok,I.len]
theorem Inv.unwish(I:Inv (X.wish E) ab2 U H s):Inv X ab2 U H s:=#[I.ok.unwish,I.os,I.bare,I.base,I.loc,I.cell,I.free,I.freeC,I.pin,I.hok,I.len]
section
variable{st:om}
def TH:TS:=λD U H=>D.nx U H
def tSeq(t u:TS):TS:=λD U H=>t { D with nx:=u D } U H
theorem Ht(y:PS X st t)(l:wk X rest u):wk X (st::rest) (tSeq t u):=by
 intro ab2 s U H D I h;refine V' (bE (y _ s U H _ I h) λf j q=>?_);cases f with
 |next=>
  obtain⟨g,H',I',q⟩:=q;exact l _ j _ H' D I' q
 |ret v=>exact q
 |brk=>exact q
 |cont=>exact q
theorem CV(g:PS X st t):wk X [st] t:=by
 intro ab2 s U H D I h;refine V' (bE (g _ s U H D I h) λf j q=>?_);cases f with
 |next=>exact pa q
 |ret v=>exact q
 |brk=>exact q
 |cont=>exact q
theorem Inv.quiet(I:Inv X ab2 U H s):interactive X.env=false:=by simp[interactive,I.ok.kind]
def TR(te:TE):TS:=λD U H=>te U H λ_ H1=>D.nx U H1
theorem JV(j:PE X e te)(l:mo e ay pos.line X.env=pure false:=by rfl):PS X (.Expr e pos) (TR te):=by
 intro ab2 s U H D I h;exact wpAny_Expr_any (bE (j _ s U H _ I h)<|by rintro v q ⟨x,H1,I1,y,g⟩;exact#[U,H1,I1,g]) I.quiet l
def tRet(te:TE):TS:=λD U H=>te U H D.rt
def tIfS(c:TT)(t u:TS):TS:=λD U H=>c U H λb H1=>if b=true then t D U H1 else u D U H1
theorem T9{a b:ace}(v:PT X c l)(z:wk X a t)(y:wk X b u):PS X (.If c a b pos) (tIfS l t u):=by
 intro ab2 s U H D I h;refine wpAny_If (bE (v _ s U H _ I h) λd j q=>?_);obtain⟨H1,I1,g⟩:=q;cases d with
 |true=>exact z _ j U H1 D I1 g
 |false=>exact y _ j U H1 D I1 g
end
abbrev TG:=V->St->Hp->(St->Hp->Prop)->Prop
abbrev MC:=List V->St->Hp->(St->Hp->Prop)->Prop
def PG(X:Cx)(target:f')(t:TG):Prop:=
 ∀(ab2:acg)(s:ez)(U:St)(H:Hp)(v:V)(u:ax)(Q:St->Hp->Prop),Inv X ab2 U H s->RelV v u->t v U H Q->
  eS (fv X.prog X.w) X.A (abl target X.env u) (λ_ g=>∃σ' H',Inv X ab2 σ' H' g/\Q σ' H') X.xe s
def Qo(X:Cx)(ts:acd)(t:MC):Prop:=
 ∀(ab2:acg)(s:ez)(U:St)(H:Hp)(vs:List V)(us:aca)(Q:St->Hp->Prop),Inv X ab2 U H s->Vals vs us->t vs U H Q->
  eS (fv X.prog X.w) X.A (assignInOrder ((mu ts X.env).map (·.2)) us) (λ_ g=>∃σ' H',Inv X ab2 σ' H' g/\Q σ' H') X.xe s
abbrev Fv:=V->V->V->Hp->(Hp->Prop)->Prop
def Ma(X:Cx)(t:Fv):Prop:=
 ∀(ab2:acg)(s:ez)(U:St)(H:Hp)(o i v:V)(ov iv u:ax)(Q:Hp->Prop),Inv X ab2 U H s->RelV o ov->RelV i iv->RelV v u->t o i v H Q->
  eS (fv X.prog X.w) X.A (abq ov iv u) (λ_ g=>∃H',Inv X ab2 U H' g/\Q H') X.xe s
abbrev RH:=V->V->Hp->VK->Prop
def Im(X:Cx)(op:WF)(t:RH):Prop:=
 ∀(ab2:acg)(s:ez)(U:St)(H:Hp)(x y:V)(v u:ax)(Q:VK),Inv X ab2 U H s->RelV x v->RelV y u->t x y H Q->
  eS (fv X.prog X.w) X.A (inplaceOp op v u) (EP X ab2 U Q) X.xe s
def Nr(i:Nat):TG:=λv U H Q=>Q (U.set i<|some v) H
theorem Lm(q:X.N.Nodup)(l:X.N[i]?=ap x)(g:xH X.env.scope x)(j:X.fn x=true\/X.env.scope.names.lookup x=ap .local:=by and_intros):PG X (.Name x pos) (Nr i):=by
 intro ab2 s U H v u Q I r h;exact wpAny_assign_Name (gE I q l g r (λy I'=>#[_,H,I',h]) j)
def gNil:MC:=λg U H Q=>g=[]/\Q U H
def RW(t:TG)(u:MC):MC:=λj U H Q=>∃v r,j=v::r/\t v U H λg H'=>u r g H' Q
theorem LZ:Qo X [] gNil:=by
 rintro ab2 s U H g us Q I r ⟨e,h⟩
 exact assignInOrder_nil #[U,H,I,h]
theorem Gx(z:PG X e t)(y:Qo X es u)(q:(mu (e::es) X.env).map (·.2)=abl e X.env::(mu es X.env).map (·.2):=by rfl):Qo X (e::es) (RW t u):=by
 rintro ab2 s U H B us Q I r ⟨v,F,g,h⟩
 subst g;cases r with
 |cons r rr=>
  rw[q];exact assignInOrder_cons (bE (z _ s U H _ _ _ I r h)<|by rintro _ l ⟨_,H1,I1,j⟩;exact(y _ l _ H1 _ _ Q I1 rr j))
def gTup(K:UE)(n:Nat)(t:MC):TG:=λv U H Q=>∃a xs,v=.ref a/\lW K H a xs/\xs.length=n/\t xs U H Q
theorem OT(hc:X.calm=true)(h:Qo X es t)(hn:(mu es X.env).length=n:=by rfl)(hst:(mu es X.env).findIdx? (·.1)=none:=by rfl):PG X (.Tuple es k pos) (gTup X.K n t):=by
 rintro ab2 s U H v u Q I r ⟨a,xs,e1,hq,hl,hw⟩
 subst e1;cases r;obtain⟨ab8,rv,ht,hz⟩:=I.tuple hq;refine assign_Tuple_tuple (I.ok.hd hc) ht (by simp[hn,<- hl,rv.length]) hst λh' hx=>?_
 have I1:Inv X _ U H _:=I.kept (t':=s.toks) λb o e=>hx b o (UT<|UD e) e;exact h _ _ U H xs _ Q I1 (by trivial) hw
def gSub(to ti:TE)(t:Fv):TG:=λv U H Q=>to U H λo H1=>ti U H1 λi H2=>t o i v H2 λH3=>Q U H3
theorem OX{i:f'}(J:PE X o to)(L:PE X i ti)(G:Ma X t)(O:∀v,abl (.Subscript o i pos) X.env v=(do
   let ov <- py [v] (g3 o X.env)
   let iv <- py [v,ov] (g3 i X.env)
   R' pos
   py [v,ov,iv] (abq ov iv v)
   release [v,ov,iv] []):=by intro _;rfl):PG X (.Subscript o i pos) (gSub to ti t):=by
 intro ab2 s U H v u Q I r h;rw[O];refine cT (ol (bE (J _ s U H _ I h) λov l j=>?_));obtain⟨x,H1,I1,F,B⟩:=j;exact cT (ol<|bE (L _ l U H1 _ I1 B)<|by rintro iv s2 ⟨y,H2,I2,g,q⟩;exact(cT<|wpAny_standAt<|wpAny_bind<|wpAny_holding<|bE (G ab2 s2 U H2 x y v ov iv u _ I2 F g r q)<|by rintro _ R ⟨H3,I3,z⟩;exact(wpAny_release #[U,H3,I3,z])))
def SO(te:TE)(g:TG):TS:=λD U H=>te U H λx H1=>g x U H1 D.nx
theorem QA(F:PE X e te)(B:PG X tg g)(G:swapsWithSole [tg] e pos.line X.env=pure false:=by rfl)(hw:swappedStores [tg] e X.env=pure none:=by rfl)(h1:(mu [tg] X.env).map (·.2)=[abl tg X.env]:=by rfl):PS X (.Assign [tg] e pos) (SO te g):=by
 intro ab2 s U H D I h;refine wpAny_Assign_stores (bE (F _ s U H _ I h) λv z l=>?_) G hw;obtain⟨x,H1,I1,y,j⟩:=l;rw[h1];exact bE (B _ z U H1 x v _ I1 y j) λ_ s2 q=>q
theorem Hn(q:X.N.Nodup)(B:X.N[i]?=ap x)(F:xH X.env.scope x)(l:PE X e te)(z:mo e (ap<|.Name x pos') pos.line X.env=pure false:=by rfl)(hf:X.fn x=true\/X.env.scope.names.lookup x=ap .local:=by and_intros):
  PS X (.Assign [.Name x pos'] e pos) (SO te<|Nr i):=by
 intro ab2 s U H D I h;refine wpAny_Assign_Name (bE (l ab2 s U H _ I h) λv G ⟨y,H1,I1,j,g⟩=>?_) z;exact gE I1 q B F j (λs2 I2=>#[_,H1,I2,g]) hf
def tAug(i:Nat)(te:TE)(ti:RH):TS:=λD U H=>∃x,U[i]?=ap (ap x)/\te U H λy H1=>ti x y H1 λz H2=>D.nx (U.set i<|some z) H2
theorem P_(hN:X.N.Nodup)(F:X.N[i]?=ap x)(B:xH X.env.scope x)(he:PE X e te)(ho:Im X op ti)(hf:X.fn x=true\/X.env.scope.names.lookup x=ap .local:=by and_intros):
  PS X (.AugAssign (.Name x pos') op e pos) (tAug i te ti):=by
 rintro ab2 s U H D I ⟨v,Y,h⟩
 obtain⟨m,J,G⟩:=I.loc;have q:RG X.env.scope x:=by rcases B with k|k;exact .inl k;exact .inr (.inl k)
 obtain⟨u,r,l⟩:=G i x v F Y q;refine wpAny_AugAssign_Name ?_;have go:eS (fv X.prog X.w) X.A (g3 e X.env) (λw j=>eS (fv X.prog X.w) X.A (inplaceOp op u w) (λr g=>eS (fv X.prog X.w) X.A (storeName X.env x r) (λ_=>SP X ab2 D .next) X.xe g) X.xe j) X.xe s:=by
  exact bE (he _ s U H _ I h) (by rintro w W ⟨y,H1,I1,O,Z⟩;exact bE (ho ab2 W U H1 v y u w _ I1 r O Z) (by rintro z s2 ⟨zv,H2,I2,S,R⟩;exact gE I2 hN F B S (λs3 I3=>#[_,H2,I3,R]) hf))
 rcases l with⟨hk,L⟩|⟨hk,c,hc,hcell⟩
 .exact abX I.ok.kind hk J L go
 rcases hk with hk|hk
 .exact wpAny_loadName_cell I.ok.kind hk hc hcell go
 rcases B with k|k
 .have:X.env.scope.names.lookup x=ap .free:=hk
  rw[k]at this;cases this
 .have:X.env.scope.names.lookup x=ap .free:=hk
  rw[k]at this;cases this
def Te(to ti te:TE)(tget:V->V->Hp->VK->Prop)(tip:RH)(tset:Fv):TS:=λD U H=>to U H λo H1=>ti U H1 λi H2=>tget o i H2 λx H3=>te U H3 λy H4=>tip x y H4 λz H5=>tset o i z H5 λH6=>D.nx U H6
def S2(X:Cx)(t:V->V->Hp->VK->Prop):Prop:=
 ∀(ab2:acg)(s:ez)(U:St)(H:Hp)(o i:V)(ov iv:ax)(Q:VK),Inv X ab2 U H s->RelV o ov->RelV i iv->t o i H Q->
  eS (fv X.prog X.w) X.A (W' ov iv) (EP X ab2 U Q) X.xe s
theorem LO{i:f'}(ho:PE X o to)(hi:PE X i ti)(hg:S2 X j)(he:PE X e te)(hp:Im X op z)(hs:Ma X g)(ha:∀l q new,augStore i l q new=(do py [new,l,q] (abq l q new);release [new,l,q] [];pure .next):=by intros;rfl):PS X (.AugAssign (.Subscript o i tpos) op e pos) (Te to ti te j z g):=by
 intro ab2 s U H D I h;refine wpAny_AugAssign_SubscriptAny (bE (ho _ s U H _ I h) λl s1 y=>?_) ha;obtain⟨J,H1,I1,F,q1⟩:=y;refine bE (hi _ s1 U H1 _ I1 q1) λq s2 y=>?_;obtain⟨L,H2,I2,G,W⟩:=y;refine bE (hg _ s2 U H2 J L l q _ I2 F G W) λB Y y=>?_;obtain⟨x3,H3,I3,r3,q3⟩:=y;exact bE (he _ Y U H3 _ I3 q3) λv Z ⟨x4,H4,I4,O,q4⟩=>bE (hp ab2 Z U H4 x3 x4 B v _ I4 r3 O q4) (by rintro new R ⟨x5,H5,I5,r5,q5⟩;exact bE (hs ab2 R U H5 J L x5 l q new _ I5 F G r5 q5) (by rintro _ s6 ⟨H6,I6,S⟩;exact#[U,H6,I6,S]))
def ipI(f:Int->Int->Int):RH:=λx y H Q=>∃i j,x=.int i/\y=.int j/\Q (.int<|f i j) H
theorem Rj:Im X .Add (ipI λi j=>i+j):=by
 rintro ab2 s U H x y v u Q I l g ⟨i,j,z,B,q⟩
 subst z B;obtain⟨t,rfl⟩:=l;obtain⟨t',rfl⟩:=g;exact iadd_int #[.int _,H,I.tok _,#[_,rfl],q]
theorem Rb:Im X .Sub (ipI λi j=>i-j):=by
 rintro ab2 s U H x y v u Q I l g ⟨i,j,z,B,q⟩
 subst z B;obtain⟨t,rfl⟩:=l;obtain⟨t',rfl⟩:=g;exact isub_int #[.int _,H,I.tok _,#[_,rfl],q]
def PV(c:TT)(tb:TS):TS:=λD U H=>∃W:Nat->St->Hp->Prop,(∃m,W m U H)/\∀m U H,W m U H->
 c U H λb H1=>if b=true then ∃N:St->Hp->Prop,(∀σ' H',N σ' H'->∃m',m'<m/\W m' σ' H')/\tb { D with nx:=N,ct:=N,bk:=D.nx } U H1 else D.nx U H1
theorem Gv(G:abG (fv X.prog X.w) X.A X.env X.xe)(hc:PT X c J)(hb:wk X body tb):PS X (.While c body [] pos) (PV J tb):=by
 rintro ab2 s U H D I ⟨W,⟨R,O⟩,turn⟩
 refine wpAny_While (codeAny_whileLoop (λn s'=>∃σ' H',Inv X _ σ' H' s'/\W n σ' H') ?_ R #[U,H,I,O])
 rintro n Z ⟨L,H1,I1,S⟩
 refine ra G (bE (hc _ Z _ H1 _ I1<|turn n _ H1 S) λb s2 Y=>?_);obtain⟨H2,I2,g⟩:=Y;cases b with
 |true=>
  obtain⟨N,F,g⟩:=g;refine ra G (bE (hb _ s2 _ H2 _ I2 g) λf s3 j=>?_);cases f with
  |next=>
   obtain⟨B,H3,I3,z⟩:=j;obtain⟨q,l,y⟩:=F _ H3 z;exact#[q,l,_,H3,I3,y]
  |cont=>
   obtain⟨B,H3,I3,z⟩:=j;obtain⟨q,l,y⟩:=F _ H3 z;exact#[q,l,_,H3,I3,y]
  |brk=>exact j
  |ret v=>exact j
 |false=>
  exact pa #[_,H2,I2,g]
structure It where
 go:Nat->Hp->Prop
 yld:Nat->Hp->V->Hp->Prop
 stop:Nat->Hp->Prop
def kO(X:Cx)(ab2:acg)(H:Hp)(b:eg):Prop:=
 H b=ay/\b≠X.env.locals/\b∉X.fs/\(b∈X.ex\/X.s₀.heap.objs.size<=b)/\(∀x c,X.env.cells.lookup x=ap c->c≠b)/\∀p∈X.pn++ab2,p.1≠b
theorem Inv.fpOk(I:Inv X ab2 U H s)(g:s.heap.objs.size<=b)(l:H' b=ay):kO X ab2 H' b:=by
 refine#[l,Ww (UM I.lt g),I.nofs g,.inr (UL I.sz g),λx c e z=>?_,λp j z=>?_]
 .obtain⟨v,q⟩:=I.cell x c e
  exact absurd (UM q.lt<|by simp_all) (Vs _)
 exact absurd (UM (UD (I.pin p j).1)<|by rw[z];exact g) (Vs _)
structure Turn(P:fx)(w:hB)(K:UE)(tg:f')(J:It)(fp:acb)(it:eg)(tn:Nat->h9->Prop):Prop where
 mem:it∈fp
 obj:∀i h,tn i h->∀b∈fp,∃o,h.get? b=ap o/\∀v,o.data≠.cell v
 keep:∀i h h',tn i h->(∀b∈fp,∀o,h.get? b=ap o->h'.get? b=ap o)->tn i h'
 item:∀(X:Cx),X.prog=P->X.w=w->X.K=K->X.calm=true->∀(i:Nat)(ab2:acg)(s:ez)(U:St)(H:Hp)(E:acf),Inv X ab2 U H s->(∀b∈fp,kO X ab2 H b)->tn i s.heap->J.go i H->
  eS (fv P w) X.A (U'<|.ref it) (λr s1=>∃u,r=ap u/\
   eS (fv P w) X.A (Y' tg (.ref it) u) (λ_ s2=>∃x H',Inv X ab2 U H' s2/\RelV x u/\J.yld i H x H'/\tn (i+1) s2.heap/\∀b∈fp,H' b=ay) E s1) E s
 done:∀(X:Cx),X.prog=P->X.w=w->X.K=K->X.calm=true->∀(i:Nat)(ab2:acg)(s:ez)(U:St)(H:Hp)(E:acf),Inv X ab2 U H s->(∀b∈fp,kO X ab2 H b)->tn i s.heap->J.stop i H->
  eS (fv P w) X.A (U'<|.ref it) (λr s1=>r=ay/\Inv X ab2 U H s1) E s
 self:∀(A:gx)(i:Nat)(s:ez)(Q:acf)(E:acf),tn i s.heap->Q (.ref it) s->eS (fv P w) A (abj<|.ref it) Q E s
abbrev TI:=St->Hp->(It->Hp->Prop)->Prop
def PIE(X:Cx)(ab2:acg)(U:St)(tg:f')(R:It->Hp->Prop)(itv:ax)(s2:ez):Prop:=
 ∃(it:eg)(fp:acb)(tn:Nat->h9->Prop)(J:It)(H':Hp),itv=.ref it/\Inv X ab2 U H' s2/\Turn X.prog X.w X.K tg J fp it tn/\tn 0 s2.heap/\(∀b∈fp,kO X ab2 H' b)/\R J H'
def PI(X:Cx)(tg iter:f')(wi:TI):Prop:=
 ∀(ab2:acg)(s:ez)(U:St)(H:Hp)(R:It->Hp->Prop),Inv X ab2 U H s->wi U H R->
  eS (fv X.prog X.w) X.A (g3 iter X.env) (λv g=>eS (fv X.prog X.w) X.A (abj v) (PIE X ab2 U tg R) X.xe g) X.xe s
theorem za(y:s.heap.get? j=ap o)(v:o.cls=.type n)(l:o.data=.fields vs)(q:["enumerate","zip","dict_itemiterator","dict_reverseitemiterator","odict_iterator","itertools.zip_longest","itertools.pairwise"].contains n=eC)(g:Q () s):eS M A (Y' tg (.ref j) u) Q E s:=by
 unfold Y'
 cases tg<;>first
  |exact eX g
  |(cases u<;>first
    |exact eX g
    |(refine cT (wpAny_load y ?_)
      rw[v,l];show eS M A (if (["enumerate","zip","dict_itemiterator","dict_reverseitemiterator","odict_iterator","itertools.zip_longest","itertools.pairwise"].contains n&&vs[0]?==ap (z5 _))=true then _ else _) Q E s
      rw[if_neg (by intro h;rw[q,Bool.false_and]at h;cases h)]
      exact eX g))
noncomputable def Itl(K:UE)(a:eg):It:=
 #[λi H=>∃xs x,SqL K H a xs/\xs[i]?=ap x,λi H x H'=>H'=H/\∀xs,SqL K H a xs->xs[i]?=ap x,λi H=>∃xs,SqL K H a xs/\xs.length<=i]
noncomputable def Itt(K:UE)(a:eg):It:=
 #[λi H=>∃xs x,lW K H a xs/\xs[i]?=ap x,λi H x H'=>H'=H/\∀xs,lW K H a xs->xs[i]?=ap x,λi H=>∃xs,lW K H a xs/\xs.length<=i]
noncomputable def Itr(lo:Int)(n:Nat):It:=#[λi _=>i<n,λi H x H'=>H'=H/\x=.int (lo+i),λi _=>n<=i]
theorem DH(a l:eg):Turn P w K tg (Itl K a) [l] l (λi h=>h.IsListIter l a i) where
 mem:=by simp
 obj:=λi h g b j=>by
  obtain⟨o,e,c,d⟩:=g
  simp_all
 keep:=λi h h' g k=>g.at λo e=>k l (by simp) o e
 item:=by
  intro X J B G hc i ab2 s U H E I y g L;subst J B G;obtain⟨xs,x,v,O⟩:=L;obtain⟨z,Y,p,hz⟩:=I.list v;obtain⟨u,hu,ru⟩:=Y.get O;obtain⟨S,W,f2,R,Z,F⟩:=y l (by simp)
  refine abL g p.isList (x:=u) (by simp_all) λh' q sb=>?_
  have I1:Inv X _ U H _:=I.turned (t':=s.toks) (λb o j e=>(sb.2 b j).trans e) S W R Z F;obtain⟨o,e,c,d⟩:=id q;exact#[u,rfl,za e c d (by decide) #[x,H,I1,ru,#[rfl,λys hy=>by rw[I.list_inj hy v];exact O],q,λb j=>(y b j).1]]
 done:=by
  intro X J B G hc i ab2 s U H E I y g L;subst J B G;obtain⟨xs,v,O⟩:=L;obtain⟨z,Y,p,hz⟩:=I.list v;obtain⟨S,W,f2,R,Z,F⟩:=y l (by simp)
  have hl:=Y.length;exact abU (I.ok.hd hc) g p.isList (by simp;lia) λh' eb=>#[rfl,I.turned (λb o j e=>eb b o j e) S W R Z F]
 self:=λ_ _ _ _ _ g h=>wpAny_pyIter_listiter g h
theorem yw(a l:eg):Turn P w K tg (Itt K a) [l] l (λi h=>h.IsTupleIter l a i) where
 mem:=by simp
 obj:=λi h g b j=>by
  obtain⟨o,e,c,d⟩:=g
  simp_all
 keep:=λi h h' g k=>g.at λo e=>k l (by simp) o e
 item:=by
  intro X J B G hc i ab2 s U H E I y g L;subst J B G;obtain⟨xs,x,v,O⟩:=L;obtain⟨z,Y,p,hz⟩:=I.tuple v;obtain⟨u,hu,ru⟩:=Y.get O;obtain⟨S,W,f2,R,Z,F⟩:=y l (by simp)
  refine wpAny_pyNext_tuple_item g p (x:=u) (by simp_all) λh' q sb=>?_
  have I1:Inv X _ U H _:=I.turned (t':=s.toks) (λb o j e=>(sb.2 b j).trans e) S W R Z F;obtain⟨o,e,c,d⟩:=id q;exact#[u,rfl,za e c d (by decide) #[x,H,I1,ru,#[rfl,λys hy=>by rw[I.tuple_inj hy v];exact O],q,λb j=>(y b j).1]]
 done:=by
  intro X J B G hc i ab2 s U H E I y g L;subst J B G;obtain⟨xs,v,O⟩:=L;obtain⟨z,Y,p,hz⟩:=I.tuple v;obtain⟨S,W,f2,R,Z,F⟩:=y l (by simp)
  have hl:=Y.length;exact wpAny_pyNext_tuple_end (I.ok.hd hc) g p (by simp;lia) λh' eb=>#[rfl,I.turned (λb o j e=>eb b o j e) S W R Z F]
 self:=λ_ _ _ _ _ g h=>wpAny_pyIter_tupleiter g h
theorem z8(j:eg)(R:Int)(n:Nat):Turn P w K tg (Itr R n) [j] j (λi h=>IsRangeIter h j (R+(i:Nat)*1) ((n:Int)-(i:Nat)) 1) where
 mem:=by simp
 obj:=λi h g b l=>by
  simp_all
 keep:=λi h h' g k=>k j (by simp) _ g
 item:=by
  intro X Y S W z i ab2 s U H E I y g F;subst Y S W;obtain⟨J,L,Z,G,O,B⟩:=y j (by simp)
  refine (Walks.range (I.ok.hd z) j R 1 n).item i s _ _ F g λv h' tk hv q kk=>?_;obtain⟨t,rfl⟩:=hv;have I1:Inv X _ U H { s with heap:=h',toks:=tk }:=I.turned (λb o l e=>kk b o (by simpa using l) e) J L G O B
  refine#[_,rfl,za q rfl rfl (by decide) #[.int _,H,I1,#[t,?_],#[rfl,rfl],q,λb l=>(y b l).1]]
  rw[Int.mul_one]
 done:=by
  intro X Y S W z i ab2 s U H E I y g F;obtain⟨J,L,Z,G,O,B⟩:=y j (by simp)
  exact wpAny_pyNext_range_end (I.ok.hd z) g (by have:n<=i:=F;lia) λh' eb=>#[rfl,I.turned (λb o l e=>eb b o l e) J L G O B]
 self:=λ_ _ _ _ _ g h=>wpAny_pyIter_rangeiter g h
theorem Ga(I:Inv X ab2 U H s)(L:-(2 ^ 62)<=g)(F:g<2 ^ 62)(G:-(2 ^ 62)<=j)(J:j<2 ^ 62)(q:R (Itr g (j-g).toNat) H):eS (fv X.prog X.w) X.A (abj<|.ref s.heap.objs.size) (PIE X ab2 U tg R) E { s with heap:=s.heap.push { cls:=.type "range",data:=.fields (tX [.int g t,.int j u,.int 1 v]) },toks:=l }:=by
 refine wpAny_pyIter_range (IsRange.new ..) (small_one L F G J) ?_;have I1:Inv X ab2 U H { s with heap:=s.heap.push { cls:=.type "range",data:=.fields (tX [.int g t,.int j u,.int 1 v]) },toks:=l }:=I.kept λb o e=>UB _ e;refine#[(s.heap.push { cls:=.type "range",data:=.fields (tX [.int g t,.int j u,.int 1 v]) }).objs.size,[(s.heap.push { cls:=.type "range",data:=.fields (tX [.int g t,.int j u,.int 1 v]) }).objs.size],_,_,H,rfl,
  I1.kept (t':=l) λb o e=>UB _ e,z8 _ g (j-g).toNat,?_,λb B=>?_,q]
 .have z:g+((0:Nat):Int)*1=g:=by simp
  have y:(((j-g).toNat:Nat):Int)-((0:Nat):Int)=Builtin.Range.rangeSize g j 1:=by rw[rangeSize_one];split<;>lia
  show IsRangeIter _ _ (g+((0:Nat):Int)*1) ((((j-g).toNat:Nat):Int)-((0:Nat):Int)) 1;rw[z,y];exact UI _ rfl
 .have e:b=(s.heap.push { cls:=.type "range",data:=.fields (tX [.int g t,.int j u,.int 1 v]) }).objs.size:=by simpa using B
  subst e;exact I1.fpOk (UQ _) (I1.hok.fresh<|UQ _)
def U7(ta:TA):TI:=λU H R=>ta U H λg H1=>∃j:Int,g=[.int j]/\-(2 ^ 62)<=j/\j<2 ^ 62/\R (Itr 0 j.toNat) H1
theorem Dp{a:f'}(z:Gl X "range")(F:X.mg "range"=ay)(G:PA X [a] ta)(B:eH [a] X.env=[(eC,g3 a X.env)]:=by rfl):PI X tg (.Call (.Name "range" p) [a] [] pos) (U7 ta):=by
 intro ab2 s U H R I h;refine Call_ (dZ I z F boot_range<|Vi (bE (G _ _ s U H _ I h) λus J l=>?_) B rfl);obtain⟨L,H1,I1,v,g⟩:=l;obtain⟨j,e,g,y,q⟩:=g;subst e;cases v with
 |cons r rr=>
  cases rr;obtain⟨t,rfl⟩:=r;exact call_range_1 (Ga I1 (by lia) (by lia) g y<|by simpa using q)
def tFor(wi:TI)(g:TG)(tb:TS):TS:=λD U H=>wi U H λJ H1=>∃W:Nat->Nat->St->Hp->Prop,(∃m,W 0 m U H1)/\∀i m U H,W i m U H->
 (J.stop i H/\D.nx U H)\/(J.go i H/\∃N:St->Hp->Prop,(∀σ' H',N σ' H'->∃m',m'<m/\W (i+1) m' σ' H')/\∀x H',J.yld i H x H'->g x U H' λj H2=>tb { D with nx:=N,ct:=N,bk:=D.nx } j H2)
noncomputable def oX(fp:acb)(h:h9):List (eg×Obj):=fp.filterMap λb=>(h.get? b).map λo=>(b,o)
theorem f_(g:b∈fp)(e:h.get? b=ap o):(b,o)∈oX fp h:=ZD.mpr #[b,g,by rw[e];rfl]
theorem EQ(j:p∈oX fp h):p.1∈fp/\h.get? p.1=ap p.2:=by
 obtain⟨b,l,e⟩:=ZD.mp j;cases q:h.get? b with
 |none=>simp_all
 |some o=>
  rw[q]at e;have g:=VG e;subst g;trivial
theorem Inv.pinned(I:Inv X ab2 U H s)(l:∀b∈fp,kO X ab2 H b)(q:∀b∈fp,∃o,s.heap.get? b=ap o/\∀v,o.data≠.cell v):Inv X (ab2++oX fp s.heap) U H s:=
 I.pins_of λp j=>(Vg.mp j).elim (λz=>I.pin p (Vm _ z)) λz=>by
  obtain⟨g,e⟩:=EQ z;obtain⟨G,y,F,_⟩:=l _ g;obtain⟨o,B,d⟩:=q _ g
  simp_all
theorem Inv.unpinned(I:Inv X (ab2++pl) U H s):Inv X ab2 U H s:=I.pins_of λp g=>I.pin p (Vm _<|W3 _ g)
theorem Rg(Y:abG (fv X.prog X.w) X.A X.env X.xe)(hc:X.calm=true)(hi:PI X tg y wi)(hg:PG X tg g)(q:wk X body tb)(hs:∀x,re y X.env x=pure x:=by intro _;rfl):PS X (.For tg y body [] pos) (tFor wi g tb):=by
 intro ab2 s U H D I h;refine wpAny_For (bE (hi _ s U H _ I h) λv s1 h1=>bE h1 λitv s2 h2=>?_) hs;obtain⟨it,fp,tn,J,H2,e,I2,T,st2,f2,W,⟨m0,w0⟩,O⟩:=h2;subst e
 -- what stays true of the iterator's objects through the loop
 have l:∀{H':Hp},(∀b∈fp,H' b=ay)->∀b∈fp,kO X _ H' b:=λhn b q=>#[hn b q,(f2 b q).2];refine codeAny_forLoop_any (λn s'=>∃i σ' H',Inv X _ σ' H' s'/\tn i s'.heap/\(∀b∈fp,H' b=ay)/\W i n σ' H') ?_ m0 #[0,U,H2,I2,st2,λb q=>(f2 b q).1,w0]
 rintro n s3 ⟨i,σ3,H3,I3,R,S,w3⟩
 rcases O i n _ H3 w3 with⟨L,qn⟩|⟨go,N,hN,step⟩
 .refine ra Y (bE (T.done X rfl rfl rfl hc i _ s3 _ H3 _ I3 (l S) R L) λr s4 F=>?_)
  obtain⟨hr,I4⟩:=F;subst hr;exact pa #[_,H3,I4,qn]
 refine ra Y (bE (T.item X rfl rfl rfl hc i _ s3 _ H3 _ I3 (l S) R go) λr s4 F=>?_);obtain⟨u,hr,h4⟩:=F;subst hr;refine ra Y (bE h4 λ_ s5 F=>?_);obtain⟨x,H5,I5,r5,y5,B,Z⟩:=F;refine ra Y (bE (hg _ s5 σ3 H5 x u _ (I5.pinned (l Z)<|T.obj _ _ B) r5<|step x H5 y5) λ_ s6 F=>?_);obtain⟨σ6,H6,I6,q6⟩:=F;refine ra Y (bE (q _ s6 σ6 H6 _ I6 q6) λf s7 z=>?_);have again:∀{j:St}{H7:Hp},Inv X (ab2++oX fp s5.heap) j H7 s7->N j H7->∃m,m<n/\∃i σ' H',Inv X ab2 σ' H' s7/\tn i s7.heap/\(∀b∈fp,H' b=ay)/\W i m σ' H':=λ{j H7} I7 G=>by
  obtain⟨m',hm,w7⟩:=hN j H7 G;refine#[m',hm,i+1,j,H7,I7.unpinned,T.keep _ _ _ B λb q o e=>(I7.pin (b,o)<|Vm _<|Vm _<|f_ q e).1,λb q=>?_,w7];obtain⟨o,e,d⟩:=T.obj _ _ B b q;exact(I7.pin (b,o)<|Vm _<|Vm _<|f_ q e).2.1
 cases f with
 |next=>obtain⟨j,H7,I7,G⟩:=z;exact again I7 G
 |cont=>obtain⟨j,H7,I7,G⟩:=z;exact again I7 G
 |brk=>obtain⟨j,H7,I7,z⟩:=z;exact#[j,H7,I7.unpinned,z]
 |ret v=>obtain⟨x7,j,H7,I7,r7,z⟩:=z;exact#[x7,j,H7,I7.unpinned,r7,z]
abbrev R2:=V->V->Hp->VK->Prop
def cQ(X:Cx)(f:ax->ax->Sem ax)(r:R2):Prop:=
 ∀(ab2:acg)(s:ez)(U:St)(H:Hp)(x y:V)(v u:ax)(Q:VK),Inv X ab2 U H s->RelV x v->RelV y u->r x y H Q->
  eS (fv X.prog X.w) X.A (f v u) (EP X ab2 U Q) X.xe s
def UnR(X:Cx)(f:ax->Sem ax)(r:V->Hp->VK->Prop):Prop:=
 ∀(ab2:acg)(s:ez)(U:St)(H:Hp)(x:V)(v:ax)(Q:VK),Inv X ab2 U H s->RelV x v->r x H Q->
  eS (fv X.prog X.w) X.A (f v) (EP X ab2 U Q) X.xe s
def bH(X:Cx)(f:ax)(r:List V->Hp->VK->Prop):Prop:=
 ∀(ab2:acg)(s:ez)(U:St)(H:Hp)(xs:List V)(us:aca)(Q:VK),Inv X ab2 U H s->Vals xs us->r xs H Q->
  eS (fv X.prog X.w) X.A (call f us) (EP X ab2 U Q) X.xe s
def TruR(X:Cx)(r:V->Hp->(Bool->Hp->Prop)->Prop):Prop:=
 ∀(ab2:acg)(s:ez)(U:St)(H:Hp)(x:V)(v:ax)(Q:Bool->Hp->Prop),Inv X ab2 U H s->RelV x v->r x H Q->
  eS (fv X.prog X.w) X.A (truthy v) (TP X ab2 U Q) X.xe s
def Ua(r:R2)(ta tb:TE):TE:=λU H Q=>ta U H λx H1=>tb U H1 λy H2=>r x y H2 Q
def tUn(r:V->Hp->VK->Prop)(ta:TE):TE:=λU H Q=>ta U H λx H1=>r x H1 Q
def rI(C:Int->Int->Prop)(g:Int->Int->V):R2:=λx y H Q=>∃i j,x=.int i/\y=.int j/\C i j/\Q (g i j) H
def F1(g:Int->Int->V):R2:=λx y H Q=>∃i j,x=.int i/\y=.int j/\Q (g i j) H
def rU(g:Int->V):V->Hp->VK->Prop:=λx H Q=>∃i,x=.int i/\Q (g i) H
section
variable{a b:f'}
theorem Oi(G:PE X a ta)(F:PE X b tb){R:V->V->Hp->Prop}(I:Inv X ab2 U H s)(h:ta U H λx H1=>tb U H1 λy H2=>R x y H2){f:ax->ax->Sem ax}(B:∀v u s2 x y H2,Inv X ab2 U H2 s2->RelV x v->RelV y u->R x y H2->eS (fv X.prog X.w) X.A (f v u) Q X.xe s2):
  eS (fv X.prog X.w) X.A (g3 a X.env) (λv s₁=>eS (fv X.prog X.w) X.A (g3 b X.env) (λu s₂=>eS (fv X.prog X.w) X.A (f v u) Q X.xe s₂) X.xe s₁) X.xe s:=by
 exact bE (G _ s U H _ I h) λv q ⟨x,H1,I1,z,l⟩=>bE (F ab2 q U H1 _ I1 l) λu s2 ⟨y,H2,I2,g,j⟩=>B v u s2 x y H2 I2 z g j
theorem RM{r:V->Hp->VK->Prop}(q:UnR X (unaryOp op) r)(y:PE X a ta):PE X (.UnaryOp op a pos) (tUn r ta):=by
 intro ab2 s U H Q I h;exact UnaryOp_ (bE (y _ s U H _ I h)<|by rintro v j ⟨x,H1,I1,l,g⟩;exact q _ j U H1 x v Q I1 l g)
theorem RE{f:ax->ax->Sem ax}{g:Int->Int->Int}(l:∀(i j:Int)(t u:Tok)(s:ez)(Q:acf)(E:acf),C i j->Q (.int (g i j) s.toks) { s with toks:=s.toks+1 }->eS (fv X.prog X.w) X.A (f (.int i t)<|.int j u) Q E s):
  cQ X f (rI C λi j=>.int (g i j)):=by
 rintro ab2 s U H x y v u Q I z B ⟨i,j,rfl,rfl,F,q⟩
 obtain⟨t,rfl⟩:=z;obtain⟨t',rfl⟩:=B;exact l i j t t' s _ _ F #[.int _,H,I.tok _,#[_,rfl],q]
theorem IK{f:ax->ax->Sem ax}{g:Int->Int->Int}(l:∀(i j:Int)(t u:Tok)(s:ez)(Q:acf)(E:acf),Q (.int (g i j) s.toks) { s with toks:=s.toks+1 }->eS (fv X.prog X.w) X.A (f (.int i t)<|.int j u) Q E s):
  cQ X f (F1 λi j=>.int (g i j)):=by
 rintro ab2 s U H x y v u Q I z B ⟨i,j,rfl,rfl,q⟩
 obtain⟨t,rfl⟩:=z;obtain⟨t',rfl⟩:=B;exact l i j t t' s _ _ #[.int _,H,I.tok _,#[_,rfl],q]
theorem JB{f:ax->ax->Sem ax}{g:Int->Int->Bool}(l:∀(i j:Int)(t u:Tok)(s:ez)(Q:acf)(E:acf),Q (.bool<|g i j) s->eS (fv X.prog X.w) X.A (f (.int i t)<|.int j u) Q E s):
  cQ X f (F1 λi j=>.bl (g i j)):=by
 rintro ab2 s U H x y v u Q I z B ⟨i,j,rfl,rfl,q⟩
 obtain⟨t,rfl⟩:=z;obtain⟨t',rfl⟩:=B;exact l i j t t' s _ _ #[.bl _,H,I,rfl,q]
def KR(i j:Int):Prop:=0<=j/\j<=1000000/\i.natAbs<2 ^ 64
def CMul(i j:Int):Prop:=(-(2 ^ 64)<i/\i<2 ^ 64)\/(-(2 ^ 64)<j/\j<2 ^ 64)
theorem CMul.ok{i:Int}(h:CMul i j):IntMulOk i j:=by
 rcases h with⟨l,g⟩|⟨l,g⟩
 .exact .of_left (intBits_le_64 l g)
 exact .of_right (intBits_le_64 l g)
theorem OM(k:Nat):(0:Int)<=2 ^ k:=by
 lia
theorem Oc:cQ X (kc .Add) (F1 λi j=>.int (i+j)):=IK λ_ _ _ _ _ _ _ q=>add_int q
theorem Qk:cQ X (kc .Sub) (F1 λi j=>.int (i-j)):=IK λ_ _ _ _ _ _ _ q=>sub_int q
theorem Oy:cQ X (kc .Mult) (rI CMul λi j=>.int (i*j)):=RE λ_ _ _ _ _ _ _ g q=>mul_int q g.ok
theorem P4:cQ X (kc .Mod) (rI (λ_ j=>0<j) λi j=>.int (i % j)):=RE λi j _ _ _ _ _ g q=>by
 have l:(0:Int)<j:=g;exact mod_int' (by lia) (by rw[Int.fmod_eq_emod_of_nonneg i (by lia)];exact q)
theorem Rs:cQ X (kc .Pow) (rI KR λi j=>.int (i ^ j.toNat)):=RE λ_ _ _ _ _ _ _ g q=>pow_int_small g.1 g.2.1 g.2.2 q
theorem Qv:cQ X (kc .LShift) (rI KR λi j=>.int (i*2 ^ j.toNat)):=RE λ_ _ _ _ _ _ _ g q=>lshift_int_small g.1 g.2.1 g.2.2 q
theorem OV:cQ X (kc .RShift) (rI (λ_ j=>0<=j) λi j=>.int (i / 2 ^ j.toNat)):=RE λi j _ _ _ _ _ g q=>
 rshift_int g (by grind)
theorem OZ:cQ X (kc .BitAnd) (F1 λi j=>.int (W7 i j)):=IK λ_ _ _ _ _ _ _ q=>and_int q
theorem Sy:cQ X (kc .BitOr) (F1 λi j=>.int (XT i j)):=IK λ_ _ _ _ _ _ _ q=>or_int q
theorem Rk:cQ X (kc .BitXor) (F1 λi j=>.int (Builtin.bitXor i j)):=IK λ_ _ _ _ _ _ _ q=>xor_int q
theorem unI{f:ax->Sem ax}{g:Int->Int}(j:∀(i:Int)(t:Tok)(s:ez)(Q:acf)(E:acf),Q (.int (g i) s.toks) { s with toks:=s.toks+1 }->eS (fv X.prog X.w) X.A (f<|.int i t) Q E s):
  UnR X f (rU λi=>.int (g i)):=by
 rintro ab2 s U H x v Q I l ⟨i,rfl,q⟩
 obtain⟨t,rfl⟩:=l;exact j i t s _ _ #[.int _,H,I.tok _,#[_,rfl],q]
theorem R7:UnR X (unaryOp .USub) (rU λi=>.int (-i)):=unI λ_ _ _ _ _ q=>neg_int q
end
section
variable{a b:f'}
theorem Ff(I:Inv X ab2 U H s)(q:Q (.bl k) H)(e:k=g):EP X ab2 U Q (.bool g) s:=by
 subst e;exact#[.bl k,H,I,rfl,q]
theorem SS:cQ X (kl .Lt) (F1 λi j=>.bl (decide (i<j))):=JB λ_ _ _ _ _ _ _ q=>lt_int q
theorem RP:cQ X (kl .LtE) (F1 λi j=>.bl (decide (i<=j))):=JB λ_ _ _ _ _ _ _ q=>le_int q
theorem RZ:cQ X (kl .Gt) (F1 λi j=>.bl (decide (j<i))):=JB λ_ _ _ _ _ _ _ q=>gt_int q
theorem Tl:cQ X (kl .GtE) (F1 λi j=>.bl (decide (j<=i))):=JB λ_ _ _ _ _ _ _ q=>ge_int q
theorem Pw:cQ X (kl .Is) (λx y H Q=>y=.non/\Q (.bl<|decide (x=.non)) H):=by
 intro ab2 s U H x y v u Q I g j h;obtain⟨rfl,q⟩:=h;cases j;refine is_none_gen (Ff I q ?_)
 cases x<;>first
  |(cases g;rfl)
  |(obtain⟨t,rfl⟩:=g;rfl)
theorem KJ:cQ X (kl .IsNot) (λx y H Q=>y=.non/\Q (.bl<|!decide (x=.non)) H):=by
 rintro ab2 s U H x y v u Q I g j ⟨rfl,q⟩
 cases j;refine isnot_none_gen (Ff I q ?_)
 cases x<;>first
  |(rfl)
  |(obtain⟨t,rfl⟩:=g;rfl)
def Sg(t:TE):TT:=λU H Q=>t U H λx H'=>∃k,x=.bl k/\Q k H'
theorem Lg(R:cQ X (kl op) r)(S:PE X a ta)(L:PE X b tb)(O:aa' op b=eC):PT X (.Compare a [op] [b] pos) (Sg<|Ua r ta tb):=by
 intro ab2 s U H Q I h;refine wpAny_isTrue_Compare1 (bE (S _ s U H _ I h) λv q ⟨x,H1,I1,B,G⟩=>bE (L _ q U H1 _ I1 G) λu s2 ⟨y,H2,I2,g,F⟩=>
  bE (R _ s2 U H2 x y v u _ I2 B g F) λc W l=>?_) O
 obtain⟨z,H3,I3,j,k,e,J⟩:=l;subst e;cases j;exact vr #[H3,I3,J]
def PX(K:UE)(x:V)(H:Hp)(k:Bool):Prop:=
 match x with
 |.non=>k=eC
 |.bl b=>k=b
 |.int i=>k=(i != 0)
 |.str y=>y.length<=sizeLine/\k=((y.length:Int) != 0)
 |.byt y=>y.size<=sizeLine/\k=((y.size:Int) != 0)
 |.ref p=>(∃xs,SqL K H p xs/\k=!xs.isEmpty)\/(∃xs,lW K H p xs/\k=!xs.isEmpty)\/∃ab4,H p=ap (.dK ab4)/\k=!ab4.isEmpty
 |_=>False
theorem yn(r:KV ab4 vs):(!vs.isEmpty)=!ab4.isEmpty:=by
 cases r<;>rfl
theorem nW(r:Vals xs ab8):(!ab8.toArray.isEmpty)=!xs.isEmpty:=by
 cases r<;>simp
theorem ia:(sizeLine:Nat)<2 ^ 63:=by trivial
theorem PC:TruR X (λx H Q=>∃k,PX X.K x H k/\Q k H):=by
 rintro ab2 s U H x v Q I l ⟨k,e,q⟩
 have R:=ia;have S:sizeLine=16777216:=sizeLine_eq;cases x with
 |non=>
  cases l;have g:k=false:=e;subst g;exact truthy_none #[H,I,q]
 |bl b=>
  cases l;have g:k=b:=e;subst g;exact vr #[H,I,q]
 |int i=>
  obtain⟨t,rfl⟩:=l;have g:k=(i != 0):=e;subst g;exact PySem.P.truthy_int #[H,I,q]
 |str y=>
  obtain⟨t,rfl⟩:=l;obtain⟨L,g⟩:y.length<=sizeLine/\k=((y.length:Int) != 0):=e;subst g;exact PySem.P.truthy_str (by lia) #[H,I.tok _,q]
 |byt y=>
  obtain⟨t,rfl⟩:=l;obtain⟨L,g⟩:y.size<=sizeLine/\k=((y.size:Int) != 0):=e;subst g;exact W.truthy_bytes (by lia) #[H,I.tok _,q]
 |ref p=>
  cases l;have g:=e;rcases g with⟨O,z,g⟩|⟨O,z,g⟩|⟨ab4,z,g⟩
  .subst g
   obtain⟨F,r,pl,G⟩:=I.list z;have j:=r.length;exact wpAny_truthy_list pl.isList (by simp;lia) #[H,I.tok _,by rw[nW r];exact q]
  .subst g
   obtain⟨F,r,pl,G⟩:=I.tuple z;have j:=r.length;exact truthy_tuple pl (by simp;lia) #[H,I.tok _,by rw[nW r];exact q]
  subst g;obtain⟨G,J,B,r,m⟩:ab4.length<=sizeLine/\(p==rN)=eC/\∃B,KV ab4 B/\s.heap.DictOf (aV X.prog X.w) p B:=I.hok p _ z;have j:ab4.length=B.length:=WA r;exact wpAny_truthy_dict J m (by lia) #[H,I.tok _,by rw[yn r];exact q]
 |_=>trivial
theorem HV(z:PE X a ta)(y:∀g,isTrue a X.env g=(do let v <- g;R' a.pos;py [v] (truthy v))):
  PT X a (λU H Q=>ta U H λx H'=>∃k,PX X.K x H' k/\Q k H'):=by
 intro ab2 s U H Q I h;exact isTrue_plain (bE (z ab2 s U H _ I h) λv l ⟨x,H1,I1,q,j⟩=>PC ab2 l U H1 x v Q I1 q j) (y _)
theorem yZ:cQ X (kc .Add) (λx y H Q=>∃i j,x=.str i/\y=.str j/\i.length+j.length<=sizeLine/\Q (.str (i++j)) H):=by
 rintro ab2 s U H x y v u Q I g l ⟨i,j,rfl,rfl,z,q⟩
 obtain⟨t,rfl⟩:=g;obtain⟨t',rfl⟩:=l;exact add_str (λt' B=>#[.str _,H,I.tok _,#[_,rfl],q]) z
theorem gD{x:V}(r:Vals [x] us):∃u,us=[u]/\RelV x u:=by
 cases r with
 |cons r1 r2=>cases r2;exact#[_,rfl,r1]
theorem N4{x:V}(r:Vals [x,y] us):∃u g,us=[u,g]/\RelV x u/\RelV y g:=by
 cases r with
 |cons r1 r2=>
  cases r2 with
  |cons r3 r4=>cases r4;exact#[_,_,rfl,r1,r3]
theorem E4(l:X.calm=true):bH X (.builtin "max") (λxs H Q=>∃i j,xs=[.int i,.int j]/\Q (.int (if j>i then j else i)) H):=by
 rintro ab2 s U H xs us Q I r ⟨i,j,rfl,q⟩
 obtain⟨u,y,rfl,⟨t,rfl⟩,⟨t',rfl⟩⟩:=N4 r;refine max_two_ints (I.ok.hd l) λh' v k=>#[_,H,I.kept k,?_,q]
 by_cases g:j>i
 .rw[if_pos g,if_pos g];exact#[_,rfl]
 rw[if_neg g,if_neg g];exact#[_,rfl]
theorem DF(l:X.calm=true):bH X (.builtin "min") (λxs H Q=>∃i j,xs=[.int i,.int j]/\Q (.int (if j<i then j else i)) H):=by
 rintro ab2 s U H xs us Q I r ⟨i,j,rfl,q⟩
 obtain⟨u,y,rfl,⟨t,rfl⟩,⟨t',rfl⟩⟩:=N4 r;refine min_two_ints (I.ok.hd l) λh' v k=>#[_,H,I.kept k,?_,q]
 by_cases g:j<i
 .rw[if_pos g,if_pos g];exact#[_,rfl]
 rw[if_neg g,if_neg g];exact#[_,rfl]
end
structure ObjM(h:h9)(x dx C:eg)(mA:ach):Prop where
 obj:h.get? x=ap (Xk C dx)
 ns:h.Ns1 dx mA
 ne:dx≠x
theorem Em(n:h.Ns1 dx mA):∃l,h.get? dx=ap l/\∀g,W.lookIn g l=ap (mA g):=by
 obtain⟨o,es,L,J,F,v,_,B⟩:=n;refine#[o,J,λg=>?_];have e:=B g;unfold nsFind findBy at e;rw[<- Array.find?_toList]at e;unfold W.lookIn;rw[F];dsimp only
 split
 .rename_i y q
  rw[q]at e;exact congrArg _ e
 rename_i q
 rw[q]at e;have a:es.toList.any (·.refKey)=false:=by
  rw[List.any_eq_false];intro y G;obtain⟨z,t,j⟩:=v y (Array.mem_toList_iff.mp G);simp[DictEntry.refKey,j]
 have I:¬es.toList.any (·.refKey)=true:=by rw[a];exact WI
 rw[if_neg I];exact congrArg _ e
theorem ObjM.look{x:eg}(I:ObjM h x dx C mA):∃j,W.InstAt h x (Xk C dx) C (ap j)/\∀g,W.lookIn g j=ap (mA g):=
 let ⟨j,ho,hl⟩:=Em I.ns
 #[j,#[I.obj,rfl,rfl,ho],hl]
section
variable{x:eg}
theorem Li(X:K.In s.heap)(I:ObjM s.heap x dx C mA)(y:W4 K C name=true)(q:Vt K C=true)(B:Vp K (.ref C) name=ap ay)(z:mA name=ap v)(j:W.handedIn v=true)(h:Q v { s with toks:=s.toks+1 }):
  eS (fv prog w) A (getAttr (.ref x) name g) Q E s:=by
 obtain⟨F,J,l⟩:=I.look;exact W.get_value X J (Zi y).1 (W.findObj_own q B rfl<|by rw[l,z]) j h
theorem eM(X:K.In s.heap)(I:ObjM s.heap x dx C mA)(Z:Vp K (.ref C) "__setattr__"=ap (ap<|.builtin "object.__setattr__"))(R:Xw K C=true)(Y:W.takerIn K C name=ap ay)(O:Vt K C=true)(S:Y2 mA ns)(hsz:ns.length<=sizeLine)(h:∀h',ObjM h' x dx C (λy=>if y=name then ap v else mA y)->VV dx s.heap h'->Q () { s with heap:=h',toks:=s.toks+2 }):
  eS (fv prog w) A (setAttr (.ref x) name v) Q E s:=by
 obtain⟨od,J,hl⟩:=I.look;refine W.set_plain X J Z (W.osa_open X J R Y λb=>?_);obtain⟨cd,L,q⟩:=W.any_some O;refine cT (eX<|wpAny_bind<|wpAny_bind<|wpAny_loadPart I.obj<|wpAny_bind<|W.Looks.here (W.looks_clsIn X L) ?_);rw[q];refine eX (cT<|wpAny_pure<|wpAny_bind ?_);refine wpAny_nsSet1 I.ns λh' j g=>?_;obtain⟨oD,F,G,B,l,z⟩:=j.count (PySem.Within.cons _ v S);exact cT (wpAny_lookBehind B (by rw[l];exact pastItsLine_dict (UL z<|by rw[UO];lia))<|wpAny_pure<|h _ #[(g.2 _<|Vb I.ne).trans I.obj,j,I.ne] g)
theorem F8(X:K.In s.heap)(q:XI K C=true)(y:Vp K (.ref C) "__init__"=ap (ap<|.ref f))(l:WJ K (.ref f)=ap (.type "function"))(h:y' (fv prog w) (A.under<|.builtin "type.__call__" #[.ref C::vs,kw]) (.call (.ref f) #[.ref (s.heap.objs.size+1)::vs,kw]) (W.InitBack (s.heap.objs.size+1) R)
   { s with heap:=(s.heap.push Wu).push (Xk C s.heap.objs.size) }):
  y' (fv prog w) A (.call (.ref C) #[vs,kw]) R s:=by
 obtain⟨z,g,d,t,B⟩:=s;exact W.make_core (W.makes_of X q) (W.looks_findIn X y) (λj=>W.bind_fn X j l) (.inl rfl) h
end
def dJ(f:Str)(v:V):List (Str×V)->List (Str×V)
 |[]=>[(f,v)]
 |(g,x)::r=>if g=f then (g,v)::r else (g,x)::dJ f v r
theorem lX(f g:Str)(v:V):∀fs:List (Str×V),(dJ f v fs).lookup g=if g=f then ap v else fs.lookup g
 |[]=>by
  show Vk g [(f,v)]=_
  by_cases h:g=f
  .simp_all
  simp_all
 |(k,x)::r=>by
  rw[show dJ f v _=(if k=f then (k,v)::r else (k,x)::dJ f v r) from rfl]
  by_cases l:k=f
  .rw[if_pos l]
   by_cases h:g=k
   .have j:=beq_iff_eq.mpr h
    simp only[Vk,j,if_pos (h.trans l)]
   have j:(g==k)=false:=beq_eq_false_iff_ne.mpr h;simp only[Vk,j,if_neg (λe:g=f=>h (e.trans l.symm))]
  rw[if_neg l]
  by_cases h:g=k
  .have j:(g==k)=true:=beq_iff_eq.mpr h
   simp only[Vk,j,if_neg (λe:g=f=>l (h.symm.trans e))]
  .have j:(g==k)=false:=beq_eq_false_iff_ne.mpr h
   simp only[Vk,j];exact(lX f g v r)
theorem k_(f:Str)(v:V):∀fs:List (Str×V),f∈(dJ f v fs).map (·.1)/\∀g,g∈fs.map (·.1)->g∈(dJ f v fs).map (·.1)
 |[]=>#[by simp[dJ],λg h=>by simp at h]
 |(k,x)::r=>by
  obtain⟨i1,i2⟩:=k_ f v r;rw[show dJ f v _=(if k=f then (k,v)::r else (k,x)::dJ f v r) from rfl]
  by_cases j:k=f
  .simp_all
  rw[if_neg j];refine#[?_,λg h=>?_]
  .exact UJ _ i1
  rw[UG]at h ⊢;rcases UK.mp h with e|e
  .exact UK.mpr (.inl e)
  .exact UJ _ (i2 g e)
theorem lE(f:Str)(v:V):∀fs:List (Str×V),(dJ f v fs).length<=fs.length+1
 |[]=>by simp[dJ]
 |(k,x)::r=>by
  have g:=lE f v r;rw[show dJ f v _=(if k=f then (k,v)::r else (k,x)::dJ f v r) from rfl]
  by_cases j:k=f
  .simp_all
  simp_all
theorem dM(r:RelO (ap v) o):∃u,o=ap u/\RelV v u:=by
 cases o with
 |none=>trivial
 |some u=>exact#[u,rfl,r]
theorem kH(r:RelO ay o):o=none:=by
 cases o<;>trivial
theorem nH(g:HOk P w H h)(e:H a=ap (.ins C dx fs)):∃mA,ObjM h a dx C mA/\(∀f,RelO (fs.lookup f) (mA f))/\Y2 mA (fs.map (·.1))/\fs.length<=1000/\H dx=ap (.own a):=by
 obtain⟨d,z,ne,j,mA,n,r,q⟩:=(g a _ e);exact#[mA,#[j,n,ne],r,q,z,d]
structure Cls(K:UE)(C:eg):Prop where
 pg:W4 K C Yr=true
 hd:Vt K C=true
 po:Xw K C=true
 sa:Vp K (.ref C) "__setattr__"=ap (ap<|.builtin "object.__setattr__")
theorem Cls.get(c:Cls K C)(f:Str):W4 K C f=true:=c.pg
def NoAttr(K:UE)(C:eg)(f:Str):Prop:=Vp K (.ref C) f=ap ay
theorem NoAttr.taker{f:Str}(n:NoAttr K C f):W.takerIn K C f=ap none:=by
 unfold W.takerIn;rw[n];rfl
structure Meth(K:UE)(C:eg)(m:Str)(f:eg):Prop where
 at_:Vp K (.ref C) m=ap (ap<|.ref f)
 fn:W.isFn K (.ref f)=true
 kp:VJ K (.ref f)=true
section
variable{f:Str}
theorem oi{b:Bool}(I:Inv X ab2 U H s)(e:H a=ap (.ins C dx fs))(c:Cls X.K C)(n:NoAttr X.K C f)(l:fs.lookup f=ap v)(h:∀u s',Inv X ab2 U H s'->RelV v u->Q u s'):eS (fv X.prog X.w) A (getAttr (.ref a) f b) Q E s:=by
 obtain⟨mA,O,r,_,_,_⟩:=nH I.hok e;obtain⟨u,j,g⟩:=dM (v:=v) (o:=mA f) (by grind)
 exact Li I.kIn O (c.get f) c.hd n j ((λr=>by
    cases v with
    |non=>cases r;rfl
    |bl b=>cases r;rfl
    |int i=>obtain⟨t,e⟩:=r;cases e;rfl
    |str x=>obtain⟨t,e⟩:=r;cases e;rfl
    |byt b=>obtain⟨t,e⟩:=r;cases e;rfl
    |flt b=>obtain⟨t,e⟩:=r;cases e;rfl
    |ref a=>cases r;rfl
    |ty n=>cases r;rfl) g) (h u _ (I.tok _) g)
theorem oH(I:Inv X ab2 U H s)(e:H a=ap (.ins C dx fs))(c:Cls X.K C)(k:Meth X.K C m g)(l:fs.lookup m=ay)(h:Q (.ref g,[.ref a]) s):eS (fv X.prog X.w) A (G' (.ref a) m pl) Q E s:=by
 obtain⟨mA,O,r,_,_,_⟩:=nH I.hok e;exact (λX I g l q z h=>by
    obtain⟨j,J,y⟩:=I.look;exact W.method_fn X J (Zi g).1 (Zi g).2 l (beq_iff_eq.mp q) (by show (W.lookIn _ j).map _=ap _;simp_all) h) I.kIn O (c.get m) k.at_ k.fn (kH<|by rw[<- l];exact r m) h
theorem pP(I:Inv X ab2 U H s)(e:H a=ap (.ins C dx fs))(c:Cls X.K C)(n:NoAttr X.K C f)(hl:fs.length<1000)(ry:RelV y u)(h:∀s',Inv X ab2 U (upd H a<|.ins C dx<|dJ f y fs) s'->Q () s'):eS (fv X.prog X.w) A (setAttr (.ref a) f u) Q E s:=by
 obtain⟨mA,O,r,wi,_,ho⟩:=nH I.hok e;have hz:(fs.map (·.1)).length<=sizeLine:=by rw[UA,sizeLine_eq];lia
 refine eM I.kIn O c.sa c.po n.taker c.hd wi hz λh' O' sb=>h _ ?_;have hd:∃o,h'.get? dx=ap o:=let ⟨o,_,_,e',_⟩:=O'.ns;#[o,e'];refine I.write (by rw[e];trivial) (.inr ho) (λb q hb z=>(sb.2 b hb).trans z) hd ?_
 refine#[by rw[aM O.ne];exact ho,?_,O.ne,O'.obj,_,O'.ns,λg=>?_,λg hg=>?_]
 .have:=lE f y fs;lia
 .rw[lX]
  by_cases q:g=f
  .rw[if_pos q,if_pos q];exact ry
  simp_all
 by_cases q:g=f
 .rw[q];exact(k_ f y fs).1
 refine (k_ f y fs).2 g (wi g λz=>hg ?_);show (if g=f then ap u else mA g)=ay
 rw[if_neg q];exact z
theorem J0(I:Inv X ab2 U H s):Inv X ab2 U (upd (upd H s.heap.objs.size<|.own (s.heap.objs.size+1)) (s.heap.objs.size+1)<|.ins C s.heap.objs.size [])
  { s with heap:=(s.heap.push Wu).push (Xk C s.heap.objs.size) }:=by
 have g:(s.heap.push Wu).get? s.heap.objs.size=ap Wu:=UI s.heap rfl;have l:((s.heap.push Wu).push<|Xk C s.heap.objs.size).get? (s.heap.objs.size+1)=ap (Xk C s.heap.objs.size):=by
  have:=UI (s.heap.push Wu) (o:=Xk C s.heap.objs.size) rfl
  rwa [Vw]at this
 have z:(s.heap.push Wu).Ns s.heap.objs.size (λ_=>ay):=#[Wu,(tX []),_,g,rfl,(λe j=>absurd j (by simp)),λ_=>rfl]
 have I1:=I.laid (a:=s.heap.objs.size) (o:=.own (s.heap.objs.size+1)) (h':=s.heap.push Wu) (t':=s.toks) (λb u q=>UB _ q) (UQ _) #[_,g];refine I1.laid (a:=s.heap.objs.size+1) (o:=.ins C s.heap.objs.size []) (t':=s.toks) (λb u q=>UB _ q) (Zl<|Vw _ _) ?_;have ne:s.heap.objs.size≠s.heap.objs.size+1:=UT (Nat.lt_succ_self _);refine#[by rw[aM ne,upd_same],WM _,ne,l,λ_=>ay,(Heap.Ns1.of_empty z).at λo q=>UB _ q,λ_=>Wo,λy B=>absurd rfl B]
end
def tFld(K:UE)(ta:TE)(f:Str):TE:=λU H Q=>ta U H λx H1=>∃a C dx fs v,x=.ref a/\H1 a=ap (.ins C dx fs)/\Cls K C/\NoAttr K C f/\fs.lookup f=ap v/\Q v H1
def sFld(K:UE)(ta tv:TE)(f:Str):TS:=λD U H=>tv U H λy H1=>ta U H1 λx H2=>∃a C dx fs,x=.ref a/\H2 a=ap (.ins C dx fs)/\Cls K C/\NoAttr K C f/\fs.length<1000/\
 D.nx U (upd H2 a<|.ins C dx<|dJ f y fs)
def Oh(X:Cx)(op:WF)(rd:V->V->Hp->VK->Prop):Prop:=
 ∀(ab2:acg)(s:ez)(U:St)(H:Hp)(x y:V)(u v:ax)(Q:VK),Inv X ab2 U H s->RelV x u->RelV y v->rd x y H Q->eS (fv X.prog X.w) X.A (inplaceOp op u v) (EP X ab2 U Q) X.xe s
def Jk(K:UE)(ta tv:TE)(rd:V->V->Hp->VK->Prop)(f:Str):TS:=λD U H=>ta U H λx H1=>∃a C dx fs v,x=.ref a/\H1 a=ap (.ins C dx fs)/\Cls K C/\NoAttr K C f/\fs.lookup f=ap v/\
 tv U H1 λy H2=>rd v y H2 λz H3=>∃dx' fs',H3 a=ap (.ins C dx' fs')/\fs'.length<1000/\D.nx U (upd H3 a<|.ins C dx'<|dJ f z fs')
section
variable{f:Str}
theorem NT(F:PE X e ta)(G:kB e f X.env (g3 e X.env)=g3 e X.env):PE X (.Attribute e f pos) (tFld X.K ta f):=by
 intro ab2 s U H Q I h;refine (λj h=> Attribute_any_ h (by rw[arm_eval_Attribute,j])) G (bE (F _ s U H _ I h) λu L z=>?_);obtain⟨x,H1,I1,y,a,C,dx,fs,v,g,B,c,n,l,q⟩:=z;subst g;obtain rfl:u=UY a:=y;exact oi I1 B c n l λJ s2 I2 j=>#[v,H1,I2,j,q]
theorem NW(R:PE X o ta)(L:PE X value tv)(O:mo value (ap<|.Attribute o f pos') pos.line X.env=pure eC):PS X (.Assign [.Attribute o f pos'] value pos) (sFld X.K ta tv f):=by
 intro ab2 s U H D I h;refine plainObj_wpAny_Assign_Attribute (bE (L _ s U H _ I h) λu F ⟨y,H1,I1,z,q⟩=>bE (R _ F U H1 _ I1 q) λj s2 B=>?_) O;obtain⟨x,H2,I2,v,a,C,dx,fs,g,J,c,n,l,G⟩:=B;subst g;obtain rfl:j=UY a:=v;exact pP I2 J c n l z λS I3=>#[U,_,I3,G]
theorem qX(ha:PE X o ta)(hv:PE X value tv)(j:Oh X op B):PS X (.AugAssign (.Attribute o f tpos) op value pos) (Jk X.K ta tv B f):=by
 intro ab2 s U H D I h;refine wpAny_AugAssign_AttributeAny (bE (ha _ s U H _ I h) λS s1 zz=>?_);obtain⟨x,H1,I1,G,a,C,dx,fs,v,F,O,c,n,l,q⟩:=zz;subst F;obtain rfl:S=UY a:=G;exact oi I1 O c n l λu s2 I2 ru=>bE (hv _ s2 U H1 _ I2 q) (by rintro Y L ⟨y,H2,I3,J,R⟩;exact bE (j _ L U H2 v y u Y _ I3 ru J R) (by rintro w4 s4 ⟨z,H3,I4,rz,_,_,g,Z,W⟩;exact pP I4 g c n Z rz λs5 I5=>#[U,_,I5,W]))
def rAdd:V->V->Hp->VK->Prop:=λx y H Q=>∃i j,x=.int i/\y=.int j/\Q (.int (i+j)) H
def rSub:V->V->Hp->VK->Prop:=λx y H Q=>∃i j,x=.int i/\y=.int j/\Q (.int (i-j)) H
theorem Ou:Oh X .Add rAdd:=by
 rintro ab2 s U H x y u v Q I g l ⟨i,j,rfl,rfl,q⟩
 obtain⟨t,rfl⟩:=g;obtain⟨t',rfl⟩:=l;exact PyProof.Rows.iadd_int #[.int _,H,I.tok _,#[_,rfl],q]
theorem P1:Oh X .Sub rSub:=by
 rintro ab2 s U H x y u v Q I g l ⟨i,j,rfl,rfl,q⟩
 obtain⟨t,rfl⟩:=g;obtain⟨t',rfl⟩:=l;exact PyProof.Rows.isub_int #[.int _,H,I.tok _,#[_,rfl],q]
end
section
variable{b:Bool}
inductive TyOf(K:UE)(H:Hp):V->ax->Prop where
 |non:TyOf K H .non (.type "NoneType")
 |bl (x:Bool):TyOf K H (.bl x) (.type "bool")
 |int (i:Int):TyOf K H (.int i) (.type "int")
 |str (x:Str):TyOf K H (.str x) (.type "str")
 |flt (x:UInt64):TyOf K H (.flt x) (.type "float")
 |lst {a:eg} {xs:List V} (e:H a=ap (.lst xs)):TyOf K H (.ref a) (.type "list")
 |frz {a:eg} {o:Obj} {xs:List V} (e:H a=ap (.frz o<|.lst xs)):TyOf K H (.ref a) (.type "list")
 |tup {a:eg} {xs:List V} (e:H a=ap (.tup xs)):TyOf K H (.ref a) (.type "tuple")
 |dK {a:eg} {ab4:List (aI×V)} (e:H a=ap (.dK ab4)):TyOf K H (.ref a) (.type "dict")
 |dT {a:eg} {ab4:List (List aI×V)} (e:H a=ap (.dT ab4)):TyOf K H (.ref a) (.type "dict")
 |ins {a C dx:eg} {fs:List (Str×V)} (e:H a=ap (.ins C dx fs)) (cl:Cls K C) (ha:Vp K (.ref C) "__class__"=ap (ap<|.builtin "object.__class__"))
   (hn:W.specialIn K (.builtin "object.__class__") "__get__"=ap (ap<|.builtin "getset_descriptor.__get__")) (htk:W.takesIn K (.builtin "object.__class__")=ap true)
   (hm:V2 K C (.type "object")=ap true):TyOf K H (.ref a) (.ref C)
theorem DB{x:V}(I:Inv X ab2 U H s)(g:RelV x u)(ty:TyOf X.K H x t)(e:XJ X.K t c=ap b)(h:∀F,Q (.bool b) { s with toks:=F }):
  eS (fv X.prog X.w) A (call (.builtin "isinstance") [u,c]) Q E s:=by
 cases ty with
 |non=>cases (show u=Wm from g);exact Wl W.kitx_none I.kIn Wo e (λz=>nomatch z) h
 |bl y=>cases (show u=X3 y from g);exact Wl W.kitx_bool I.kIn Wo e (λz=>nomatch z) h
 |int i=>obtain⟨t,q⟩:=(show ∃t,u=Yj i t from g);cases q;exact Wl W.kitx_int I.kIn Wo e (λz=>nomatch z) h
 |str y=>obtain⟨t,q⟩:=(show ∃t,u=Yi y t from g);cases q;exact Wl W.kitx_str I.kIn Wo e (λz=>nomatch z) h
 |flt y=>obtain⟨t,q⟩:=(show ∃t,u=Value.float y t from g);cases q;exact Wl W.kitx_float I.kIn Wo e (λz=>nomatch z) h
 |@lst a l ea=>
  cases (show u=UY a from g);obtain⟨_,_,n,_,j⟩:=(show ObjOk X.prog X.w H s.heap a (.lst l) from I.hok a _ ea);exact Wl W.kitx_list I.kIn #[_,j,rfl] e (λz=>nomatch z) h
 |@frz a ob l ea=>
  cases (show u=UY a from g);obtain⟨_,_,_,n,_,j⟩:=(show ObjOk X.prog X.w H s.heap a (.frz ob<|.lst l) from I.hok a _ ea);exact Wl W.kitx_list I.kIn #[_,j,rfl] e (λz=>nomatch z) h
 |@tup a l ea=>
  cases (show u=UY a from g);obtain⟨_,_,_,p⟩:=(show ObjOk X.prog X.w H s.heap a (.tup l) from I.hok a _ ea);obtain⟨o,j,⟨v,_⟩,_⟩:=p;exact Wl W.kitx_tuple I.kIn #[o,j,v] e (λz=>nomatch z) h
 |@dK a ab4 ea=>
  cases (show u=UY a from g);obtain⟨_,_,G,_,p⟩:=(show ObjOk X.prog X.w H s.heap a (.dK ab4) from I.hok a _ ea);obtain⟨o,es,B,j,v,_⟩:=p;exact Wl W.kitx_dict I.kIn #[o,j,v.1] e (λz=>nomatch z) h
 |@dT a ab4 ea=>
  cases (show u=UY a from g);obtain⟨_,_,l,_,o,es,B,j,v,_⟩:=(show ObjOk X.prog X.w H s.heap a (.dT ab4) from I.hok a _ ea);exact Wl W.kitx_dict I.kIn #[o,j,v.1] e (λz=>nomatch z) h
 |@ins a C dx fs ea cl ha hn htk hm=>
  cases (show u=UY a from g);obtain⟨mA,O,_⟩:=nH I.hok ea;obtain⟨L,J,_⟩:=O.look;exact Wl (W.kitx_own (cl.get _) cl.hd ha hn htk hm) I.kIn J e (λz=>nomatch z) h
end
structure Room(k:Nat)(A:gx):Prop where
 hd:A.handled=ay
 dp:A.depth+3*k+5<recursionLimit
 un:A.units+16*k+200<n7
 gd:A.guards=ap []
theorem Room.mono(r:Room k A)(h:j<=k):Room j A:=#[r.hd,by have:=r.dp;lia,by have:=r.un;lia,r.gd]
theorem Room.deeper(r:Room (k+1) A)(env:Env):Room k (A.deeper env):=
 #[r.hd,by have:=r.dp;show A.depth+1+3*k+5<_;lia,by have:=r.un;show A.units+3+16*k+200<_;lia,r.gd]
theorem yL:(A.under<|.builtin "type.__call__" #[.ref C::us,kw]).depth=A.depth+1:=by
 rfl
theorem ym:(A.under<|.builtin "type.__call__" #[.ref C::us,kw]).units=A.units+1:=by
 rfl
theorem Nv:(A.under<|.builtin "type.__call__" #[.ref C::us,kw]).guards=A.guards:=by
 rfl
theorem Room.make(r:Room (k+1) A)(C:eg)(us:aca)(kw:List (Str×ax)):Room k (A.under<|.builtin "type.__call__" #[.ref C::us,kw]):=
 #[r.hd,by have:=r.dp;rw[yL];lia,by have:=r.un;rw[ym];lia,by exact r.gd]
theorem Room.depth(r:Room k A):A.depth<recursionLimit:=by have:=r.dp;lia
theorem Room.units(r:Room k A):A.units+64<cLine:=by have:=r.un;lia
def RQ:TA:=λ_ H Q=>Q [] H
def Sq(ta:TE)(tr:TA):TA:=λU H Q=>ta U H λx H1=>tr U H1 λg H2=>Q (x::g) H2
theorem y9:PA X [] RQ:=λ_ _ _ _ H Q I h=>WQ #[[],H,I,.nil,h]
theorem tB(B:PE X e te)(y:PA X es t)(z:eH (e::es) X.env=(eC,g3 e X.env)::eH es X.env:=by rfl):PA X (e::es) (Sq te t):=by
 intro pos ab2 s U H Q I h;rw[z];show eS _ _ (spliced ((eC,g3 e _)::j0 _ _)) _ _ s;exact Wd (bE (B _ s U H _ I h)<|by rintro u j ⟨x,H1,I1,l,v⟩;exact(bE (y _ _ j U H1 _ I1 v)<|by rintro us s2 ⟨F,H2,I2,g,q⟩;exact#[_,H2,I2,.cons l g,q]))
def tTup(t:TA):TE:=λU H Q=>t U H λg H1=>g.length<=sizeLine/\∀p,H1 p=ay->Q (.ref p) (upd H1 p<|.tup g)
def tLst(t:TA):TE:=λU H Q=>t U H λg H1=>g.length<=sizeLine/\∀p,H1 p=ay->Q (.ref p) (upd H1 p<|.lst g)
theorem OB{x1}(h:PA X es t):PE X (.Tuple es x1 pos) (tTup t):=by
 intro ab2 s U H Q I g;refine wpAny_Tuple_spliced (bE (h _ _ s U H _ I g) λus j ⟨l,H1,I1,r,z,q⟩=>#[by rw[<- r.length];exact z,?_])
 refine#[.ref _,_,I1.laid (λb u e=>UB _ e) (UQ _) ?_,rfl,q _<|I1.hok.fresh<|UQ _];exact#[z,us,r,#[_,UI _ rfl,#[rfl,_,rfl],rfl]]
theorem O5(h:PA X es t):PE X (.List es pos) (tLst t):=by
 intro ab2 s U H Q I g;refine wpAny_List_spliced (bE (h _ _ s U H _ I g) λus j ⟨l,H1,I1,r,z,q⟩=>#[by rw[<- r.length];exact z,?_])
 refine#[.ref _,_,I1.laid (λb u e=>UB _ e) (UQ _) ?_,rfl,q _<|I1.hok.fresh<|UQ _];exact#[z,us,0,r,UI _ rfl]
abbrev Sp:=List V->Hp->VK->XK->Prop
abbrev m4:=List Env->Hp->ez->XK->ax->ez->Prop
structure Env0(P:fx)(w:hB)(K:UE)(mg:ach)(base:h9)(A:gx)(outer:List Env)(s:ez)(H:Hp):Prop where
 frames:A.frames=ap outer
 mod:Mod K mg base
 bs:∀b o,base.get? b=ap o->s.heap.get? b=ap o/\H b=ay
 bsz:base.objs.size<=s.heap.objs.size
 funs:s.heap.FunFrames base outer
 frf:∀b∈iT outer,H b=ay
 hok:HOk P w H s.heap
 bare:UV s.gens
def CE(outer:List Env)(P:fx)(w:hB)(H:Hp)(s:ez)(Q:VK)(u:ax)(s':ez):Prop:=
 ∃v H',s'.os=s.os/\UV s'.gens/\Un (iT outer) [] H H' s.heap s'.heap/\HOk P w H' s'.heap/\RelV v u/\Q v H'
def CR(CX:m4)(outer:List Env)(P:fx)(w:hB)(H:Hp)(s:ez)(Q:VK)(E:XK)(r:abm)(s':ez):Prop:=
 match r with
 |.ok (.ret u)=>CE outer P w H s Q u s'
 |.ok _=>False
 |.error e=>CX outer H s E e s'
structure FnOk(P:fx)(w:hB)(K:UE)(mg:ach)(base:h9)(CX:m4)(k:Nat)(f:eg)(fd:hG)(ps:ab')(sp:Sp):Prop where
 len:∀vs H Q E,sp vs H Q E->vs.length=ps.length
 run:∀(A:gx)(outer:List Env)(s:ez)(H:Hp)(args:Args)(us:aca)(vs:List V)(Q:VK)(E:XK),Room k A->Env0 P w K mg base A outer s H->abh s fd args (ps.zip us)->Vals vs us->sp vs H Q E->
  y' (fv P w) A (.call (.ref f) args) (CR CX outer P w H s Q E) s
theorem FnOk.imp(F:FnOk P w K mg base CX k f fd ps sp)(h:∀vs H Q E,l vs H Q E->sp vs H Q E):FnOk P w K mg base CX k f fd ps l:=
 #[λvs H Q E q=>F.len vs H Q E (h _ _ _ _ q),λA g s H j us vs Q E y B v z G=>F.run A g s H j us vs Q E y B v z (h _ _ _ _ G)]
theorem Env0.make(e:Env0 P w K mg base A g s H)(C:eg)(us:aca)(kw:List (Str×ax)):
  Env0 P w K mg base (A.under<|.builtin "type.__call__" #[.ref C::us,kw]) g s H:=#[by first|exact e.frames|rfl,e.mod,e.bs,e.bsz,e.funs,e.frf,e.hok,e.bare]
theorem Inv.env0(I:Inv X ab2 U H s):Env0 X.prog X.w X.K X.mg X.base X.A X.stack s H:=
 #[I.ok.frames,I.ok.mod,I.bs,UL I.ok.bsz I.sz,I.stack,I.stkFree,I.hok,I.bare]
theorem Inv.after(I:Inv X ab2 U H s)(h:CE X.stack X.prog X.w H s Q u s'):EP X ab2 U Q u s':=by
 obtain⟨v,H',os,j,un,l,r,q⟩:=h;obtain⟨B,g,d,t,y⟩:=s';obtain rfl:y=s.os:=os;exact#[v,H',I.call (h':=B) (g':=g) (d':=d) (t':=t) (ch:=[]) un l j (λb z=>absurd z (by simp)),r,q]
def NB(sp:Sp)(dvs:List V)(E:XK)(t:TA):TE:=λU H Q=>t U H λg H1=>sp (g++dvs) H1 Q E
def MQ(C:eg)(m:Str)(sp:Sp)(dvs:List V)(E:XK)(ta:TE)(t:TA):TE:=λU H Q=>ta U H λx H1=>∃a dx fs,x=.ref a/\H1 a=ap (.ins C dx fs)/\fs.lookup m=ay/\
 t U H1 λg H2=>sp (x::(g++dvs)) H2 Q E
def U6(C:eg)(sp:Sp)(dvs:List V)(E:XK)(t:TA):TE:=λU H Q=>t U H λg H1=>∀x dx,H1 x=ay->H1 dx=ay->dx≠x->
 sp (.ref x::(g++dvs)) (upd (upd H1 dx<|.own x) x<|.ins C dx []) (λv H2=>v=.non/\Q (.ref x) H2) E
def Binds(K:UE)(fd:hG)(ps:ab')(ds:aca):Prop:=
 ∀(s:ez)(us:aca),K.In s.heap->(us++ds).length=ps.length->abh s fd #[us,[]] (ps.zip (us++ds))
theorem Binds.all(h:∀us:List ax,us.length=ps.length->abx fd #[us,[]]=pure (ps.zip us)):Binds K fd ps []:=λs us _ g=>by
 rw[Vl]at g ⊢;exact .of_eq (h us g)
def bW(CX:m4)(X:Cx)(E:XK):Prop:=∀(ab2:acg)(U:St)(H:Hp)(s:ez)(e:ax)(s':ez),Inv X ab2 U H s->CX X.stack H s E e s'->X.xe e s'
theorem y_(F:FnOk X.prog X.w X.K X.mg X.base CX k f fd ps sp)(v:Room k X.A)(z:Binds X.K fd ps ds)(y:Vals dvs ds)(B:bW CX X E)(I:Inv X ab2 U H s)(r:Vals vs us)(h:sp (vs++dvs) H Q E):eS (fv X.prog X.w) X.A (call (.ref f) us) (EP X ab2 U Q) X.xe s:=by
 have j:Vals (vs++dvs) (us++ds):=r.append y;have l:(us++ds).length=ps.length:=by rw[<- j.length];exact F.len _ _ _ _ h
 refine W1 (qa (F.run X.A X.stack s H #[us,[]] (us++ds) (vs++dvs) Q E v I.env0 (z s us I.kIn l) j h) λr q g=>?_);cases r with
 |error e=>exact B ab2 U H s e q I g
 |ok fl=>
  cases fl with
  |ret u=>exact I.after g
  |next=>exact Vv g
  |brk=>exact Vv g
  |cont=>exact Vv g
theorem zU(F:FnOk X.prog X.w X.K X.mg X.base CX k f fd ps sp)(j:Room k X.A)(l:Gl X x)(y:X.mg x=ap (.ref f))(z:VJ X.K (.ref f)=true)(v:Binds X.K fd ps ds)(B:Vals dvs ds)(J:bW CX X E)(G:PA X (e::es) t)(g:(x==("__debug__":Str))=false:=by decide)(he:eH (e::es) X.env=(eC,g3 e X.env)::eH es X.env:=by rfl)(hpl:(j0 pos<|starEach es X.env).any (·.1)=false:=by rfl):
  PE X (.Call (.Name x p) (e::es) [] pos) (NB sp dvs E t):=by
 intro ab2 s U H Q I h;exact lm (dF I l y (Xg (h₀:=X.base) I.ok.mod.kin z (bE (G pos ab2 s U H _ I h)<|by rintro us O ⟨L,H1,I1,r,q⟩;exact#[I1.kIn,y_ F j v B J I1 r q]) he hpl) g)
theorem KE(O:PE X o ta)(c:Cls X.K C)(j:Meth X.K C m f)(F:FnOk X.prog X.w X.K X.mg X.base CX k f fd ps sp)(L:Room k X.A)(R:Binds X.K fd ps ds)(S:Vals dvs ds)(Z:bW CX X E)(Y:PA X (e::es) t)(g:eH (e::es) X.env=(eC,g3 e X.env)::eH es X.env:=by rfl)(hpl:(j0 pos<|starEach es X.env).any (·.1)=false:=by rfl)(ht:g3 (.Call (.Attribute o m ab7) (e::es) [] pos) X.env=(do
   let ov <- g3 o X.env
   R' ab7.atName
   let (f,first) <- py [ov] (G' ov m pl)
   abg pos f first (j0 pos<|starEach (e::es) X.env) (rc pos<|keywordEach [] X.env)):=by rfl):
  PE X (.Call (.Attribute o m ab7) (e::es) [] pos) (MQ C m sp dvs E ta t):=by
 intro ab2 s U H Q I h;refine W.methodCall_KW (pl:=pl) (bE (O ab2 s U H _ I h) λu B z=>?_) ht;obtain⟨x,H1,I1,y,a,dx,fs,v,J,l,q⟩:=z;subst v;obtain rfl:u=UY a:=y;refine oH I1 J c j l ?_;refine Xg (first:=[.ref a]) (h₀:=X.base) I.ok.mod.kin j.kp (bE (Y pos ab2 B U H1 _ I1 q) λus s2 ⟨vs,H2,I2,r,G⟩=>#[I2.kIn,?_]) g hpl
 exact y_ (us:=.ref a::us) (vs:=.ref a::vs) F L R S Z I2 (.cons rfl r) G
theorem II(G:PE X o ta)(c:Cls X.K C)(g:Meth X.K C m f)(F:FnOk X.prog X.w X.K X.mg X.base CX k f fd ps sp)(B:Room k X.A)(J:Binds X.K fd ps ds)(O:Vals dvs ds)(R:bW CX X E)(L:g3 (.Call (.Attribute o m ab7) [] [] pos) X.env=(do
   let ov <- g3 o X.env
   R' ab7.atName
   let (f,first) <- py [ov] (G' ov m pl)
   abg pos f first (j0 pos<|starEach [] X.env) (rc pos<|keywordEach [] X.env)):=by rfl):
  PE X (.Call (.Attribute o m ab7) [] [] pos) (MQ C m sp dvs E ta RQ):=by
 intro ab2 s U H Q I h;refine W.methodCall_KW (pl:=pl) (bE (G ab2 s U H _ I h) λu S y=>?_) L;obtain⟨x,H1,I1,v,a,dx,fs,j,z,l,q⟩:=y;subst j;obtain rfl:u=UY a:=v;refine oH I1 z c g l ?_;exact W.callWith_K0 (first:=[.ref a]) I1.kIn g.kp (y_ (us:=[.ref a]) (vs:=[.ref a]) F B J O R I1 (.cons rfl .nil) q)
structure Mk(K:UE)(C f:eg):Prop where
 makes:XI K C=true
 init:Vp K (.ref C) "__init__"=ap (ap<|.ref f)
 fn:W.isFn K (.ref f)=true
 kp:VJ K (.ref C)=true
theorem F3(M:Mk X.K C f)(F:FnOk X.prog X.w X.K X.mg X.base CX k f fd ps sp)(J:Room (k+1) X.A)(O:Binds X.K fd ps ds)(L:Vals dvs ds)(R:bW CX X E)(I:Inv X ab2 U H s)(r:Vals vs us)(h:∀x dx,H x=ay->H dx=ay->dx≠x->sp (.ref x::(vs++dvs)) (upd (upd H dx<|.own x) x<|.ins C dx []) (λv H2=>v=.non/\Q (.ref x) H2) E):
  eS (fv X.prog X.w) X.A (call (.ref C) us) (EP X ab2 U Q) X.xe s:=by
 have j:=h _ _ (I.hok.fresh<|Yv _) (I.hok.fresh<|UQ _) (UT<|Nat.lt_succ_self _);have I2:=J0 (C:=C) I;have l:Vals (V.ref (s.heap.objs.size+1)::(vs++dvs)) _:=.cons rfl (r.append L);have y:(UY (s.heap.objs.size+1)::us++ds).length=ps.length:=by
  have e:=l.length;rw[F.len _ _ _ _ j]at e;exact e.symm
 refine W1 (F8 I.kIn M.makes M.init (beq_iff_eq.mp M.fn) (qa (F.run _ _ _ _ _ _ _ _ E (J.make C us [])
  (I2.env0.make C us []) (O _ _ I2.kIn y) l j) λr G g=>?_))
 cases r with
 |error e=>exact R _ U _ _ e G I2 g
 |ok fl=>
  cases fl with
  |ret u=>
   obtain⟨v,H',I3,z,q,B⟩:=I2.after g;subst q;exact#[z,#[V.ref _,H',I3,rfl,B]]
  |next=>assumption
  |brk=>assumption
  |cont=>assumption
theorem LL(M:Mk X.K C f)(F:FnOk X.prog X.w X.K X.mg X.base CX k f fd ps sp)(j:Room (k+1) X.A)(l:Gl X x)(y:X.mg x=ap (.ref C))(v:Binds X.K fd ps ds)(z:Vals dvs ds)(G:bW CX X E)(B:PA X (e::es) t)(g:(x==("__debug__":Str))=false:=by decide)(he:eH (e::es) X.env=(eC,g3 e X.env)::eH es X.env:=by rfl)(hpl:(j0 pos<|starEach es X.env).any (·.1)=false:=by rfl):
  PE X (.Call (.Name x p) (e::es) [] pos) (U6 C sp dvs E t):=by
 intro ab2 s U H Q I h;exact lm (dF I l y (Xg (h₀:=X.base) I.ok.mod.kin M.kp (bE (B pos ab2 s U H _ I h)<|by rintro us L ⟨J,H1,I1,r,q⟩;exact#[I1.kIn,F3 M F j v z G I1 r q]) he hpl) g)
structure FnScope(N P:ab')(sc:pt):Prop where
 kind:sc.kind=.function
 co:sc.isCoroutine=eC
 gen:sc.isGenerator=eC
 nd:N.Nodup
 pre:N.take P.length=P
 par:∀x∈P,sc.names.lookup x=ap .local\/sc.names.lookup x=ap .cell
 nofree:∀y∈sc.names,y.2≠.free
theorem qQ{x:Str}:∀{binds:List (Str×ax)}{m:ach},(∀v,(x,v)∉binds)->bindL g binds m x=m x
 |[],_,_=>rfl
 |(n,v)::r,m,h=>by
  unfold bindL;rw[qQ λw j=>h w (UJ _ j)]
  split
  .have:x≠n:=by rintro rfl;exact h v UP
   simp[this]
  rfl
theorem rO{x:Str}:∀{binds:List (Str×ax)}{m:ach},(∀v,(x,v)∉binds)->bindC g binds m x=m x
 |[],_,_=>rfl
 |(n,v)::r,m,h=>by
  unfold bindC;rw[rO λw j=>h w (UJ _ j)]
  split
  .rfl
  have:x≠n:=by rintro rfl;exact h v UP
  simp[this]
theorem qZ{kindOf:Str->Option Z'}{x:Str}{v:ax}:∀{P:ab'}{vs:aca}{i:Nat}{m:ach},P.Nodup->P[i]?=ap x->vs[i]?=ap v->kindOf x=ap .local->
  bindL kindOf (P.zip vs) m x=ap v
 |[],_,_,_,_,h,_,_=>by simp at h
 |_::_,[],_,_,_,_,h,_=>by simp at h
 |p::P,w::vs,0,m,nd,h1,h2,hk=>by
  simp at h1 h2;subst h1 h2;show bindL _ ((p,w)::P.zip vs) m p=_;unfold bindL;rw[qQ λv hv=>(VQ.mp nd).1 (WE hv).1,if_pos hk];simp
 |p::P,w::vs,i+1,m,nd,h1,h2,hk=>by
  unfold bindL;exact qZ (VQ.mp nd).2 (by trivial) (by trivial) hk
theorem qI{kindOf:Str->Option Z'}{x:Str}{v:ax}:∀{P:ab'}{vs:aca}{i:Nat}{m:ach},P.Nodup->P[i]?=ap x->vs[i]?=ap v->kindOf x≠ap .local->
  bindC kindOf (P.zip vs) m x=ap v
 |[],_,_,_,_,h,_,_=>by simp at h
 |_::_,[],_,_,_,_,h,_=>by simp at h
 |p::P,w::vs,0,m,nd,h1,h2,hk=>by
  simp at h1 h2;subst h1 h2;show bindC _ ((p,w)::P.zip vs) m p=_;unfold bindC;rw[rO λv hv=>(VQ.mp nd).1 (WE hv).1,if_neg hk];simp
 |p::P,w::vs,i+1,m,nd,h1,h2,hk=>by
  unfold bindC;exact qI (VQ.mp nd).2 (by trivial) (by trivial) hk
noncomputable def start(N:ab')(vs:List V):St:=vs.map ap++UX (N.length-vs.length) ay
noncomputable def fk(CX:m4)(P:fx)(w:hB)(K:UE)(mg:ach)(base:h9)(N:ab')(ab3:Str)(scope:pt)(f:eg)(cd:ax)(A:gx)(outer:List Env)(s:ez)(H:Hp)(E:XK):Cx where
 prog:=P
 w:=w
 K:=K
 mg:=mg
 base:=base
 A:=A.deeper (envOfC ab3 scope s.heap.objs.size f cd)
 N:=N
 s₀:=s
 H₀:=H
 env:=envOfC ab3 scope s.heap.objs.size f cd
 outer:=outer
 stack:=envOfC ab3 scope s.heap.objs.size f cd::outer
 ex:=[]
 calm:=true
 fn:=λ_=>true
 pn:=[]
 xe:=λe l=>eS (fv P w) (A.deeper<|envOfC ab3 scope s.heap.objs.size f cd) (leaving (envOfC ab3 scope s.heap.objs.size f cd) e) (λ_ g=>CX outer H s E e g) (λj g=>CX outer H s E j g) l
theorem xr{g:pt}(h:g.names.lookup x=ap .cell):∃c,(ox n g.names []).lookup x=ap c:=by
 exact V7.mp (WC _ n []<|.inl h)
theorem qO(S:FnScope N ps g)(hd:A.handled=ay)(B:Env0 P w K mg base A j s H)(hl:vs.length=ps.length)(r:Vals vs us)(x:InCallC s s.heap.objs.size (bindL (envOfC l g s.heap.objs.size f O).kindOf (ps.zip us) λ_=>ay) (ox (s.heap.objs.size+1) g.names []) (bindC (envOfC l g s.heap.objs.size f O).kindOf (ps.zip us) λ_=>ay) Z):
  Inv (fk CX P w K mg base N l g f O A j s H E) [] (start N vs) H Z:=by
 have hpl:ps.length<=N.length:=by have:=congrArg V8 S.pre;rw[Wt]at this;lia
 obtain⟨L,tk,rfl,W⟩:=x.done;have G:∀b:eg,b∉(fk CX P w K mg base N l g f O A j s H E).ex:=λb z=>absurd (show b∈[] from z) (by simp)
 refine#[#[B.mod,S.kind,rfl,rfl,UQ _,λy z c L F=>?_,λy hy=>?_,λy c _ h=>?_,λ_=>hd,Around.frames_deeper B.frames,.inr #[rfl,rfl],λb z=>absurd z (G b),B.bs,B.bsz,λb _ _=>G b,λb z=>absurd z (G b),B.funs,B.frf],
  rfl,B.bare,Un.kept W,#[_,x.toInCall.ns,λi y v L F h3=>?_],λy c h=>#[_,x.cell y c h],B.hok.fresh (UQ _),λy c h=>?_,λp I=>absurd (show p∈[] from I) (by simp),B.hok.kept W,?_]
 .exact name_of_addr x.apart (Vy L) (Vy F)
 .rcases hy with hy|hy
  .exact xr hy
  exact absurd rfl (S.nofree _<|Vy hy)
 .exact Ym (x.above y c<|Vy h)
 .have R:i<vs.length:=by
   unfold start at F
   by_cases R:i<vs.length
   .exact R
   rw[VP (by simpa using R)]at F
   rw[Y6]at F
   split at F<;>cases F
  have ha:vs[i]?=ap v:=by
   unfold start at F;rw[Wz (by simp_all)]at F
   cases e:vs[i]?<;>simp_all
  obtain⟨u,Y,rv⟩:=r.get ha;have I:ps[i]?=ap y:=by
   rw[<- S.pre,List.getElem?_take_of_lt (by lia)];exact L
  have J:ps.Nodup:=by rw[<- S.pre];exact S.nd.sublist (List.take_sublist _ _)
  refine#[u,rv,?_];rcases S.par y (VD I) with k|k
  .exact .inl #[k,qZ J I Y k]
  obtain⟨c,e⟩:=xr k;refine .inr #[.inl k,c,e,?_];have q:=x.cell y c e;rw[qI J I Y (by show g.names.lookup y≠_;rw[k];decide)]at q
  exact q
 .exact B.hok.fresh (Ym<|x.above y c<|Vy h)
 unfold start;show _=N.length;rw[UU,UA,List.length_replicate];lia
theorem NJ{kV:ax}(lk:K.lookup f=ap #[oc,od,.func (WO G l B body g dV kV doc pm an z ct),osl])(hcd:X2 K z l=true)(S:FnScope N ps g)(len:∀vs H Q E,sp vs H Q E->vs.length=ps.length)(O:∀(A:gx)(j:List Env)(s:ez)(H:Hp)(vs:List V)(Q:VK)(E:XK),Room k (A.deeper<|envOfC l g s.heap.objs.size f z)->sp vs H Q E->
   ∃t,wk (fk CX P w K mg base N l g f z A j s H E) body t/\t { nx:=λ_ H'=>Q .non H',rt:=Q } (start N vs) H):
  FnOk P w K mg base CX (k+1) f (WO G l B body g dV kV doc pm an z ct) ps sp:=by
 refine#[len,λA j s H args us vs Q E hr Y hb r Z=>?_];have hl:=len _ _ _ _ Z;have KX:K.In s.heap:=Y.mod.kin.keeps λb o e=>(Y.bs b o e).1;have lim:s.heap.NoLimit:=Y.mod.nolimit.keeps λb o e=>(Y.bs b o e).1;have L:∀y∈ps.zip us,g.names.lookup y.1=ap .local\/(g.names.lookup y.1=ap .cell/\((ox (s.heap.objs.size+1) g.names []).lookup y.1).isSome=true):=λ⟨n,v⟩ hy=>by
  rcases S.par n (WE hy).1 with q|q
  .exact .inl q
  .exact .inr #[q,WC _ _ _<|.inl q]
 refine abW hr.depth (KX _ _ lk) rfl S.co S.gen rfl (W.codeRec_of KX hcd) (hb _ _ _ _ ?_);refine abr S.kind L λenv he s1 x=>?_;subst he;refine#[lim.keeps x.toInCall.keep,codeAny_func ?_];obtain⟨t,ht,hq⟩:=O A j s H vs Q E (hr.deeper _) Z;have I:Inv (fk CX P w K mg base N l g f z A j s H E) [] (start N vs) H s1:=qO S hr.hd Y hl r x;refine kr (ht [] s1 (start N vs) H _ I hq) (λfl s' R=>?_) λe s' R=>R;have fin:∀{F:St}{H':Hp}{v:V}{u:ax},Inv (fk CX P w K mg base N l g f z A j s H E) [] F H' s'->RelV v u->Q v H'->CE j P w H s Q u s':=
  λ{F H' v u} J rv q=>#[v,H',J.os,J.bare,J.base,J.hok,rv,q]
 cases fl with
 |ret u=>
  obtain⟨v,F,H',J,rv,q⟩:=R;exact fin J rv q
 |next=>
  obtain⟨F,H',J,q⟩:=R;exact fin (v:=V.non) (u:=Wm) J rfl q
 |brk=>
  obtain⟨_,_,_,q⟩:=R;exact Vv q
 |cont=>
  obtain⟨_,_,_,q⟩:=R;exact Vv q
section
variable{id:String}{r:List V->Hp->VK->Prop}
def tCB(r:List V->Hp->VK->Prop)(t:TA):TE:=λU H Q=>t U H λg H1=>r g H1 Q
theorem vB(G:bH X (.builtin id) r)(v:Gl X x)(z:X.mg x=ay)(y:fy x=ap (.builtin id))(B:PA X (e::es) t)(F:x≠"__name__":=by decide)(hdb:(x==("__debug__":Str))=false:=by decide)(he:eH (e::es) X.env=(eC,g3 e X.env)::eH es X.env:=by rfl)(hpl:(j0 pos<|starEach es X.env).any (·.1)=false:=by rfl):PE X (.Call (.Name x p) (e::es) [] pos) (tCB r t):=by
 intro ab2 s U H Q I h;refine lm (dZ I v z y ?_ F hdb);exact PyProof.Rows.callWith_builtin1 (bE (B pos ab2 s U H _ I h) λus l ⟨g,H1,I1,q,j⟩=>G ab2 l U H1 g us Q I1 q j) he hpl
theorem Eu(G:bH X (.type T) r)(v:Gl X x)(z:X.mg x=ay)(y:fy x=ap (.type T))(B:PA X (e::es) t)(F:x≠"__name__":=by decide)(hdb:(x==("__debug__":Str))=false:=by decide)(he:eH (e::es) X.env=(eC,g3 e X.env)::eH es X.env:=by rfl)(hpl:(j0 pos<|starEach es X.env).any (·.1)=false:=by rfl):PE X (.Call (.Name x p) (e::es) [] pos) (tCB r t):=by
 intro ab2 s U H Q I h;refine lm (dZ I v z y ?_ F hdb);exact Vi (bE (B pos ab2 s U H _ I h) λus l ⟨g,H1,I1,q,j⟩=>G ab2 l U H1 g us Q I1 q j) he hpl
end
end _2
namespace HT
open PySem PyProof.Rows
theorem JX(B:IsTup s.heap t vs.toArray)(z:IsTup s.heap b a.toArray)(x:vs≠[])
  (C:a=[]->Q (.ref t) s) (y:a≠[]->Q (.ref s.heap.objs.size) { s with heap:=s.heap.push { cls:=.type "tuple",data:=.seq (vs++a).toArray } })
  (hsz:vs.length+a.length<=sizeLine):eS (fv prog w) A (kc .Add (.ref t)<|.ref b) Q E s:=by
 obtain⟨⟨cls,u,data,r⟩,l,v,n,q⟩:=id B;obtain⟨⟨p,g,m,f⟩,c,i,o,h⟩:=id z;simp only at v q i h;subst v q i h;have e:vs.toArray++a.toArray=(vs++a).toArray:=by simp
 by_cases j:a=[]
 .exact abR #[_,l,rfl] #[_,c,rfl] abk abB Xv Xp (Xi _ _)
   (tuple_addW1 t b vs.toArray a.toArray n o u g r f (by simpa using x)<|by simp[j]) #[l,c,C j]
 .refine abR #[_,l,rfl] #[_,c,rfl] abk abB Xv Xp (Xi _ _)
   (tuple_addW2 t b vs.toArray a.toArray n o u g r f (by simpa using x) (by simpa using j)<|by rw[US,US];exact hsz) #[l,c,?_]
  rw[e];exact y j
noncomputable def sIx(n d:Nat):Option Int->Nat
 |none=>d
 |some v=>if v<0 then (v+(n:Int)).toNat else min v.toNat n
theorem wW(n d:Nat):sIx n d ay=d:=rfl
theorem Bc(n d k:Nat):sIx n d (ap (k:Int))=min k n:=by
 rfl
theorem sIx_le(n d:Nat)(a:d<=n)(o:Option Int):sIx n d o<=n:=by
 cases o with
 |none=>exact a
 |some v=>
  show (if v<0 then (v+n).toNat else min _ n)<=n
  lia
theorem A1(v:Int)(n d:Nat):(if v<0 then max (v+(n:Int)) 0 else min v (n:Int))=((sIx n d (ap v):Nat):Int):=by
 show (if v<0 then max _ 0 else min v _)=(if v<0 then (v+(n:Int)).toNat else min v.toNat n)
 lia
theorem yC(a b:Option Int)(n:Nat):X9 a b 1 (n:Int)=(((sIx n 0 a:Nat):Int),((sIx n n b:Nat):Int)):=by
 refine Prod.ext ?_ ?_
 .cases a with
  |none=>rfl
  |some v=>exact A1 v n 0
 cases b with
 |none=>rfl
 |some v=>exact A1 v n n
theorem yS(i j:Nat):WY (i:Int) (j:Int) 1=j-i:=by
 unfold WY
 split<;>lia
theorem pF(p:aa7 v o)(h:Q o s):eS (fv prog w) A (Builtin.Slice.slicePartIndex v) Q E s:=by
 cases p with
 |none=>exact slicePart_none h
 |int i t=>exact slicePart_int h
theorem fG{Q:Int×Int×Nat->ez->Prop}(m:s.heap.IsSliceOf g i f .none)(pl:aa7 i a)(l:aa7 f e)
  (h:Q (((sIx n 0 a:Nat):Int),1,sIx n n e-sIx n 0 a) s):eS (fv prog w) A (Builtin.Slice.sliceApplied (.ref g)<|pure (n:Int)) Q E s:=by
 obtain⟨o,c,j,b⟩:=id m;refine cT (cT<|wpAny_field c b rfl<|wpAny_bind<|wpAny_field c b rfl<|wpAny_bind<|wpAny_field c b rfl<|wpAny_pure ?_);refine cT (slicePart_none ?_);refine cT (pF pl<|wpAny_bind<|pF l<|wpAny_bind<|wpAny_pure ?_);show eS _ _ (match X9 a e 1 _ with|(a,e)=>pure (a,(1:Int),WY a e 1)) _ _ s
 rw[yC a e n];show eS _ _ (pure _) _ _ s;rw[yS];exact eX h
theorem GQ(xs:aci)(i k:Nat):((Vu k).filterMap λ(m:Nat)=>xs[((i:Int)+(m:Int)*1).toNat]?).toArray=((xs.toList.drop i).take k).toArray:=by
 have e:(λ(m:Nat)=>xs[(i+(m:Int)*1).toNat]?)=λm=>xs[i+m]?:=by
  funext m;have:(i+(m:Int)*1).toNat=i+m:=by lia
  rw[this]
 rw[e];have:=pick_run xs i k;have a:((λx=>xs[x]?) ∘ λx=>i+x)=λm=>xs[i+m]?:=rfl
 simp_all
theorem kC(f:IsTup s.heap t a)(p:s.heap.IsSliceOf m r o .none)(pl:aa7 r b)(x:aa7 o e)
  (y:¬(sIx a.size 0 b=0/\sIx a.size a.size e=a.size))
  (h:Q (.ref s.heap.objs.size) { s with heap:=s.heap.push { cls:=.type "tuple",data:=.seq ((a.toList.drop<|sIx a.size 0 b).take (sIx a.size a.size e-sIx a.size 0 b)).toArray } })
  (hsz:a.size<=sizeLine):eS (fv prog w) A (W' (.ref t)<|.ref m) Q E s:=by
 have c:sizeOk (.seq ((a.toList.drop<|sIx a.size 0 b).take (sIx a.size a.size e-sIx a.size 0 b)).toArray):=by
  show ((a.toList.drop _).take _).toArray.size<=sizeLine;rw[US,Wt,XB,W6];lia
 obtain⟨v,j,i,u⟩:=id p;have g:s.TypeIs (.ref m) _:=#[v,j,i];unfold W'
 try with_reducible refine ol ?_
 refine cT (wpAny_sequenceKey f.typeIs (by decide) ?_)
 refine cT (wpAny_callSpecial?_slot f.typeIs Vz
  (l' Vz f.typeIs entry_tuple_getitem ?_<|args_tuple_getitem _ _))
 show eS _ _ (X5 _ >>= _) _ _ s;refine cT (tupleItemsOf_ f ?_);refine cT (abd g ?_);refine cT (fG p pl x ?_);have l:¬((((sIx a.size 0 b):Int)==0&&(1:Int)==1&&(sIx a.size a.size e-sIx a.size 0 b)==a.size)=true):=by
  intro q;rw[VU,VU]at q;have B:=eq_of_beq q.1.1;have z:=eq_of_beq q.2;exact y #[by lia,by lia]
 show eS _ _ (if (((sIx _ 0 b):Int)==0&&1==1&&(sIx _ _ e-sIx _ 0 b)==a.size)=true then _ else _) _ _ s
 rw[if_neg l,GQ]
 first
  |exact cT (x9 (eX #[_,rfl,eX h]) c)
  |rfl
  |rfl
  |rfl
end HT
namespace _2
open PySem PySem.Spec PyProof.Rows
variable{xs:List (List aI×eg×ax)}{ab8:aca}{α:Type}{r u:ax}
abbrev TO:=St->Hp->(Option Int->Hp->Prop)->Prop
def PO(X:Cx)(e:Option f')(t:TO):Prop:=
 ∀(ab2:acg)(s:ez)(U:St)(H:Hp)(Q:Option Int->Hp->Prop),Inv X ab2 U H s->t U H Q->
  eS (fv X.prog X.w) X.A (evalPart e X.env) (λu c=>∃o H',Inv X ab2 U H' c/\aa7 u o/\Q o H') X.xe s
def Ji:TO:=λ_ H Q=>Q ay H
def Tg(t:TE):TO:=λU H Q=>t U H λx H1=>∃i,x=.int i/\Q (ap i) H1
section
variable{lo hi:Option f'}
theorem KN(h:PE X e te):PO X (ap e) (Tg te):=by
 intro ab2 s U H Q I c;refine bE (h _ s U H _ I c) λu l f=>?_;obtain⟨x,H1,I1,g,j⟩:=f;obtain⟨i,rfl,q⟩:=j;obtain⟨t,rfl⟩:=g;exact#[_,H1,I1,.int i t,q]
def Ug(X:Cx)(r:V->Option Int->Option Int->Hp->VK->Prop):Prop:=
 ∀(ab2:acg)(s:ez)(U:St)(H:Hp)(x:V)(v vl vu:ax)(lo hi:Option Int)(sl:eg)(Q:VK),Inv X ab2 U H s->RelV x v->s.heap.IsSliceOf sl vl vu .none->aa7 vl lo->aa7 vu hi->r x lo hi H Q->
  ∃T id,z4 (.type T) "__getitem__"=pure (ap<|.builtin id)/\s.TypeIs v T/\eS (fv X.prog X.w) X.A (W' v<|.ref sl) (EP X ab2 U Q) X.xe s
def tSl(r:V->Option Int->Option Int->Hp->VK->Prop)(te:TE)(tl th:TO):TE:=λU H Q=>te U H λx H1=>tl U H1 λl H2=>th U H2 λu H3=>r x l u H3 Q
theorem Iy{r:V->Option Int->Option Int->Hp->VK->Prop}(G:Ug X r)(J:PE X e te)(K:PO X lo tl)(L:PO X hi th):PE X (.Subscript e (.Slice lo hi ay p2) pos) (tSl r te tl th):=by
 intro ab2 s U H Q I h;refine Subscript_ (bE (J ab2 s U H _ I h) λv m ⟨x,H1,I1,p,C⟩=>?_);refine wpAny_Slice (bE (K ab2 m U H1 _ I1 C) λg s2 ⟨l,H2,I2,pl,y⟩=>bE (L ab2 s2 U H2 _ I2 y) λf c ⟨u,H3,I3,i,F⟩=>?_);rw[evalPart_none];refine eX ?_;have I4:Inv X ab2 U H3 { c with heap:=c.heap.push { cls:=.type "slice",data:=.fields (tX [g,f,.none]) } }:=I3.kept (t':=c.toks) λb M q=>UB _ q;obtain⟨T,id,z,B,j⟩:=G ab2 { c with heap:=c.heap.push { cls:=.type "slice",data:=.fields (tX [g,f,.none]) } } U H3 x v g f l u c.heap.objs.size Q I4 p (Heap.IsSliceOf.new ..) pl i F;show eS (fv X.prog X.w) X.A (subscriptTail e (.Slice lo hi ay p2) v<|.ref c.heap.objs.size) (EP X ab2 U Q) X.xe { c with heap:=c.heap.push { cls:=.type "slice",data:=.fields (tX [g,f,.none]) } };exact tail_any (ops:=[.ref c.heap.objs.size,v]) B z j (by with_unfolding_all rfl)
def qu(xs:List V)(lo hi:Option Int):List V:=(xs.drop<|HT.sIx xs.length 0 lo).take (HT.sIx xs.length xs.length hi-HT.sIx xs.length 0 lo)
theorem lJ(xs:List V)(lo hi:Option Int):(qu xs lo hi).length<=xs.length:=by
 unfold qu;rw[Wt,XB];lia
def rSlT(K:UE):V->Option Int->Option Int->Hp->VK->Prop:=λx lo hi H Q=>∃a xs,x=.ref a/\lW K H a xs/\
 ¬(HT.sIx xs.length 0 lo=0/\HT.sIx xs.length xs.length hi=xs.length)/\∀p,H p=ay->Q (.ref p) (upd H p<|.tup<|qu xs lo hi)
theorem O3:Ug X (rSlT X.K):=by
 rintro ab2 s U H x v z y lo hi B Q I g m pl h ⟨a,xs,rfl,l,i,q⟩
 cases g;obtain⟨ab8,r,f,j⟩:=I.tuple l;have c:ab8.toArray.size=xs.length:=by exact r.length.symm
 refine#[_,_,Vz.lookup,f.typeIs,?_];refine HT.kC f m pl h (by rw[c];exact i) ?_ (by simp_all)
 rw[c];refine#[.ref _,_,I.laid (λb p q=>UB _ q) (UQ _) ?_,rfl,q _<|I.hok.fresh<|UQ _];exact#[UL (lJ xs lo hi) j,_,(r.drop _).take _,#[_,UI _ rfl,#[rfl,_,rfl],rfl]]
def TY(K:UE):R2:=λx y H Q=>∃a b xs ys,x=.ref a/\y=.ref b/\lW K H a xs/\lW K H b ys/\xs≠[]/\xs.length+ys.length<=sizeLine/\
 (ys=[]->Q (.ref a) H)/\(ys≠[]->∀p,H p=ay->Q (.ref p) (upd H p<|.tup (xs++ys)))
theorem Vals.nil_iff{xs:List V}(r:Vals xs us):us=[]↔xs=[]:=by
 cases r<;>simp_all
theorem LJ:cQ X (kc .Add) (TY X.K):=by
 rintro ab2 s U H x y v u Q I g i ⟨a,b,xs,G,rfl,rfl,j,h,l,C,B,m⟩
 cases g;cases i;obtain⟨ab8,c,p,_⟩:=I.tuple j;obtain⟨f,r2,p2,_⟩:=I.tuple h;refine HT.JX p p2 (λz=>l (c.nil_iff.mp z)) (λz=>#[.ref a,H,I,rfl,B<|r2.nil_iff.mp z]) (λz=>?_) (by rw[<- c.length,<- r2.length];exact C)
 refine#[.ref _,_,I.laid (λb F q=>UB _ q) (UQ _) ?_,rfl,m (λw=>z (r2.nil_iff.mpr w)) _<|I.hok.fresh<|UQ _];exact#[by simp_all,_,c.append r2,#[_,UI _ rfl,#[rfl,_,rfl],rfl]]
end
noncomputable def ve(n:Nat)(i:Int):Option Nat:=if 0<=i then (if i<n then ap i.toNat else ay) else if -(n:Int)<=i then ap (i+n).toNat else ay
def atI{α:Type}(xs:List α)(i:Int):Option α:=(ve xs.length i).bind λj=>xs[j]?
theorem rZ(h:ve n i=ap j):abD i n=ap j/\j<n/\-(n:Int)<=i/\i<n:=by
 unfold ve at h
 by_cases f:0<=i
 .rw[if_pos f]at h
  by_cases c:i<n
  .rw[if_pos c]at h
   have e:=VG h;exact#[by rw[seqIndex_of f c,e],by lia,by lia,c]
  simp_all
 rw[if_neg f]at h
 by_cases c:-n<=i
 .rw[if_pos c]at h
  have e:=VG h;exact#[by rw[abO (by lia) c,e],by lia,c,by lia]
 rw[if_neg c]at h;cases h
theorem uu{xs:List α}(h:atI xs i=ap v):∃j,abD i xs.length=ap j/\xs[j]?=ap v/\j<xs.length/\-(xs.length:Int)<=i/\i<xs.length:=by
 unfold atI at h;cases e:ve xs.length i with
 |none=>simp_all
 |some j=>
  rw[e]at h;obtain⟨l,c,f,g⟩:=rZ e;exact#[j,l,h,c,f,g]
def BO(b:f'):Prop:=∀o i,subscripted b eC o i=operate [o,i] (W' o i)
def IxR(X:Cx)(r:R2):Prop:=
 ∀(value slice:f')(ab2:acg)(s:ez)(U:St)(H:Hp)(x y:V)(v u:ax)(Q:VK),Inv X ab2 U H s->RelV x v->RelV y u->r x y H Q->
  subscripted slice eC v u=operate [v,u] (W' v u)->eS (fv X.prog X.w) X.A (subscriptTail value slice v u) (EP X ab2 U Q) X.xe s
def wO(X:Cx)(id:String)(r:V->List V->Hp->VK->Prop):Prop:=
 ∀(ab2:acg)(s:ez)(U:St)(H:Hp)(x:V)(xs:List V)(v:ax)(us:aca)(Q:VK),Inv X ab2 U H s->RelV x v->Vals xs us->r x xs H Q->
  eS (fv X.prog X.w) X.A (call (.builtin id) (v::us)) (EP X ab2 U Q) X.xe s
section
theorem IxR.or{r:R2}(h:IxR X r)(h':IxR X l):IxR X (λx y H Q=>r x y H Q\/l x y H Q):=by
 intro c f ab2 s U H x y v u Q I g i q j;rcases q with q|q
 .exact h _ _ _ s U H x y v u Q I g i q j
 exact h' _ _ _ s U H x y v u Q I g i q j
theorem TJ{r:R2}(g:IxR X r)(l:PE X a ta)(j:PE X b tb)(i:BO b):PE X (.Subscript a b pos) (Ua r ta tb):=by
 intro ab2 s U H Q I h;exact Subscript_ (Oi l j I h λv u s2 x y H2 I2 c f q=>g a b ab2 s2 U H2 x y v u Q I2 c f q (i _ _))
def RY(K:UE):R2:=λx y H Q=>∃p xs i v,x=.ref p/\y=.int i/\SqL K H p xs/\atI xs i=ap v/\Q v H
def TV(K:UE):R2:=λx y H Q=>∃p xs i v,x=.ref p/\y=.int i/\lW K H p xs/\atI xs i=ap v/\Q v H
def Um:R2:=λx y H Q=>∃z i c,x=.str z/\y=.int i/\z.length<=sizeLine/\atI z.cps.toList i=ap c/\Q (.str #[(tX [c])]) H
theorem ix_list:IxR X (RY X.K):=by
 intro f m ab2 s U H x y v u Q I J M h F;obtain⟨p,xs,i,z,rfl,rfl,N,O,q⟩:=h;cases J;obtain⟨t,rfl⟩:=M;obtain⟨ab8,r,pl,Z⟩:=I.list N;obtain⟨j,c,R,W,S,L⟩:=uu O;obtain⟨w,C,g⟩:=r.get R;have G:=r.length;have Y:=ia;have fin:EP X _ U Q w s:=#[z,H,I,g,q]
 by_cases B:0<=i
 .have l:i.toNat=j:=by
   rw[seqIndex_of B L]at c;exact VG c
  exact item_listR pl.isList B (by lia) (by rw[l];simpa using C) fin F
 have l:(i+ab8.toArray.size).toNat=j:=by
  rw[abO (by lia) S]at c
  rw[US,<- G];exact VG c
 exact abN pl.isList.typeIs slot_list_getitem.lookup
  (wpAny_getItem_list_neg pl.isList (by lia) (by rw[US]<;>lia) (by lia) (by rw[l];simpa using C) #[rfl,fin]) F
theorem ix_tup:IxR X (TV X.K):=by
 intro c g ab2 s U H x y v u Q I l B h G;obtain⟨p,xs,i,z,rfl,rfl,C,F,q⟩:=h;cases l;obtain⟨t,rfl⟩:=B;obtain⟨ab8,r,pl,S⟩:=I.tuple C;obtain⟨j,J,L,N,R,M⟩:=uu F;obtain⟨w,m,f⟩:=r.get L;have O:=ia;have fin:EP X _ U Q w s:=#[z,H,I,f,q]
 exact abN pl.typeIs slot_tuple_getitem.lookup
  (getItem_tuple pl (by lia) (by lia) (by rw[US,<- r.length];exact J) (by simpa using m) #[rfl,fin]) G
theorem HS:IxR X Um:=by
 intro f g ab2 s U H x y v u Q I p C h L;obtain⟨z,i,c,rfl,rfl,O,G,q⟩:=h;obtain⟨t,rfl⟩:=p;obtain⟨t',rfl⟩:=C;obtain⟨j,l,F,N,K,B⟩:=uu G;have m:z.cps.toList.length=z.length:=by rfl
 rw[m]at l K B;have R:=ia;exact tail_any (typeIs_str s z t) slot_str_getitem.lookup (getItem_str (by
  have J:decide (i < -(2 ^ 63))=false:=decide_eq_false (by lia)
  have M:decide (i>=2 ^ 63)=false:=decide_eq_false (by lia)
  rw[J,M,X7]) (by rw[l];simpa using F) #[.str _,H,I.tok _,#[_,rfl],q]) L
def rIx(K:UE):R2:=λx y H Q=>RY K x y H Q\/TV K x y H Q\/Um x y H Q
theorem yR(ab8:aca)(n j:Nat)(u:ax):Yc (·.setIfInBounds j u) { cls:=.type "list",data:=.seq ab8.toArray n }={ cls:=.type "list",data:=.seq (ab8.set j u).toArray n }:=by
 simp[Yc]
theorem Inv.lst{xs:List V}(I:Inv X ab2 U H s)(h:H p=ap (.lst xs)):
  ∃(ab8:aca)(n:Nat),Vals xs ab8/\s.heap.get? p=ap { cls:=.type "list",data:=.seq ab8.toArray n }/\xs.length<=sizeLine:=by
 obtain⟨z,ab8,n,r,e⟩:=I.hok p _ h;exact#[_,n,r,e,z]
theorem Inv.lstUpd{xs:List V}(I:Inv X ab2 U H s)(h:H p=ap (.lst xs))(ho:s.heap.get? p=ap { cls:=.type "list",data:=.seq ab8.toArray n })(hf:f { cls:=.type "list",data:=.seq ab8.toArray n }={ cls:=.type "list",data:=.seq its'.toArray n' })(r:Vals ys its')(hz:ys.length<=sizeLine)(t:Nat):
  Inv X ab2 U (upd H p<|.lst ys) { s with heap:=s.heap.update p f,toks:=t }:=by
 have e:(s.heap.update p f).get? p=ap { cls:=.type "list",data:=.seq its'.toArray n' }:=by
  rw[XO f ho (by rw[hf]<;>rfl),hf]
 refine I.write (x:=p) (e:=p) (by rw[h];trivial) (.inl rfl) (λb u hb q=>(Zb _ _<|Vb hb).trans q) #[_,e] ?_
 exact#[hz,its',n',r,e]
def RT:V->V->V->Hp->(Hp->Prop)->Prop:=λo i v H Q=>∃p xs k j,o=.ref p/\i=.int k/\H p=ap (.lst xs)/\ve xs.length k=ap j/\Q (upd H p<|.lst<|xs.set j v)
theorem Fo:Ma X RT:=by
 rintro ab2 s U H o i v K M u Q I y G z ⟨p,xs,k,j,rfl,rfl,x,F,q⟩
 cases y;obtain⟨t,rfl⟩:=G;obtain⟨ab8,n,r,g,C⟩:=I.lst x;obtain⟨c,L,l,B⟩:=rZ F;have h:=r.length;have J:=ia;have I':Inv X _ U _ _:=
  I.lstUpd x g (yR _ n j u) (r.set z j) (by rw[VR];exact C) s.toks
 by_cases m:0<=k
 .have f:k.toNat=j:=by
   rw[seqIndex_of m B]at c;exact VG c
  exact W.ki_setAt g m (by lia) (by simp_all) (by rw[f];exact#[_,I',q])
 have f:(k+ab8.toArray.size).toNat=j:=by
  rw[abO (by lia) l]at c
  rw[US,<- h];exact VG c
 exact W.ki_setBack g (by lia) (by rw[US,<- h];exact l) (by lia) (by rw[f];exact#[_,I',q])
theorem sX(c f:Option Int)(n:Nat):(S' c f ay n).1=((HT.sIx n 0 c:Nat):Int)/\(S' c f ay n).2.1=((HT.sIx n n f:Nat):Int)/\(S' c f ay n).2.2=1:=by
 refine#[?_,?_,rfl]
 .cases c with
  |none=>rfl
  |some i=>
   simp[S',HT.sIx,if_true];lia
 cases f with
 |none=>simp[S',HT.sIx]
 |some i=>
  simp only[S',HT.sIx,Option.getD_none,if_true]
  by_cases h:i<0
  .simp only[h,if_true]<;>lia
  simp only[h,if_false]<;>lia
theorem qo(ab8:aca)(c f:Option Int):slicePick ab8.toArray c f ay=((ab8.drop<|HT.sIx ab8.length 0 c).take (HT.sIx ab8.length ab8.length f-HT.sIx ab8.length 0 c)).toArray:=by
 obtain⟨i,h,g⟩:=sX c f _;unfold slicePick;rw[i,h,g];simp only[sliceRange_one,pick_run]<;>rfl
def rSlL(K:UE):V->Option Int->Option Int->Hp->VK->Prop:=λx f c H Q=>∃a xs,x=.ref a/\SqL K H a xs/\∀p,H p=ay->Q (.ref p) (upd H p<|.lst<|qu xs f c)
theorem AV:Ug X (rSlL X.K):=by
 rintro ab2 s U H x v B z i l C Q I g p pl h ⟨a,xs,rfl,m,q⟩
 cases g;obtain⟨ab8,r,f,j⟩:=I.list m;have c:=r.length;refine#[_,_,slot_list_getitem.lookup,f.isList.typeIs,?_];refine wpAny_getItem_list_slice f.isList p pl h .none (by simp) ?_ (by simp_all)
 rw[qo,<- c];refine#[.ref _,_,I.laid (λb y q=>UB _ q) (UQ _) ?_,rfl,q _<|I.hok.fresh<|UQ _];exact#[UL (lJ xs i l) j,_,0,(r.drop _).take _,UI _ rfl]
noncomputable def FH:V->Bool
 |.non=>true
 |.bl _=>true
 |.int _=>true
 |.str _=>true
 |_=>eC
noncomputable def xG:V->V->Bool
 |.non,.non=>true
 |.bl a,.bl b=>a==b
 |.bl a,.int b=>(if a then 1 else 0)==b
 |.int a,.bl b=>a==(if b then 1 else 0)
 |.int a,.int b=>a==b
 |.str a,.str b=>a==b
 |_,_=>eC
theorem FF(f:RelV y u)(c:RelV x v)(g:FH y=true)(h:FH x=true):XD A s u v (xG y x):=by
 cases y with
 |non=>
  cases f;cases x with
  |non=>cases c;exact SeqAt.EqAt.same _
  |bl b=>cases c;exact SeqAt.EqAt.none_bool b
  |int b=>obtain⟨t,rfl⟩:=c;exact YO b t
  |str b=>obtain⟨t,rfl⟩:=c;exact YN b t
  |_=>trivial
 |bl a=>
  cases f;cases x with
  |non=>cases c;exact SeqAt.EqAt.bool_none a
  |bl b=>cases c;exact Xx a b
  |int b=>obtain⟨t,rfl⟩:=c;exact SeqAt.EqAt.bool_int a b t
  |str b=>obtain⟨t,rfl⟩:=c;exact SeqAt.EqAt.bool_str a b t
  |_=>trivial
 |int a=>
  obtain⟨t',rfl⟩:=f;cases x with
  |non=>cases c;exact YQ a t'
  |bl b=>cases c;exact SeqAt.EqAt.int_bool a t' b
  |int b=>obtain⟨t,rfl⟩:=c;exact SeqAt.EqAt.int_int a t' b t
  |str b=>obtain⟨t,rfl⟩:=c;exact YV a t' b t
  |_=>trivial
 |str a=>
  obtain⟨t',rfl⟩:=f;cases x with
  |non=>cases c;exact YM a t'
  |bl b=>cases c;exact SeqAt.EqAt.str_bool a t' b
  |int b=>obtain⟨t,rfl⟩:=c;exact YU a t' b t
  |str b=>obtain⟨t,rfl⟩:=c;exact SeqAt.EqAt.str_str a t' b t
  |_=>trivial
 |_=>trivial
theorem uI:bH X (.builtin "len") (λxs H Q=>∃p ys,xs=[.ref p]/\(SqL X.K H p ys\/lW X.K H p ys)/\Q (.int ys.length) H):=by
 rintro ab2 s U H xs us Q I r ⟨p,ys,rfl,hq,q⟩
 obtain⟨u,rfl,g⟩:=gD r;cases g;have i:=ia;rcases hq with hq|hq
 .obtain⟨ab8,f,pl,h⟩:=I.list hq
  have c:=f.length;exact Calls.call_len_list pl.isList (by simp<;>lia) #[.int _,H,I.tok _,#[_,by rw[US,c]],q]
 obtain⟨ab8,f,pl,h⟩:=I.tuple hq;have c:=f.length;exact len_tuple pl (by simp only[US]<;>lia) #[.int _,H,I.tok _,#[_,by rw[US,c]],q]
theorem tM:bH X (.builtin "len") (λxs H Q=>∃z,xs=[.str z]/\z.length<=sizeLine/\Q (.int z.length) H):=by
 rintro ab2 s U H xs us Q I r ⟨z,rfl,f,q⟩
 obtain⟨u,rfl,t,rfl⟩:=gD r;have c:=ia;exact len_str (by lia) #[.int _,H,I.tok _,#[_,rfl],q]
theorem sx:bH X (.type "list") (λxs H Q=>∃p ys,xs=[.ref p]/\(SqL X.K H p ys\/lW X.K H p ys)/\∀l,H l=ay->Q (.ref l) (upd H l<|.lst ys)):=by
 rintro ab2 s U H xs us Q I r ⟨p,ys,rfl,hq,q⟩
 obtain⟨u,rfl,x⟩:=gD r;cases x
 have fin:∀(ab8:List _),Vals ys _->ys.length<=sizeLine->∀(c:h9)(g:Nat),(∀b o',s.heap.get? b=ap o'->c.get? b=ap o')->
   c.get? _=ap _->EP X _ U Q _ _:=λab8 f i c g kp e=>
  #[.ref _,_,I.laid (t':=s.toks) kp (UQ _) (show ObjOk _ _ _ c _ (.lst ys) from #[i,ab8,g,f,e]),rfl,q _<|I.hok.fresh<|UQ _]
 rcases hq with hq|hq
 .obtain⟨ab8,f,pl,i⟩:=I.list hq
  have h:=f.length;obtain⟨o,v,m,n,j⟩:=pl.isList;exact call_list_seq p (.inl rfl) v m j (λc g kp e=>fin _ f i c g kp e) (by simp_all)
 obtain⟨ab8,f,pl,i⟩:=I.tuple hq;have h:=f.length;obtain⟨o,v,m,n,j⟩:=pl;exact call_list_seq p (.inr rfl) v m j (λc g kp e=>fin _ f i c g kp e) (by simp only[US]<;>lia)
theorem iY:bH X (.type "tuple") (λxs H Q=>∃p ys,xs=[.ref p]/\((SqL X.K H p ys/\∀l,H l=ay->Q (.ref l) (upd H l<|.tup ys))\/(lW X.K H p ys/\Q (.ref p) H))):=by
 rintro ab2 s U H xs us Q I r ⟨p,ys,rfl,h⟩
 obtain⟨u,rfl,j⟩:=gD r;cases j;rcases h with⟨f,q⟩|⟨f,q⟩
 .obtain⟨ab8,c,pl,i⟩:=I.list f
  have g:=c.length;refine call_tuple_list pl.isList (λm kp=>?_) (by simp_all)
  have I1:Inv X _ U H _:=I.kept (t':=s.toks) kp;have I2:Inv X _ U (upd H _<|.tup ys) { s with heap:=m.push { cls:=.type _,data:=.seq _ } }:=
   I1.laid (λb o e=>UB _ e) (UQ _) (#[i,_,c,#[_,UI _ rfl,#[rfl,_,rfl],rfl]])
  exact#[.ref _,_,I2,rfl,q _<|I1.hok.fresh<|UQ _]
 obtain⟨ab8,c,pl,i⟩:=I.tuple f;exact call_tuple_same pl #[.ref p,H,I,rfl,q]
def tyV(K:UE)(T:String)(x:V)(H:Hp):Prop:=match x with
 |.str _=>T="str"
 |.int _=>T="int"
 |.ref p=>(T="list"/\∃xs,SqL K H p xs)\/(T="tuple"/\∃o,K.lookup p=ap o/\o.cls=.type "tuple"/\o.dict=ay)\/
   (T="dict"/\((∃ab4,H p=ap (.dK ab4))\/∃ab4,H p=ap (.dT ab4)))\/(T="set"/\∃S n,H p=ap (.set S n))
 |_=>False
theorem Ii(I:Inv X ab2 U H s)(r:RelV x v)(ty:tyV X.K T x H):
  s.TypeIs v T/\∀a,v=.ref a->∃m,s.heap.get? a=ap m/\m.dict=none:=by
 cases x with
 |str z=>
  obtain⟨t,rfl⟩:=r;cases ty;exact#[typeIs_str s z t,λ_ e=>nomatch e]
 |int i=>
  obtain⟨t,rfl⟩:=r;cases ty;exact#[typeIs_int s i t,λ_ e=>nomatch e]
 |ref p=>
  cases r;rcases ty with⟨rfl,xs,q⟩|⟨rfl,o,f,hc,h⟩|⟨rfl,f⟩|⟨rfl,S,n,f⟩
  .obtain⟨ab8,_,pl,_⟩:=I.list q
   refine#[pl.isList.typeIs,λa e=>?_];cases e;obtain⟨o,n,e,c,h,_⟩:=pl;exact#[o,e,h]
  .refine#[#[o,I.kIn p o f,hc],λa e=>?_]
   cases e;exact#[o,I.kIn _ o f,h]
  .have z:∃o,s.heap.get? p=ap o/\o.ExactDict:=by
    rcases f with⟨j,f⟩|⟨j,f⟩
    .obtain⟨_,_,_,_,o,_,_,e,g,_⟩:=I.hok p _ f
     exact#[o,e,g]
    obtain⟨_,_,_,_,o,_,_,e,g,_⟩:=I.hok p _ f;exact#[o,e,g]
   obtain⟨o,e,g⟩:=z;refine#[#[o,e,g.1],λa l=>?_];cases l;exact#[o,e,g.2.1]
  obtain⟨o,_,_,_,e,g,_⟩:=I.hok p _ f;refine#[#[o,e,g.1],λa l=>?_];cases l;exact#[o,e,g.2.1]
 |_=>exact Vv ty
def tBM0(K:UE)(T:String)(r:V->List V->Hp->VK->Prop)(to:TE):TE:=λU H Q=>to U H λx H1=>tyV K T x H1/\r x [] H1 Q
def tBM(K:UE)(T:String)(r:V->List V->Hp->VK->Prop)(to:TE)(t:TA):TE:=λU H Q=>to U H λx H1=>tyV K T x H1/\t U H1 λxs H2=>r x xs H2 Q
variable{id:String}{r:V->List V->Hp->VK->Prop}
theorem O2(y:XV T)(f:Slot T name id)(g:U_ (.builtin id)=pure (.type "method_descriptor"))(hm:wO X id r)(z:PE X o to)(c:kB o name X.env (g3 o X.env)=g3 o X.env:=by rfl)(hline:(ab7.endLine==ab6.line)=true:=by rfl):PE X (.Call (.Attribute o name ab7) [] [] ab6) (tBM0 X.K T r to):=by
 intro ab2 s U H Q I h;refine wpAny_Call_method0_late c hline (bE (z _ s U H _ I h) λv p m=>?_);obtain⟨x,H1,I1,i,ty,l⟩:=m;obtain⟨q,j⟩:=Ii I1 i ty;exact#[T,id,y,f,g,q,j,We rfl<|PySem.evalArgs_none<|hm _ p U H1 x [] v [] Q I1 i .nil l]
theorem Ue(G:XV T)(f:Slot T name id)(g:U_ (.builtin id)=pure (.type "method_descriptor"))(F:wO X id r)(L:PE X o to)(J:PA X (e::es) t)(c:kB o name X.env (g3 o X.env)=g3 o X.env:=by rfl)(hfew:((j0 ab6<|starEach (e::es) X.env).all (λx=>!x.1)&&(rc ab6<|keywordEach [] X.env).all (λx=>x.1.isSome)
   && decide ((e::es).length+([]:List q0).length+(if ([]:List q0).isEmpty then 0 else 1)<30))=true:=by rfl)(hline:(ab7.endLine==ab6.line)=true:=by rfl)(hs:eH (e::es) X.env=(eC,g3 e X.env)::eH es X.env:=by rfl)(hplain:(j0 ab6<|starEach es X.env).any (·.1)=false:=by rfl):
  PE X (.Call (.Attribute o name ab7) (e::es) [] ab6) (tBM X.K T r to t):=by
 intro ab2 s U H Q I h;refine abM c hfew hline rfl (bE (L _ s U H _ I h) λv q p=>?_);obtain⟨x,H1,I1,i,ty,C⟩:=p;obtain⟨l,B⟩:=Ii I1 i ty;refine#[T,id,G,f,g,l,B,?_];have j:=J ab6 _ q U H1 _ I1 C;rw[hs]at j ⊢;exact We (by show (eC||(j0 _ _).any _)=eC;rw[hplain]<;>rfl) (Wn<|bE j<|by rintro us s2 ⟨z,H2,I2,m,y⟩;exact F _ s2 U H2 x z v us Q I2 i m y)
end
def MtM(X:Cx)(id:String)(r:V->List V->Hp->VK->Prop):Prop:=
 ∀(ab2:acg)(s:ez)(U:St)(H:Hp)(x:V)(xs:List V)(v:ax)(us:aca)(Q:VK),Inv X ab2 U H s->RelV x v->Vals xs us->r x xs H Q->
  eS (fv X.prog X.w) X.A (call (.builtin id) (v::us)) (EP X ab2 U Q) X.xe s
theorem Vals.one:∀{x:V}{us:aca},Vals [x] us->∃u,us=[u]/\RelV x u
 |_,_,h=>by cases h with|cons r q=>cases q;exact#[_,rfl,r]
theorem Vals.two:∀{x y:V}{us:aca},Vals [x,y] us->∃u v,us=[u,v]/\RelV x u/\RelV y v
 |_,_,_,h=>by cases h with|cons r q=>cases q with|cons q z=>cases z;exact#[_,_,rfl,r,q]
theorem Vals.zero:∀{us:aca},Vals [] us->us=[]
 |_,.nil=>rfl
theorem Vals.dropLast{xs:List V}(h:Vals xs us):Vals xs.dropLast us.dropLast:=by
 induction h with
 |nil=>exact .nil
 |cons r t ih=>
  cases t with
  |nil=>exact .nil
  |cons q t'=>exact .cons r ih
theorem Vals.eraseIdx:∀{xs:List V}{us:aca}(i:Nat),Vals xs us->Vals (xs.eraseIdx i) (us.eraseIdx i)
 |_,_,_,.nil=>.nil
 |_,_,0,.cons _ t=>t
 |_,_,i+1,.cons r t=>.cons r (Vals.eraseIdx i t)
theorem Vals.rep{xs:List V}(h:Vals xs us):∀k:Nat,Vals (UX k xs).flatten (UX k us).flatten
 |0=>.nil
 |k+1=>by
  exact Vals.append h (Vals.rep h k)
theorem R0(l:List α):l.eraseIdx (l.length-1)=l.dropLast:=by
 simp_all
theorem r8{α:Type}:∀(l:List α)(i:Nat),(l.eraseIdx i).length<=l.length
 |[],_=>UQ _
 |_::_,0=>Yv _
 |_::r,i+1=>Nat.succ_le_succ (r8 r i)
section
variable{xs:List V}
theorem Inv.lset(I:Inv X ab2 U H s)(hH:H l=ap (.lst xs))(e:s.heap.get? l=ap { cls:=.type "list",data:=.seq ab8.toArray n })(hf:f ab8.toArray=its'.toArray)(hv:Vals ys its')(hz:ys.length<=sizeLine):
  Inv X ab2 U (upd H l<|.lst ys) { s with heap:=s.heap.update l (Yc f),toks:=t' }:=by
 have q:=PySem.IsL.update e f;rw[hf]at q;refine I.write (by rw[hH];exact trivial) (.inl rfl) (λb' u hb hu=>(Zb _ _<|Vb hb).trans hu) #[_,q] ?_
 exact#[hz,_,_,hv,q]
theorem Inv.lnew(I:Inv X ab2 U H s)(c:Vals ys ab8)(f:ys.length<=sizeLine):
  Inv X ab2 U (upd H s.heap.objs.size<|.lst ys) { s with heap:=s.heap.push { cls:=.type "list",data:=.seq ab8.toArray },toks:=t' }:=
 I.laid (λ_ _ q=>UB _ q) (UQ _) #[f,_,0,c,UI _ rfl]
theorem Inv.fresh(I:Inv X ab2 U H s):H s.heap.objs.size=none:=I.hok.fresh (UQ _)
theorem Inv.lstM(I:Inv X ab2 U H s)(c:H l=ap (.lst xs)):xs.length<=sizeLine/\∃(ab8:aca)(n:Nat),Vals xs ab8/\xs.length=ab8.length/\s.heap.get? l=ap { cls:=.type "list",data:=.seq ab8.toArray n }:=by
 obtain⟨z,ab8,n,r,e⟩:=I.hok l _ c;exact#[z,_,n,r,r.length,e]
end
def LU:V->List V->Hp->VK->Prop:=λx c H Q=>∃l xs y,x=.ref l/\c=[y]/\H l=ap (.lst xs)/\xs.length<sizeLine/\Q .non (upd H l<|.lst (xs++[y]))
theorem Ea:MtM X "list.append" LU:=by
 rintro ab2 s U H x j v us Q I g h ⟨l,xs,y,rfl,rfl,c,m,q⟩
 cases g;obtain⟨u,rfl,f⟩:=h.one;obtain⟨z,ab8,n,r,i,e⟩:=I.lstM c;refine ot X0 #[_,e,rfl] F.entry_list_append (F.args_list_append_2 _ _) (Zy l _ n u<|by simp_all) #[e,?_]
 refine#[.non,_,I.lset c e (by simp) (r.append<|.cons f .nil) ?_,rfl,q]
 rw[UU,Wi];lia
def rPop:V->List V->Hp->VK->Prop:=λx c H Q=>∃l xs y,x=.ref l/\c=[]/\H l=ap (.lst xs)/\xs[xs.length-1]?=ap y/\Q y (upd H l<|.lst xs.dropLast)
theorem P8:MtM X "list.pop" rPop:=by
 rintro ab2 s U H x B v us Q I i j ⟨l,xs,y,rfl,rfl,g,m,q⟩
 cases i;have f:=j.zero;subst f;obtain⟨z,ab8,n,r,p,e⟩:=I.lstM g;obtain⟨u,C,h⟩:=r.get m;have c:ab8.toArray[ab8.toArray.size-1]?=ap u:=by
  simp_all
 refine ot Xd #[_,e,rfl] F.entry_list_pop (F.args_list_pop_1 _) (MeetsSeq.list_pop_last l _ n u c<|by rw[US];lia) #[e,?_]
 refine#[y,_,I.lset g e ?_ r.dropLast ?_,h,q]
 .simp_all
 rw[List.length_dropLast];lia
def Om:V->List V->Hp->VK->Prop:=λx c H Q=>∃l xs i k y,x=.ref l/\c=[.int i]/\H l=ap (.lst xs)/\-(2 ^ 63)<=i/\i<2 ^ 63/\abD i xs.length=ap k/\xs[k]?=ap y/\Q y (upd H l<|.lst<|xs.eraseIdx k)
theorem GK:MtM X "list.pop" Om:=by
 rintro ab2 s U H x J v us Q I h m ⟨l,xs,i,k,y,rfl,rfl,f,C,p,K,B,q⟩
 cases h;obtain⟨u,rfl,g⟩:=m.one;obtain⟨t,rfl⟩:=g;obtain⟨z,ab8,n,r,G,e⟩:=I.lstM f;obtain⟨w,j,c⟩:=r.get B
 refine ot Xd #[_,e,rfl] F.entry_list_pop (F.args_list_pop_2 _ _)
  (MeetsSeq.list_pop_at l _ n i t k w (fitsIndex_both C p) (by simp_all) (by rw[<- Array.getElem?_toList];exact j)<|by rw[US];lia) #[e,?_]
 refine#[y,_,I.lset f e ?_ (r.eraseIdx k) ?_,c,q]
 .simp_all
 have:=r8 xs k;lia
def PM:V->List V->Hp->VK->Prop:=λx c H Q=>∃l xs,x=.ref l/\c=[]/\H l=ap (.lst xs)/\Q .non (upd H l<|.lst [])
theorem Gz:MtM X "list.clear" PM:=by
 rintro ab2 s U H x j v us Q I g h ⟨l,xs,rfl,rfl,f,q⟩
 cases g;have c:=h.zero;subst c;obtain⟨z,ab8,n,r,i,e⟩:=I.lstM f;exact ot Zo #[_,e,rfl] F.entry_list_clear (F.args_list_clear_1 _) (AutoSeq1.list_clear_list_0 l _ n<|by rw[US];lia) #[e,#[.non,_,I.lset f e rfl .nil (WM _),rfl,q]]
theorem Le(xs:List α)(k:Nat):(UX k xs).flatten.length=k*xs.length:=by
 induction k<;>simp_all
section
variable{κ:Type}[DecidableEq κ]
noncomputable def eF(ab4:List (κ×V))(k:κ):Option V:=(ab4.find? λc=>decide (c.1=k)).map (·.2)
noncomputable def fT(ab4:List (κ×V))(k:κ)(v:V):List (κ×V):=
 if (ab4.any λc=>decide (c.1=k))=true then ab4.map (λc=>if c.1=k then (c.1,v) else c) else ab4++[(k,v)]
noncomputable def j5(ab4:List (κ×V))(k:κ):List (κ×V):=ab4.filter λc=>decide (c.1≠k)
theorem oS{p:κ×V}{r:List (κ×V)}{k:κ}(e:p.1=k):eF (p::r) k=ap p.2:=by simp[eF,e]
theorem pO{p:κ×V}{r:List (κ×V)}{k:κ}(e:¬p.1=k):eF (p::r) k=eF r k:=by simp[eF,e]
theorem wx(k:κ):∀ab4:List (κ×V),(ab4.any λkv=>decide (kv.1=k))=(eF ab4 k).isSome
 |[]=>rfl
 |p::r=>by
  rw[X6]
  by_cases e:p.1=k
  .simp[oS e,decide_eq_true e,XH]
  rw[pO e,decide_eq_false e];exact wx k r
theorem l_(ab4:List (κ×V))(k:κ)(v:V):(fT ab4 k v).length<=ab4.length+1:=by
 unfold fT
 split
 .rw[UA];lia
 simp_all
theorem RelO.isSome_eq{u:Option ax}(r:RelO o u):o.isSome=u.isSome:=by
 cases o with
 |none=>cases u<;>trivial
 |some _=>cases u<;>trivial
theorem KV.val{ab4:List (κ×V)}{vs:List (κ×ax)}(r:KV ab4 vs)(k:κ):RelO (eF ab4 k) (W_ vs k):=by
 unfold KV at r
 induction r with
 |nil=>exact Wo
 |@cons p q ps qs h t ih=>
  obtain⟨f,g⟩:=h
  by_cases e:p.1=k
  .have c:q.1=k:=f.symm.trans e
   have b:W_ (q::qs) k=ap q.2:=by simp[W_,WG,c]
   rw[oS e,b];exact g
  .have c:¬q.1=k:=λz=>e (f.trans z)
   have b:W_ (q::qs) k=W_ qs k:=by simp[W_,WG,c]
   rw[pO e,b];exact ih
theorem KV.any{ab4:List (κ×V)}{vs:List (κ×ax)}(r:KV ab4 vs)(k:κ):(ab4.any λkv=>decide (kv.1=k))=vs.any λkv=>decide (kv.1=k):=by
 induction r<;>simp_all
theorem KV.repl{ab4:List (κ×V)}{vs:List (κ×ax)}(r:KV ab4 vs)(k:κ){y:V}(g:RelV y u):
  KV (ab4.map λkv=>if kv.1=k then (kv.1,y) else kv) (vs.map λkv=>if kv.1=k then (kv.1,u) else kv):=by
 induction r with
 |nil=>exact .nil
 |@cons p q ps qs h t ih=>
  rw[UG,UG];refine .cons ?_ ih;obtain⟨c,f⟩:=h
  by_cases e:p.1=k
  .rw[if_pos e,if_pos (c.symm.trans e)];trivial
  rw[if_neg e,if_neg (λz=>e (c.trans z))];exact#[c,f]
theorem KV.put{ab4:List (κ×V)}{vs:List (κ×ax)}(r:KV ab4 vs)(k:κ){y:V}(c:RelV y u):KV (fT ab4 k y) (abb vs k u):=by
 unfold fT abb;rw[r.any k]
 by_cases e:(vs.any λf=>decide (f.1=k))=true
 .rw[if_pos e,if_pos e];exact r.repl k c
 rw[if_neg e,if_neg e];exact Paired.snoc r #[rfl,c]
theorem KV.drop{ab4:List (κ×V)}{vs:List (κ×ax)}(r:KV ab4 vs)(k:κ):KV (j5 ab4 k) (without vs k):=by
 unfold j5 without
 induction r with
 |nil=>exact .nil
 |@cons p q ps qs h t ih=>
  obtain⟨c,g⟩:=h;rw[UZ,UZ]
  by_cases e:p.1=k
  .have a:¬decide (p.1≠k)=true:=by simp[e]
   have b:¬decide (q.1≠k)=true:=by simp_all
   rw[if_neg a,if_neg b];exact ih
  have f:¬q.1=k:=λz=>e (c.trans z);have a:decide (p.1≠k)=true:=by simp[e]
  have b:decide (q.1≠k)=true:=by simp[f]
  rw[if_pos a,if_pos b];exact .cons #[c,g] ih
theorem KV.length{ab4:List (κ×V)}{vs:List (κ×ax)}(r:KV ab4 vs):ab4.length=vs.length:=WA r
theorem Gy(ab4:List (κ×V))(k:κ):(j5 ab4 k).length<=ab4.length:=Vn _ _
end
theorem jK(r:RelV (kV k) u):(aV P w).is k u=true:=by
 cases k with
 |inl i=>obtain⟨t,e⟩:=r;subst e;exact (λg w i t=>Et i t) P w i t
 |inr x=>obtain⟨t,e⟩:=r;subst e;exact (λg w x t=>DM x t) P w x t
theorem rB:∀{ks:List aI}{us:aca},Vals (ks.map kV) us->ItemsAre (aV P w) ks us
 |[],_,r=>by cases r;exact .nil
 |k::ks,_,r=>by
  cases r with
  |cons h t=>exact .cons (jK h) (rB t)
abbrev KT(H:Hp):List (List aI×V)->List (List aI×eg×ax)->Prop:=X_ λp q=>p.1=q.1/\H q.2.1=ap (.tup<|p.1.map kV)/\RelV p.2 q.2.2
theorem KT.val(r:KT H ab4 xs)(k:List aI):RelO (eF ab4 k) ((atKey xs k).map (·.2)):=by
 induction r with
 |nil=>trivial
 |@cons p q ps qs h t ih=>
  obtain⟨f,_,g⟩:=h
  by_cases e:p.1=k
  .have c:=f.symm.trans e
   have b:atKey (q::qs) k=ap q.2:=by simp[atKey,c]
   rw[oS e,b];exact g
  have c:¬q.1=k:=λz=>e (f.trans z);have b:atKey (q::qs) k=atKey qs k:=by simp[atKey,c]
  rw[pO e,b];exact ih
theorem KT.repl(r:KT H ab4 xs)(k:List aI)(i:RelV y u):
  KT H (ab4.map λkv=>if kv.1=k then (kv.1,y) else kv) (xs.map<|putAt k u):=by
 induction r with
 |nil=>exact .nil
 |@cons p q ps qs h t ih=>
  rw[UG];refine .cons ?_ ih;obtain⟨c,f,g⟩:=h;unfold putAt
  by_cases e:p.1=k
  .rw[if_pos e,if_pos (c.symm.trans e)];trivial
  rw[if_neg e,if_neg (λz=>e (c.trans z))];exact#[c,f,g]
theorem KT.put(r:KT H ab4 xs)(k:List aI)(g:H b=ap (.tup<|k.map kV))(c:RelV y u):
  KT H (fT ab4 k y) (storedH xs k b u):=by
 have e:(ab4.any λf=>decide (f.1=k))=(atKey xs k).isSome:=by
  rw[wx,(r.val k).isSome_eq,Ya]
 unfold fT storedH;rw[e]
 by_cases q:(atKey xs k).isSome=true
 .rw[if_pos q,if_pos q];exact r.repl k c
 rw[if_neg q,if_neg q];exact Paired.snoc r #[rfl,g,c]
theorem KT.keeps(r:KT H ab4 xs)(c:∀b ys,H b=ap (.tup ys)->H' b=ap (.tup ys)):KT H' ab4 xs:=
 ir r λ_ _ z=>#[z.1,c _ _ z.2.1,z.2.2]
theorem Nw{u:HO}(ok:HOk P w H h)(e:Rd H a u):ObjOk P w H h a u:=e.ok ok
theorem kh(ok:HOk P w H h)(e:Rd H a (.dK ab4)):ab4.length<=sizeLine/\(a==rN)=eC/\∃vs,KV ab4 vs/\h.DictOf (aV P w) a vs:=
 Nw ok e
theorem Fc(ok:HOk P w H h)(e:H a=ap (.dK ab4)):ab4.length<=sizeLine/\(a==rN)=eC/\∃vs,KV ab4 vs/\h.DictOf (aV P w) a vs:=kh ok (.inl e)
theorem qd(ok:HOk P w H h)(e:H a=ap (.tup<|ks.map kV)):(abC<|aV P w).is h ks a:=by
 obtain⟨_,ab8,r,o,g,⟨c,n,f⟩,_⟩:=(show ObjOk P w H h a (.tup<|ks.map kV) from ok a _ e);exact#[o,ab8.toArray,n,g,c,f,by simpa using rB r]
theorem rE(ok:HOk P w H h)(e:Rd H a (.dT ab4)):ab4.length<=sizeLine/\(a==rN)=eC/\
  ∃xs,KT H ab4 xs/\h.DictOfH (abC<|aV P w) a xs:=by
 obtain⟨z,y,xs,r,o,g,i,B,j,f,v,c⟩:=(Nw ok e);refine#[z,y,xs,r,o,g,i,B,j,f,v,λx hx=>?_,c];have all:∀{l:List _}{m:List _},KT H l m->∀x∈m,(abC<|aV P w).is h x.1 x.2.1:=by
  intro l m q
  induction q with
  |nil=>intro x hx;exact nomatch hx
  |@cons p q ps qs hq t ih=>
   intro x hx;rcases UK.mp hx with e|hx
   .exact qd ok (by simp_all)
   exact ih x hx
 exact all r x hx
def DGet(H:Hp)(a:eg)(y:V)(r:Option V):Prop:=
 (∃ab4 k,Rd H a (.dK ab4)/\y=kV k/\r=eF ab4 k)\/∃ab4 k b,Rd H a (.dT ab4)/\y=.ref b/\H b=ap (.tup<|k.map kV)/\r=eF ab4 k
def DPut(H:Hp)(a:eg)(y v:V)(H':Hp):Prop:=
 (∃ab4 k,H a=ap (.dK ab4)/\y=kV k/\ab4.length<sizeLine/\H'=upd H a (.dK<|fT ab4 k v))\/
 ∃ab4 k b,H a=ap (.dT ab4)/\y=.ref b/\H b=ap (.tup<|k.map kV)/\ab4.length<sizeLine/\H'=upd H a (.dT<|fT ab4 k v)
theorem DGet.k{k:aI}(e:H a=ap (.dK ab4)):DGet H a (kV k) (eF ab4 k):=.inl #[_,k,.inl e,rfl,rfl]
theorem DGet.t{k:List aI}(e:H a=ap (.dT ab4))(c:H b=ap (.tup<|k.map kV)):DGet H a (.ref b) (eF ab4 k):=.inr #[_,k,b,.inl e,rfl,c,rfl]
theorem DPut.k{k:aI}(e:H a=ap (.dK ab4))(c:ab4.length<sizeLine):DPut H a (kV k) v (upd H a<|.dK<|fT ab4 k v):=.inl #[_,k,e,rfl,c,rfl]
theorem DPut.t{k:List aI}(e:H a=ap (.dT ab4))(f:H b=ap (.tup<|k.map kV))(c:ab4.length<sizeLine):
  DPut H a (.ref b) v (upd H a<|.dT<|fT ab4 k v):=.inr #[_,k,b,e,rfl,f,c,rfl]
theorem Inv.big(I:Inv X ab2 U H s):rN<s.heap.objs.size:=by
 exact Zk (by decide) ((I.mod.glob.keeps I.bk).lt)
theorem rF(K:A.units+1<n7)(I:Inv X ab2 U H s)(g:DGet H a y (ap v))(C:RelV y u)(h:∀i s',Inv X ab2 U H s'->RelV v i->Q i s'):
  eS (fv X.prog X.w) A (W' (.ref a) u) Q E s:=by
 rcases g with⟨B,k,e,q,l⟩|⟨B,k,b,e,q,eb,l⟩
 .subst q
  obtain⟨z,J,F,c,x⟩:=kh I.hok e;obtain⟨i,j,f⟩:=dM (v:=v) (o:=W_ F k) (by rw[l];exact c.val k)
  exact wpAny_getItem_of (jK C) x.mapOf j (h i _ (I.tok _) f)
 .subst q
  cases (show u=UY b from C);obtain⟨z,J,xs,c,x⟩:=rE I.hok e;obtain⟨i,j,f⟩:=dM (v:=v) (o:=(atKey xs k).map (·.2)) (by rw[l];exact c.val k)
  obtain⟨p,G,m⟩:=VO.mp j;refine wpAny_getItem_heap (K' K) (qd I.hok eb) x G ?_;rw[m];exact h i _ (I.tok _) f
theorem Ti(x:A.units+1<n7)(I:Inv X ab2 U H s)(g:DGet H a y o)(p:RelV y u)(h:∀s',Inv X ab2 U H s'->Q (.bool o.isSome) s'):
  eS (fv X.prog X.w) A (kl .In u<|.ref a) Q E s:=by
 rcases g with⟨m,k,e,i,l⟩|⟨m,k,b,e,i,eb,l⟩
 .subst i
  obtain⟨z,f,B,c,j⟩:=kh I.hok e;refine wpAny_in_of (jK p) f j.mapOf ?_;rw[<- (c.val k).isSome_eq,<- l];exact h _ (I.tok _)
 .subst i
  cases (show u=UY b from p);obtain⟨z,f,xs,c,j⟩:=rE I.hok e;refine wpAny_in_heap (K' x) (qd I.hok eb) f j ?_;have q:=(c.val k).isSome_eq;rw[Ya]at q;rw[<- q,<- l];exact h _ (I.tok _)
theorem BU(x:A.units+1<n7)(I:Inv X ab2 U H s)(g:DGet H a y o)(p:RelV y u)(h:∀s',Inv X ab2 U H s'->Q (.bool<|!o.isSome) s'):
  eS (fv X.prog X.w) A (kl .NotIn u<|.ref a) Q E s:=by
 rcases g with⟨m,k,e,i,l⟩|⟨m,k,b,e,i,eb,l⟩
 .subst i
  obtain⟨z,f,B,c,j⟩:=kh I.hok e;refine wpAny_notIn_of (jK p) f j.mapOf ?_;rw[<- (c.val k).isSome_eq,<- l];exact h _ (I.tok _)
 subst i;cases (p);obtain⟨z,f,xs,c,j⟩:=rE I.hok e;refine wpAny_notIn_heap (K' x) (qd I.hok eb) f j ?_;have q:=(c.val k).isSome_eq;rw[Ya]at q;rw[<- q,<- l];exact h _ (I.tok _)
theorem sk(I:Inv X ab2 U H s)(i:TC (H a))(h:VV a s.heap h')(g:∃q,h'.get? a=ap q)(new:ObjOk X.prog X.w (upd H a c) h' a c):
  Inv X ab2 U (upd H a c) { s with heap:=h',toks:=t' }:=
 I.write (x:=a) (e:=a) i (.inl rfl) (λb q f z=>(h.2 b f).trans z) g new
theorem uQ(z:ab4.length<=sizeLine)(f:(a==rN)=eC)(c:KV ab4 vs)(dd:h'.DictOf (aV P w) a vs):
  ObjOk P w H' h' a (.dK ab4):=#[z,f,vs,c,dd]
theorem qK(hu:A.units+1<n7)(I:Inv X ab2 U H s)(g:DPut H a y v H')(M:RelV y u)(N:RelV v r)(h:∀s',Inv X ab2 U H' s'->Q () s'):
  eS (fv X.prog X.w) A (abq (.ref a) u r) Q E s:=by
 rcases g with⟨f,k,e,F,l,B⟩|⟨f,k,b,e,F,eb,l,B⟩
 .subst F B
  obtain⟨z,x,Y,i,G⟩:=Fc I.hok e;have J:Y.length<=sizeLine:=by rw[<- i.length];exact z
  have p:(fT f k v).length<=sizeLine:=by have:=l_ f k v;lia
  refine wpAny_setItem_pairs (hsz:=J) (jK M) G λL j C=>h _ ?_;have he:∃q,L.get? a=ap q:=let ⟨q,_,_,m,_⟩:=j;#[q,m];exact sk I (by rw[e];exact Wo) C he (uQ p x (i.put k N) j)
 .subst F B
  cases (show u=UY b from M);obtain⟨z,x,xs,i,G⟩:=(λok e=>rE ok (.inl e)) I.hok e;have J:xs.length<=sizeLine:=by rw[<- WA i];exact z
  have p:(fT f k v).length<=sizeLine:=by have:=l_ f k v;lia
  refine wpAny_setItem_heap (hsz:=J) (K' hu) (qd I.hok eb) G λL j C=>h _ ?_;obtain⟨q,S,W,m,Z,R,h4,_,O⟩:=j;refine sk I (by rw[e];exact Wo) C #[q,m] #[p,x,_,(i.put k eb N).keeps λc ys K=>?_,q,S,W,m,Z,R,h4,O]
  rw[aM (S9 K e λz=>nomatch z)];exact K
theorem N6(I:Inv X ab2 U H s)(e:H a=ap (.dK ab4))(m:RelV (kV k) u)(l:eF ab4 k=ap v)(B:more=[]\/∃x,more=[x])(h:∀g s',Inv X ab2 U (upd H a<|.dK<|j5 ab4 k) s'->RelV v g->Q g s'):eS (fv X.prog X.w) A (call (.builtin "dict.pop") (.ref a::u::more)) Q E s:=by
 obtain⟨z,M,p,c,y⟩:=Fc I.hok e;obtain⟨g,J,j⟩:=dM (v:=v) (o:=W_ p k) (by rw[<- l];exact c.val k)
 have K:(keyPart u).isSome=true:=by
  cases k with
  |inl i=>obtain⟨t,q⟩:=(show ∃t,u=Yj i t from m);subst q;rfl
  |inr x=>obtain⟨t,q⟩:=(show ∃t,u=Yi x t from m);subst q;rfl
 have N:abc "dict.pop" #[.ref a::u::more,[]]:=by
  rcases B with q|⟨x,q⟩
  .subst q;exact PySem.F.args_dict_pop_2 _ _
  .subst q;exact YJ _ _ _
 refine call_meetsIn WR y.typeIs YR N (meets_dict_pop_there (aV X.prog X.w) a (jK m) more B K)
  #[p,g,y,by rw[<- c.length];exact z,J,λC f L=>h g _ ?_ j]
 have G:∃q,C.get? a=ap q:=let ⟨q,_,_,hq,_⟩:=f;#[q,hq];exact sk I (by rw[e];exact Wo) L G (uQ (UL (Gy ab4 k) z) M (c.drop k) f)
theorem OR(I:Inv X ab2 U H s)(e:H a=ap (.dK ab4))(f:RelV (kV k) u)(l:eF ab4 k=ay)(h:∀s',Inv X ab2 U H s'->Q r s'):
  eS (fv X.prog X.w) A (call (.builtin "dict.pop") [.ref a,u,r]) Q E s:=by
 obtain⟨z,p,g,c,j⟩:=Fc I.hok e;have v:W_ g k=none:=kH (by rw[<- l];exact c.val k)
 have m:(keyPart u).isSome=true:=by
  cases k with
  |inl i=>obtain⟨t,q⟩:=(show ∃t,u=Yj i t from f);subst q;rfl
  |inr x=>obtain⟨t,q⟩:=(show ∃t,u=Yi x t from f);subst q;rfl
 exact call_meetsIn WR j.typeIs YR (YJ _ _ _) (meets_dict_pop_default (aV X.prog X.w) a (jK f) p m r) #[g,j,v,h _<|I.tok _]
theorem Uf(I:Inv X ab2 U H s)(e:Rd H a (.dK ab4))(h:∀t s',Inv X ab2 U H s'->Q (.int ab4.length t) s'):eS (fv X.prog X.w) A (call (.builtin "len") [.ref a]) Q E s:=by
 obtain⟨z,f,i,c,g⟩:=kh I.hok e;refine call_len_dict f g (by rw[<- c.length];rw[sizeLine_eq]at z;lia) ?_
 rw[<- c.length];exact h _ _ (I.tok _)
structure M1(X:Cx)(o:f')(m:Str)(ab7:Pos)(e:f')(ab6:Pos):Prop where
 base:kB o m X.env (g3 o X.env)=g3 o X.env
 few:((j0 ab6<|starEach [e] X.env).all (λx=>!x.1)&&(rc ab6<|keywordEach [] X.env).all (λx=>x.1.isSome)
  && decide (([e]:acd).length+([]:List q0).length+(if ([]:List q0).isEmpty then 0 else 1)<30))=true
 line:(ab7.endLine==ab6.line)=true
 trees:j0 ab6 (eH [e] X.env)=[(eC,g3 e X.env)]
structure M2(X:Cx)(o:f')(m:Str)(ab7:Pos)(e f:f')(ab6:Pos):Prop where
 base:kB o m X.env (g3 o X.env)=g3 o X.env
 few:((j0 ab6<|starEach [e,f] X.env).all (λx=>!x.1)&&(rc ab6<|keywordEach [] X.env).all (λx=>x.1.isSome)
  && decide (([e,f]:acd).length+([]:List q0).length+(if ([]:List q0).isEmpty then 0 else 1)<30))=true
 line:(ab7.endLine==ab6.line)=true
 trees:j0 ab6 (eH [e,f] X.env)=[(eC,g3 e X.env),(eC,g3 f X.env)]
def IsD(H:Hp)(a:eg):Prop:=(∃ab4,Rd H a (.dK ab4))\/∃ab4,Rd H a (.dT ab4)
theorem Gd(I:Inv X ab2 U H s)(d:IsD H a):
  s.TypeIs (.ref a) "dict"/\(∀b,UY a=.ref b->∃c,s.heap.get? b=ap c/\c.dict=ay)/\(a==rN)=false:=by
 rcases d with⟨j,e⟩|⟨j,e⟩
 .obtain⟨_,i,l,_,f⟩:=kh I.hok e
  refine#[f.typeIs,λb q=>?_,i];cases q;obtain⟨c,_,_,g,h,_⟩:=f;exact#[c,g,h.2.1]
 obtain⟨_,i,xs,_,f⟩:=rE I.hok e;refine#[f.typeIs,λb q=>?_,i];cases q;obtain⟨c,_,_,g,h,_⟩:=f;exact#[c,g,h.2.1]
def Q8(td ty:TE):TE:=λU H Q=>td U H λx H1=>∃a,x=.ref a/\IsD H1 a/\ty U H1 λy H2=>∃ab4 k v,H2 a=ap (.dK ab4)/\y=kV k/\eF ab4 k=ap v/\Q v (upd H2 a<|.dK<|j5 ab4 k)
def Pp(td ty tx:TE):TE:=λU H Q=>td U H λx H1=>∃a,x=.ref a/\IsD H1 a/\ty U H1 λy H2=>tx U H2 λz H3=>∃ab4 k,H3 a=ap (.dK ab4)/\y=kV k/\
 (∀v,eF ab4 k=ap v->Q v (upd H3 a<|.dK<|j5 ab4 k))/\(eF ab4 k=ay->Q z H3)
theorem FQ(J:PE X o td)(G:PE X e ty)(m:M1 X o "pop" ab7 e ab6):PE X (.Call (.Attribute o "pop" ab7) [e] [] ab6) (Q8 td ty):=by
 intro ab2 s U H Q I h;refine wpAny_Call_method m.base m.few m.line YI WR YX (bE (J _ s U H _ I h) λu B z=>?_);obtain⟨x,H1,I1,i,a,g,d,F⟩:=z;subst g;obtain rfl:u=UY a:=i;obtain⟨t1,t2,_⟩:=Gd I1 d;refine#[t1,t2,?_];rw[m.trees];refine We rfl (Wn<|Wd (bE (G _ B U H1 _ I1 F) λL s2 ⟨y,H2,I2,j,_,k,v,q,C,l,p⟩=>WQ ?_));subst C;exact N6 I2 q j l (.inl rfl) λM K I3 c=>#[v,_,I3,c,p]
theorem G1(S:PE X o td)(O:PE X e ty)(R:PE X f tx)(m:M2 X o "pop" ab7 e f ab6):PE X (.Call (.Attribute o "pop" ab7) [e,f] [] ab6) (Pp td ty tx):=by
 intro ab2 s U H Q I h;refine wpAny_Call_method m.base m.few m.line YI WR YX (bE (S _ s U H _ I h) λu K J=>?_);obtain⟨x,H1,I1,q,a,j,d,N⟩:=J;subst j;obtain rfl:u=UY a:=q;obtain⟨t1,t2,_⟩:=Gd I1 d;refine#[t1,t2,?_];rw[m.trees];refine We rfl (Wn<|Wd (bE (O _ K U H1 _ I1 N) λY s2 ⟨y,H2,I2,g,B⟩=>
  Wd (bE (R _ s2 U H2 _ I2 B) λp W ⟨z,H3,I3,L,_,k,i,M,F,G⟩=>WQ ?_)))
 subst M;cases l:eF _ k with
 |some v=>exact N6 I3 i g l (.inr #[p,rfl]) λZ C I4 c=>#[v,_,I4,c,F v l]
 |none=>exact OR I3 i g l λC I4=>#[z,H3,I4,L,G l]
theorem Ix(I:Inv X ab2 U H s)(e:Rd H a (.dK ab4))(h:∀p s',H p=ay->Inv X ab2 U (upd H p<|.dK ab4) s'->Q (.ref p) s'):eS (fv X.prog X.w) A (call (.type "dict") [.ref a]) Q E s:=by
 obtain⟨z,j,m,c,l⟩:=kh I.hok e;exact kt_call_dict j l (by rw[<- c.length];exact z) λv f i=>h _ _ (I.hok.fresh<|UQ _) (I.laid (a:=s.heap.objs.size) (o:=.dK ab4) (t':=s.toks) (λb q g=>(i.2 b<|UT<|UD g).trans (UB _ g)) (UQ _)<|uQ z (beq_eq_false_iff_ne.mpr<|Vb<|UT I.big) c f)
end _2
namespace Att
open PySem PySem.W PySem.Calls PyProof.Rows
theorem m7:∀(c:ab_)(vs:aca),WellAll P h vs (c.map WData.int)->IntsAre vs c:=by
 intro c
 induction c with
 |nil=>
  rintro vs ⟨⟩
  exact .nil
 |cons n c ih=>
  intro vs w;cases w with
  |cons a b=>
   cases a;exact .cons _ _ (ih _ b)
theorem DL{l:OpenLaw}(s:l.most=ap n)
  (c:l.row.toRowW.claim.pre args=true) (j:WellAll P h e args):
  ∃a vs b,e=[UY a]/\args=[WData.list (b.map WData.int)]/\h.get? a=ap { cls:=.type "list",data:=.seq vs.toArray }/\IntsAre vs b/\b.length<=n:=by
 have i:WShape.hasAll [] _ _=true:=(pre_splitW c).1;have p:l.pre.holds [] _=true:=(pre_splitW c).2;obtain⟨d,r,rfl,q,m⟩:=hasAllW_cons i;obtain rfl:=hasAllW_nil m;obtain⟨v,rfl,o⟩:=hasW_list q;obtain⟨b,rfl⟩:=items_int o;have f:b.length<=n:=by
  have g:(WTm.not<|.lt (.lit<|.int n)<|.len<|.arg 0).holds [] { args:=[.list (b.map .int)] }=true:=by
   have g:=(holds_andW p).1;rw[s]at g;exact g
  have u:=condW_of g (w_not<|w_lt w_lit<|w_len_list<|w_arg rfl)
  simp_all
 cases j with
 |cons w1 w2=>
  cases w2;cases w1 with
  |list ho hall=>exact#[_,_,b,rfl,rfl,ho,m7 b _ hall,f]
theorem El(l:OpenLaw)(args:List WData):l.row.toRowW.claim.post args (.bool true) args=true:=
 postW_of
  (show WShape.has [] _ _=true by rfl)
  (w_eq_bool (w_res rfl) w_lit) rfl
theorem wL{l:OpenLaw}
  (U:l.most=ap n) (z:d.params.defaults=[])
  (call:∀(w:hB)(c b:ez)(p B:ach)(fa:eg)(o:Obj)(A s g:ax)(a:eg)(vs:aca)(u:ab_),
   Ground q loose [] XP w c p B b.heap->YP w b.heap->
   b.heap.get? fa=ap o->o.data=.func (docDef d.name d.params d.body d.scope A s g)->b.heap.CodeRec s d.name->p d.name=ap (.ref fa)->
   b.heap.get? a=ap { cls:=.type "list",data:=.seq vs.toArray }->IntsAre vs u->u.length<=n->b.gens=(tX [])->
   y' (fv l.prog w) abf (.call (.ref fa) #[[.ref a],[]]) (λr m=>r=.ok (.ret<|.bool true)/\OldK b.heap m.heap/\m.os=b.os/\UV m.gens) b):
  WalkO q loose XP YP l.row.toRowW d [] (λf vs=>Zq f vs):=by
 intro w c b p B G Y fa o A s g Q kV P L y H x O E F W h C N v I;obtain rfl:Q=.none:=Dflts.none H z;obtain rfl:kV=.none:=Dflts.noKw H;obtain⟨a,vs,u,rfl,rfl,j,e,i⟩:=DL U h v;refine enter_call (qa (call w c b p B fa o A s g a vs u G Y P (fd_plain L) y x j e i O) λr m M=>?_);obtain⟨rfl,R,J,S⟩:=M;exact#[.inl #[.bool true,.bool true,[],rfl,λ_=>rfl,.bool true,El l _,λ_=>#[List.Pairwise.nil,λ_ K=>(nomatch K)]],R,J,S]
end Att
namespace _2
open PySem PySem.Spec PyProof.Rows
variable{a l:eg}{A:gx}{items:aci}{b f1:Bool}{h h':h9}{args:List (Bool×eg)}{fp:acb}{i j:Nat}{s:ez}{x:Str}{α:Type}{K:UE}{f0:ax}{w:hB}{F:ZS->Option ax}
theorem DZ:∀{vs:aca}{c:ab_},IntsAre vs c->Vals (c.map V.int) vs:=by
 intro vs c h
 induction h with
 |nil=>exact .nil
 |cons n t _ ih=>exact .cons #[t,rfl] ih
def Fn(H:Hp):Prop:=∀b,H b=ay\/∃o xs,H b=ap (.frz o<|.lst xs)
theorem GD(KX:K.In c.heap)(O:c.heap.Ns ff R)(g:c.heap.Ns abw mb)(hbb:∀x:Str,x≠"__name__"->mb x=fy x)(W:c.heap.NoLimit)(hg:c.gens=(tX []))(Y:c.heap.get? a=ap { cls:=.type "list",data:=.seq vs.toArray })(hi:IntsAre vs ns)(hl:ns.length<=sizeLine)(hr:Room k abf)(F:∀base:h9,K.In base->base.Ns ff R->FnOk P w K R base CX k fa fd [x] sp)(hbind:∀(s:ez)(u:ax),abh s fd #[[u],[]] [(x,u)])(hsp:∀H:Hp,Fn H->SqL K H a (ns.map V.int)->sp [.ref a] H (λv _=>v=.bl true) λ_ _ _=>False)(hCX:∀H e p,CX [] H c (λ_ _ _=>False) e p->False):
  y' (fv P w) abf (.call (.ref fa) #[[.ref a],[]]) (λr p=>r=.ok (.ret<|.bool true)/\OldK c.heap p.heap/\p.os=c.os/\UV p.gens) c:=by
 have rv:=DZ hi;have C:=hi.length
 -- from an abstract heap in which nothing but the script may be tracked
 have y:∀H:Hp,Fn H->SqL K H a (ns.map V.int)->HOk P w H c.heap->(∀b,H b≠ay->b=a)->(H a≠ay->K.lookup a=ay)->
   y' (fv P w) abf (.call (.ref fa) #[[.ref a],[]]) (λr p=>r=.ok (.ret<|.bool true)/\OldK c.heap p.heap/\p.os=c.os/\UV p.gens) c:=by
  intro H hO hS N hA hK;have f:∀{b:eg}{o:Obj},c.heap.get? b=ap o->H b=ay->(tG c.heap H).get? b=ap o:=λe n=>Il e n;have noA:∀{b:eg}{o:Obj}{I:Array abK}{J:Nat},c.heap.get? b=ap o->o.data=.dict I J->H b=none:=λ{b o I J} e d=>by
   cases q:H b with
   |none=>rfl
   |some u=>
    have Z:b=a:=hA b (by rw[q];simp)
    subst Z;rw[Y]at e;cases e;have d':Data.seq vs.toArray _=Data.dict I J:=d;cases d'
  have nsK:∀{b:eg}{m:ach},c.heap.Ns b m->(tG c.heap H).Ns b m:=λ{b m} ⟨o,I,J,e,d,r⟩=>#[o,I,J,f e (noA e d),d,r];have G:K.In (tG c.heap H):=λb o e=>f (KX b o e) (by
   cases q:H b with
   |none=>rfl
   |some u=>
    have Z:b=a:=hA b (by rw[q];simp)
    subst Z;rw[hK (by rw[q];simp)]at e;cases e)
  have hM:Mod K R (tG c.heap H):=#[G,nsK O,#[mb,nsK g,hbb],let ⟨mc,h1,h2⟩:=W;#[mc,nsK h1,h2]];have e0:Env0 P w K R (tG c.heap H) abf [] c H:=#[rfl,hM,λb o e=>KD e,Zl (Ej _ _),trivial,λb g=>absurd (show b∈([]:acb) from g) (by simp),N,.of_eq hg]
  refine qa ((F _ G<|nsK O).run abf [] c H #[[.ref a],[]] [.ref a] [.ref a] _ _ hr e0 (hbind c<|.ref a) (.cons rfl .nil)<|hsp H hO hS) λr p h=>?_;cases r with
  |error e=>exact(hCX H e p h).elim
  |ok fl=>
   cases fl with
   |next=>exact Vv h
   |brk=>exact Vv h
   |cont=>exact Vv h
   |ret u=>
    obtain⟨v,H',os,B,un,M,r',q⟩:=h;have q':v=.bl true:=q;subst q';obtain rfl:u=X3 true:=r';refine#[rfl,OldK.of_keep λb o e=>?_,os,B];cases q:H b with
    |none=>exact un.keep b o e q (by intro z;exact absurd (show b∈([]:acb) from z) (by simp)) (by simp)
    |some u=>
     rcases hO b with z|⟨ob,xs,z⟩
     .rw[q]at z;cases z
     .have z2:=un.frzs b ob _ z
      obtain⟨e1,_⟩:=N b _ z;obtain⟨e2,_⟩:=M b _ z2;rw[e]at e1;cases e1;exact e2
 cases hk:K.lookup a with
 |some o=>
  -- the script is one of the module's own objects
  have e:=KX a o hk;rw[Y]at e;cases e;refine y (λ_=>ay) (λ_=>.inl rfl) (.inr #[_,vs.toArray,_,hk,rfl,rfl,rfl,by rw[US,C];exact hl,by simpa using rv]) (λb u z=>by have L:(none:Option HO)=ap u:=z;cases L) (λb z=>absurd rfl z) λz=>absurd rfl z
 |none=>
  refine y (λb=>if b=a then ap (.frz { cls:=.type "list",data:=.seq vs.toArray }<|.lst<|ns.map V.int) else ay) (λb=>?_) (.inl<|.inr #[{ cls:=.type "list",data:=.seq vs.toArray },if_pos rfl]) (λb u z=>?_) (λb z=>?_) λ_=>hk
  .by_cases g:b=a
   .exact .inr #[_,_,if_pos g]
   .exact .inl (if_neg g)
  .by_cases g:b=a
   .have L:=(if_pos g).symm.trans z
    cases L;subst g;exact#[Y,by rw[UA];exact hl,vs,_,rv,Y]
   .have L:=(if_neg g).symm.trans z
    cases L
  .by_cases g:b=a
   .exact g
   .exact absurd (if_neg g) z
theorem JU{l:W.OpenLaw}{K:Params->UE}{CX:hB->m4}{sp:hB->Sp}(hn:l.most=ap n)(M:n<=sizeLine)(J:d.params.defaults=[])(hr:Room k abf)(hY:∀(w:hB)(h:h9),YP w h->(K w.params).In h)(F:∀(w:hB)(r:ach)(fa:eg)(h:h9),(K w.params).In h->h.Ns ff r->r d.name=ap (.ref fa)->
   ∃fd:hG,(∀(s:ez)(u:ax),abh s fd #[[u],[]] [(x,u)])/\
    ∀c:h9,(K w.params).In c->c.Ns ff r->FnOk l.prog w (K w.params) r c (CX w) k fa fd [x] (sp w))(L:∀(w:hB)(H:Hp)(a:eg)(C:ab_),C.length<=n->Fn H->SqL (K w.params) H a (C.map V.int)->sp w [.ref a] H (λv _=>v=.bl true) λ_ _ _=>False)(N:∀(w:hB)(H:Hp)(s:ez)(e:ax)(s':ez),CX w [] H s (λ_ _ _=>False) e s'->False):
  W.WalkO q loose XP YP l.row.toRowW d [] (λf vs=>Zq f vs):=by
 refine Att.wL hn J λw O y r mb fa o pm cd doc a vs C G Y ho hd hcd I B p m Z=>?_;have KX:=hY w _ Y;obtain⟨fd,hb,R⟩:=F w r fa _ KX G.T.g I;exact GD KX G.T.g G.T.b G.T.builtins G.T.nolimit Z B p (UL m M) hr R hb (λH hO hS=>L w H a C m hO hS) λH e s'=>N w H y e s'
noncomputable def eQ(s:om)(j:Nat):Stmt:=match s with
 |.ClassDef _ _ _ body _ _ _ _ _ _ _=>body.getD j (.Pass #[0,0,0,0])
 |_=>.Pass #[0,0,0,0]
def cj(s:om):Arguments:=match s with
 |.FunctionDef _ a _ _ _ _ _ _ _ _=>a
 |_=>{ posonlyargs:=[],args:=[],vararg:=ay,kwonlyargs:=[],kw_defaults:=[],kwarg:=ay,defaults:=[] }
def bt(s:om):List Stmt:=match s with
 |.FunctionDef _ _ b _ _ _ _ _ _ _=>b
 |_=>[]
def aJ(s:om):Scope:=match s with
 |.FunctionDef _ _ _ _ _ _ sc _ _ _=>sc
 |_=>{ kind:=.function,names:=[],isGenerator:=eC,isCoroutine:=eC }
abbrev CX0:m4:=λ_ _ _ _ _ _=>False
abbrev E0:XK:=λ_ _ _=>False
structure Fun(K:UE)(x ab3:Str)(st:om)(f:eg)(fd:hG):Prop where
 ex:∃(oc:ax)(od:Option eg)(kV doc pm:ax)(an:Option eg)(cdv ct:ax)(osl:Array (Option ax)),
  fd=WO x ab3 (cj st) (bt st) (aJ st) .none kV doc pm an cdv ct/\K.lookup f=ap #[oc,od,.func fd,osl]/\X2 K cdv ab3=true
 kp:VJ K (.ref f)=true
theorem Fun.binds(F:Fun K x c m f fd)(h:∀(kV e p:ax)(o:Option eg)(g q:ax)(us:aca),us.length=r.length->abx (WO x c (cj m) (bt m) (aJ m) .none kV e p o g q) #[us,[]]=pure (r.zip us)):Binds K fd r []:=by
 obtain⟨B,y,kV,e,p,o,g,q,u,rfl,lk,v⟩:=F.ex;exact .all (h kV e p o g q)
theorem xU{kV:ax}(l:K.lookup f=ap #[y,v,.func (WO x e (cj g) (bt g) (aJ g) .none kV o r q m u),p])(c:X2 K m e=true)(k:VJ K (.ref f)=true):Fun K x e g f (WO x e (cj g) (bt g) (aJ g) .none kV o r q m u):=#[#[y,v,kV,_,r,q,_,u,_,rfl,l,c],k]
theorem rQ(c:Room k A):A.units+1<cLine:=WL (Nat.add_le_add_left (by decide) _) c.units
theorem E9:bH X (.builtin "len") (λxs H Q=>∃a ab4,xs=[V.ref a]/\H a=ap (.dK ab4)/\Q (.int ab4.length) H):=by
 intro ab2 s U H xs us Q I r h;obtain⟨a,ab4,rfl,e,q⟩:=h;obtain⟨u,rfl,c⟩:=gD r;cases c;exact Uf I (.inl e) λt f I'=>#[.int ab4.length,H,I',#[t,rfl],q]
theorem sL(I:Nat->ez->Prop)(turn:∀n s,I n s->eS (fv prog w) A (U' it) (λr s₁=>match r with
   |none=>R (.ok .next) s₁
   |some v=>eS (fv prog w) A (Y' target it v) (λ_ s₂=>eS (fv prog w) A (abl target env v) (λ_ s₃=>
     eS (fv prog w) A (forIn ifs true λc r=>if r=true then do let ok <- isTrue c env (g3 c env);pure (Xu ok) else pure (Xu r)) (λok s₄=>
      if ok=true then eS (fv prog w) A (g3 elt env) (λx s₅=>
       eS (fv prog w) A (call (.builtin "list.append") [ab5,x]) (λ_ s₆=>∃m,m<n/\I m s₆) (λ_ _=>False) s₅) (λ_ _=>False) s₄
      else ∃m,m<n/\I m s₄) (λ_ _=>False) s₃) (λ_ _=>False) s₂) (λ_ _=>False) s₁) (λ_ _=>False) s)(n:Nat)(h:I n s):
  y' (fv prog w) A (.compLoop (.ListComp elt [#[target,iter,ifs,0]] scope pos) 0 it ab5 env) R s:=by
 refine codeAny_loop rfl I (λn s hI=>?_) n h;show eS _ A _ _ _ s;refine wpAny_noted ?_;rw[compTurn_list];refine cT (aa8<|wpAny_bind<|wpAny_mono (turn n s hI) (λr s₁ h₁=>?_)<|by lia)
 cases r with
 |none=>exact eX h₁
 |some v=>
  refine cT (kr h₁ (λ_ s₂ h₂=>cT (kr h₂ (λ_ s₃ h₃=>cT (kr h₃ (λok s₄ h₄=>?_)<|by lia))<|by lia))<|by lia)
  cases ok with
  |false=>exact eX (by trivial)
  |true=>
   exact cT (cT<|wpAny_mono h₄ (λx s₅ h₅=>cT (kr h₅ (λ_ s₆ h₆=>eX (eX<|by trivial))<|by lia))<|by lia)
noncomputable def Qa(X:Cx)(N:ab')(scope:pt)(cl:List (Str×eg))(C:eg)(s₀:ez)(H₀:Hp)(fp:acb)(pl:acg):Cx where
 prog:=X.prog
 w:=X.w
 K:=X.K
 mg:=X.mg
 base:=X.base
 A:=X.A
 N:=N
 s₀:=s₀
 H₀:=H₀
 env:=compEnvC scope cl C X.env
 outer:=X.stack
 stack:=X.stack
 ex:=fp
 fn:=λ_=>eC
 calm:=X.calm
 pn:=X.pn++pl
 xe:=λ_ _=>False
inductive Frees(X:Cx)(scope:pt):List Str->List Nat->Prop where
 |nil:Frees X scope [] []
 |cons {x:Str} {j:Nat} {xs:ab'} {js:List Nat}:X.N[j]?=ap x->(X.env.kindOf x=ap .cell\/X.env.kindOf x=ap .free)->
   ((UF scope X.env).names.lookup x=ap .cell\/(UF scope X.env).names.lookup x=ap .free)->Frees X scope xs js->Frees X scope (x::xs) (j::js)
theorem Frees.length:∀{xs:ab'}{e:List Nat},Frees X c xs e->xs.length=e.length
 |_,_,.nil=>rfl
 |_,_,.cons _ _ _ t=>congrArg _ t.length
theorem Frees.get:∀{xs:ab'}{f:List Nat},Frees X e xs f->∀{i:Nat}{x:Str},xs[i]?=ap x->∃j,f[i]?=ap j/\X.N[j]?=ap x/\(X.env.kindOf x=ap .cell\/X.env.kindOf x=ap .free)/\
   ((UF e X.env).names.lookup x=ap .cell\/(UF e X.env).names.lookup x=ap .free)
 |_,_,.nil,i,x,h=>by simp at h
 |_,_,.cons a b c _,0,x,h=>by simp at h;subst h;exact#[_,rfl,a,b,c]
 |_,_,.cons _ _ _ t,i+1,x,h=>by
  obtain⟨j,m,g⟩:=t.get (by simpa using h)
  exact#[j,by trivial,g]
noncomputable def dy(ls:ab')(js:List Nat)(U:St):St:=ls.map (λ_=>ay)++js.map λj=>(U[j]?).join
def Qb(X:Cx)(ifs:acd)(t:TT):Prop:=
 ∀(ab2:acg)(s:ez)(U:St)(H:Hp)(Q:Bool->Hp->Prop),Inv X ab2 U H s->t U H Q->
  eS (fv X.prog X.w) X.A (forIn ifs true λc r=>if r=true then do let ok <- isTrue c X.env (g3 c X.env);pure (Xu ok) else pure (Xu r)) (TP X ab2 U Q) X.xe s
def tAll:TT:=λ_ H Q=>Q true H
theorem KB:Qb X [] tAll:=λ_ _ _ H _ I h=>wpAny_tests_nil #[H,I,h]
theorem Js(h:PT X c t):Qb X [c] t:=λab2 s U H Q I q=>wpAny_tests_one (h _ s U H Q I q)
def Hb(wi:TI)(ls:ab')(js:List Nat)(g:TG)(tt:TT)(te:TE):TE:=λU H Q=>wi U H λJ H1=>∀p,H1 p=ay->∃W:Nat->Nat->St->Hp->Prop,(∃m,W 0 m (dy ls js U) (upd H1 p<|.lst []))/\∀i m σ' H',W i m σ' H'->
 (J.stop i H'/\Q (.ref p) H')\/(J.go i H'/\∃N:St->Hp->Prop,(∀σ2 H2,N σ2 H2->∃m',m'<m/\W (i+1) m' σ2 H2)/\∀x H2,J.yld i H' x H2->g x σ' H2 λe H3=>tt e H3 λc H4=>
  if c=true then te e H4 λy H5=>∃ys,H5 p=ap (.lst ys)/\ys.length<sizeLine/\N e (upd H5 p<|.lst (ys++[y])) else N e H4)
def N_(i:Nat)(t:TE):TS:=λD U H=>t U H λv H1=>D.nx (U.set i<|some v) H1
def SrcTn(b:Bool)(it a:eg)(i:Nat)(h:h9):Prop:=if b=true then h.IsListIter it a i else h.IsTupleIter it a i
def SrcSq(b:Bool)(h:h9)(a:eg)(items:aci):Prop:=if b=true then h.IsList a items else h.IsTuple a items
theorem SrcTn.lt(x:SrcTn b it a i h):∃o,h.get? it=ap o/\∀v,o.data≠.cell v:=by
 cases b with
 |true=>obtain⟨o,e,c,d⟩:=x;exact#[o,e,λv z=>by simp_all]
 |false=>obtain⟨o,e,c,d⟩:=x;exact#[o,e,λv z=>by simp_all]
theorem SrcTn.keep(x:SrcTn b it a i h)(k:∀o,h.get? it=ap o->h'.get? it=ap o):SrcTn b it a i h':=by
 cases b with
 |true=>obtain⟨o,e,r⟩:=x;exact(#[o,k o e,r])
 |false=>obtain⟨o,e,r⟩:=x;exact(#[o,k o e,r])
theorem SrcSq.keep(x:SrcSq b h a items)(k:∀o,h.get? a=ap o->h'.get? a=ap o):SrcSq b h' a items:=by
 cases b with
 |true=>obtain⟨o,e,r⟩:=x;exact(#[o,k o e,r])
 |false=>obtain⟨o,e,r⟩:=x;exact(#[o,k o e,r])
theorem jX{x:ax}(c:s.heap.IsTupleIter it l i)(r:s.heap.IsTuple l items)(q:items[i]?=ap x)(hQ:∀h',h'.IsTupleIter it l (i+1)->VV it s.heap h'->Q x { s with heap:=h' }):eS (fv prog w) A (VA<|.ref it) Q E s:=by
 obtain⟨o,f,p,e⟩:=id c;obtain⟨v,g,_,u,m⟩:=r
 refine cT (wpAny_callSpecial?_slot c.typeIs Wv
  (l' Wv c.typeIs YZ ?_<|YS _))
 show eS _ _ (field _ 0 >>= _) _ _ s;refine cT (k' f e rfl ?_);refine cT (k' f e rfl ?_);refine cT (wh g m ?_);simp[q];exact cT (wpAny_setField f e (by simp)<|wpAny_pure #[x,rfl,eX<|hQ _ #[_,XO _ f (Obj.isFreed_of_fields<|Obj.data_mapFields e _),(Obj.cls_mapFields ..).trans p,by
  rw[Obj.data_mapFields e];simp[z5]]<|Xz ..])
theorem lq(r:A.handled=ay)(c:s.heap.IsTupleIter it l i)(v:s.heap.IsTuple l items)(u:items[i]?=ay)(hE:∀h' e,XR it s.heap h'->(∃o,h'.get? e=ap o/\o.cls=.type "StopIteration")->E (.ref e) { s with heap:=h' }):eS (fv prog w) A (VA<|.ref it) Q E s:=by
 obtain⟨o,q,C,p⟩:=id c;obtain⟨B,f,_,y,g⟩:=v
 refine cT (wpAny_callSpecial?_slot c.typeIs Wv
  (l' Wv c.typeIs YZ ?_<|YS _))
 show eS _ _ (field _ 0 >>= _) _ _ s;refine cT (k' q p rfl ?_);refine cT (k' q p rfl ?_);refine cT (wh f g ?_);simp[u];refine cT (WP<|wpAny_bind<|wpAny_setField q p (by simp) ?_)
 refine cT ?_;refine cT (m:=firstArgMember _ _) (ZB (by rfl) ?_)
 refine x9 ?_ (by size_fits)
 refine cT (wpAny_handled ?_)
 first|rw[r]|rw[r]
 exact cT (eX<|wpAny_throw<|hE _ _ (((Xz ..).extBut.push _).push _) #[_,UI _ rfl,rfl])
theorem gk{x:ax}(c:SrcTn b it l i s.heap)(g:SrcSq b s.heap l items)(e:items[i]?=ap x)(f:∀h',SrcTn b it l (i+1) h'->VV it s.heap h'->Q x { s with heap:=h' }):eS (fv prog w) A (VA<|.ref it) Q E s:=by
 cases b with
 |true=>exact wpAny_nextOf_list_item c g e f
 |false=>exact jX c g e f
theorem d_(g:A.handled=ay)(c:SrcTn b it l i s.heap)(f:SrcSq b s.heap l items)(p:items[i]?=ay)(m:∀h' e,XR it s.heap h'->(∃o,h'.get? e=ap o/\o.cls=.type "StopIteration")->E (.ref e) { s with heap:=h' }):eS (fv prog w) A (VA<|.ref it) Q E s:=by
 cases b with
 |true=>exact wpAny_nextOf_list_end g c f p m
 |false=>exact lq g c f p m
noncomputable def jn(b:Bool):String:=if b=true then "list_iterator" else "tuple_iterator"
theorem g4(e:SrcSq b s.heap l items)(c:Q (.ref s.heap.objs.size) { s with heap:=s.heap.push { cls:=.type (jn b),data:=.fields (tX [.ref l,.int 0 0]) } }):eS (fv prog w) A (abj<|.ref l) Q E s:=by
 cases b with
 |true=>exact w6 e c
 |false=>exact wpAny_pyIter_tuple e c
theorem B_(e:h.get? it=ap { cls:=.type (jn b),data:=.fields (tX [.ref l,.int 0 0]) }):SrcTn b it l 0 h:=by
 cases b with
 |true=>exact(#[_,e,rfl,rfl])
 |false=>exact(#[_,e,rfl,rfl])
theorem xX(c:s.heap.get? a=ap o)(h:Q (ap o) s):eS M A (loadIfAlive a) Q E s:=λΓ p _=>by
 show Sem.wp M Γ (.loadIfAlive a _) _ _ p s;rw[Sem.wp_loadIfAlive,c];exact h
structure ZS where
 b:Bool
 i:eg
 l:eg
abbrev jk(h:h9)(T:eg)(vs:aca):Prop:=h.get? T=ap { cls:=.type "tuple",data:=.seq vs.toArray }
noncomputable abbrev qv(z TI TO:eg)(S:List ZS):List Addr:=z::TI::TO::S.map ZS.i
structure ZOk(z TI TO:eg)(S:List ZS):Prop where
 nd:(qv z TI TO S).Nodup
 off:∀t∈S,t.l∉qv z TI TO S
 ne:S≠[]
 few:S.length<=3
abbrev qB(h:h9)(z TI TO:eg)(f0:ax)(f1:Bool):Prop:=
 h.get? z=ap { cls:=.type "zip",dict:=ay,data:=.fields (tX [f0,.bool f1,.bool eC,.ref TI,.ref TO]),slots:=(tX []) }
def J4(S:List ZS)(k:Nat)(h:h9):Prop:=∀t∈S,SrcTn t.b t.i t.l k h
theorem iR{α:Type}{f:α->c->Sem (ForInStep c)}{xs:List α}(b:Nat->c)(I:Nat->ez->Prop)
  (m:∀i x s,xs[i]?=ap x->I i s->eS M A (f x<|b i) (λr s'=>r=.yield (b (i+1))/\I (i+1) s') E s) (g:∀s',I xs.length s'->Q (b xs.length) s'):
  ∀(n j:Nat)(s:ez),j+n=xs.length->I j s->eS M A (forIn (xs.drop j) (b j) f) Q E s
 |0,j,s,e,h=>by
  rw[XG (by lia)]
  have:j=xs.length:=by lia
  subst this;exact eX (g s h)
 |n+1,j,s,e,h=>by
  have o:j<xs.length:=by lia
  rw[Xn o,Yy];refine cT (kr (m j _ s (by simp) h) (λr s' q=>?_) λ_ _ q=>q)
  obtain⟨rfl,q⟩:=q;exact iR b I m g n _ s' (by lia) q
theorem pQ{TI TO:eg}(D:ZOk z TI TO S):z≠TI/\z≠TO/\TI≠TO/\∀t∈S,t.i≠z/\t.i≠TI/\t.i≠TO:=by
 have:=D.nd;simp only[VQ,UK,not_or]at this;obtain⟨⟨a,b,c⟩,⟨d,e⟩,f,g⟩:=this;exact#[a,b,d,λt m=>#[λe=>c (e▸Va m),λq=>e (q▸Va m),λe=>f (e▸Va m)]]
theorem Ax{TI TO:eg}(D:ZOk z TI TO S)(c:S[i]?=ap t)(f:S[j]?=ap u)(h:i≠j):t.i≠u.i:=by
 have nd:(S.map ZS.i).Nodup:=by have:=D.nd;simp only[VQ]at this;exact this.2.2.2
 intro e;exact h ((List.getElem?_inj (by rw[UA];exact(Ve.1 c).1) nd).1<|by simp_all)
theorem xo{t:ZS}(m:A.handled=ay)(g:SrcTn t.b t.i t.l k s.heap)(c:SrcSq t.b s.heap t.l xs)(f:xs[k]?=o)(p:∀x h',o=ap x->SrcTn t.b t.i t.l (k+1) h'->VV t.i s.heap h'->Q x { s with heap:=h' })(hE:∀h' e,o=ay->XR t.i s.heap h'->(∃o,h'.get? e=ap o/\o.cls=.type "StopIteration")->E (.ref e) { s with heap:=h' }):
  eS (fv prog w) A (VA<|.ref t.i) Q E s:=by
 cases o with
 |none=>exact d_ m g c f λh' e q r=>hE h' e rfl q r
 |some x=>exact gk g c f λh' q r=>p x h' rfl q r
structure ZMid(S:List ZS)(F:ZS->Option ax)(k:Nat)(fp:acb)(h₀:h9)(j:Nat)(h:h9):Prop where
 ahead:∀i t,S[i]?=ap t->SrcTn t.b t.i t.l (if i<j then k+1 else k) h
 got:∀i t,i<j->S[i]?=ap t->(F t).isSome=true
 frame:∀c o,c∉fp->h₀.get? c=ap o->h.get? c=ap o
 size:h.objs.size=h₀.objs.size
theorem ZMid.zero(a:J4 S k h)(f:∀c o,c∉fp->h₀.get? c=ap o->h.get? c=ap o)(z:h.objs.size=h₀.objs.size):ZMid S F k fp h₀ 0 h:=
 #[λi t e=>by simpa using a t (VD e),λi t q=>absurd q (YE _),f,z]
theorem ZMid.at(m:ZMid S F k fp h₀ j h)(e:S[j]?=ap t):SrcTn t.b t.i t.l k h:=by simpa using m.ahead j t e
theorem ZMid.go(m:ZMid S F k fp h₀ j h)(i1:∀t∈S,∀o,h.get? t.i=ap o->h'.get? t.i=ap o)(f:∀c o,c∉fp->h.get? c=ap o->h'.get? c=ap o)(z:h'.objs.size=h.objs.size):ZMid S F k fp h₀ j h':=
 #[λi t e=>(m.ahead i t e).keep (i1 t<|VD e),m.got,λc o n e=>f c o n (m.frame c o n e),z.trans m.size]
theorem ZMid.step{TI TO:eg}(D:ZOk z TI TO S)(m:ZMid S F k fp h₀ j h)(e:S[j]?=ap t)(r:t.i∈fp)(p:(F t).isSome=true)(v:SrcTn t.b t.i t.l (k+1) h')(b:VV t.i h h'):ZMid S F k fp h₀ (j+1) h':=by
 refine#[λi u f=>?_,λi u q f=>?_,λc o n q=>b.extBut c o (λx=>n (x▸r)) (m.frame c o n q),b.1.trans m.size]
 .by_cases g:i=j
  .simp_all
  have q:=(m.ahead i u f).keep λo x=>b.extBut _ o (Ax D f e g) x
  by_cases lt:i<j
  .rw[if_pos lt]at q
   rw[if_pos (WX lt)];exact q
  rw[if_neg lt]at q;rw[if_neg (by lia)]
  exact q
 by_cases g:i=j
 .subst g
  cases e.symm.trans f;exact p
 exact m.got i u (by lia) f
theorem yB{TI TO:eg}(m:qB s.heap z TI TO f0 f1)(h:eS (fv prog w) A.in1 (Builtin.«zip.__next__» #[[.ref z],[]]) (λfin s'=>∃v,fin=.done (.ret v)/\Q (ap v) s') (λe s'=>∃a,e=.ref a/\(∃o,s'.heap.get? a=ap o/\o.cls=.type "StopIteration")/\Q ay s') s):
  eS (fv prog w) A (U'<|.ref z) Q E s:=by
 have c:s.TypeIs (.ref z) _:=#[_,m,rfl];refine cT (z6<|wpAny_callSpecial?_slot c F.slot_zip_next<|wpAny_call_entry F.slot_zip_next c F.entry_zip_next (kr h (λfin s' q=>?_) λe s' q=>?_)<|F.args_zip_next_1 _)
 .obtain⟨v,rfl,q⟩:=q
  exact#[v,rfl,eX q]
 obtain⟨a,rfl,⟨o,f,g⟩,q⟩:=q;exact cT (V_ #[o,f,g] abt<|wpAny_pure q)
theorem DY{TI TO T:eg}(hz:qB s.heap z TI TO (z5 T) f1)(hT:s.heap.get? T=ap oT)(h:∀h₀,qB h₀ z TI TO (z5 T) true->(∀c o,c≠z->s.heap.get? c=ap o->h₀.get? c=ap o)->h₀.objs.size=s.heap.objs.size->Q eC { s with heap:=h₀ }):eS (fv prog w) A (Wf<|.ref z) Q E s:=by
 refine cT (k' hz rfl rfl ?_);refine cT (xX (by trivial) ?_)
 refine cT (k' hz rfl rfl ?_);cases f1 with
 |true=>
  exact eX (h _ hz (λ_ _ _ e=>e) rfl)
 |false=>
  exact cT (lT hz (by simp) λh₀ hz0 hs0=>eX (h _ hz0 hs0.extBut hs0.1))
theorem nT{TI TO:eg}(hh:A.handled=ay)(D:ZOk z TI TO S)(hz:qB s.heap z TI TO f0 f1)(hf:f0=.none/\f1=eC/\(∃vs:List ax,vs.length=S.length/\jk s.heap TO vs)\/∃(T:eg)(oT:Obj),f0=z5 T/\s.heap.get? T=ap oT)(hTI:jk s.heap TI (S.map λt=>.ref t.i))(h1:J4 S k s.heap)(hl:∀t∈S,∃xs,SrcSq t.b s.heap t.l xs/\xs[k]?=F t)(hQ:∀h' us,us.map ap=S.map F->(f0=.none/\abo h' z TI TO (z5 s.heap.objs.size)/\jk h' TO us\/f0≠.none/\qB h' z TI TO f0 true)->J4 S (k+1) h'->jk h' s.heap.objs.size us->
   (∀c o,c∉z::TO::S.map ZS.i->s.heap.get? c=ap o->h'.get? c=ap o)->Q (ap<|.ref s.heap.objs.size) { s with heap:=h' })(hE:∀h',(∃t∈S,F t=ay)->(∀c o,c∉z::TO::S.map ZS.i->s.heap.get? c=ap o->h'.get? c=ap o)->Q ay { s with heap:=h' }):
  eS (fv prog w) A (U'<|.ref z) Q E s:=by
 obtain⟨zTI,zTO,TITO,R⟩:=pQ D;have few:S.length<=sizeLine:=UL D.few (by decide)
 refine yB hz ?_;show eS _ _ (field (.ref z) 2 >>= _) _ _ _;refine cT (k' hz rfl (x:=.bool eC) rfl ?_);show eS _ _ (field (.ref z) 3 >>= _) _ _ _;refine cT (k' hz rfl (x:=.ref TI) rfl ?_);refine cT (wh hTI rfl ?_);have hne:¬(S.map λt=>UY t.i).toArray.isEmpty=true:=by have:=D.ne;simp[this]
 refine (congrArg (eS (fv prog w) A.in1 · _ _ s)<|if_neg hne).mpr ?_;show eS _ _ (Wf (.ref z) >>= _) _ _ _;refine cT ?_;have hnd:∀t∈S,t.l∉z::TO::S.map ZS.i:=λt g q=>D.off t g (by
  simp only[qv,UK]at q ⊢;exact q.imp id .inr)
 have B:∀{h h':h9}{c:eg}(b:eg),b∈z::TO::S.map ZS.i->(∀c o,c≠b->h.get? c=ap o->h'.get? c=ap o)->c∉z::TO::S.map ZS.i->∀o,h.get? c=ap o->h'.get? c=ap o:=λb hb k n o e=>k _ o (λx=>n (x▸hb)) e;have mi:∀{t:ZS},t∈S->t.i∈z::TO::S.map ZS.i:=λg=>by simp[Va g]
 have fin:∀{us:aca},us.length=S.length->(∀i t,i<S.length->S[i]?=ap t->us[i]?=F t)->(∀i t,i<S.length->S[i]?=ap t->(F t).isSome=true)->us.map ap=S.map F:=λ{us} hu G hs=>by
  refine WT λi=>?_;rw[UH,UH];cases y:S[i]? with
  |none=>
   rw[Xm]at y;rw[VT (by lia)]
   rfl
  |some t=>
   have il:i<S.length:=(Ve.1 y).1;have hs:=hs i t il y;rw[G i t il y];cases hF:F t with
   |none=>rw[hF]at hs;cases hs
   |some x=>simp[hF]
 have st:∀{h:h9},ZMid S F k (z::TO::S.map ZS.i) s.heap S.length h->J4 S (k+1) h:=λm t g=>by
  obtain⟨i,il,rfl⟩:=W8 g;have q:=m.ahead i S[i] (by simp[il])
  rwa [if_pos il]at q
 rcases hf with⟨rfl,rfl,vs,hv,hTO⟩|⟨T,oT,rfl,hT⟩
 .refine (λc h=>by
    exact cT (k' c rfl rfl<|wpAny_pure h)) hz ?_
  refine (congrArg (eS (fv prog w) A.in1 · _ _ s)<|if_pos rfl).mpr ?_;refine cT (WP ?_);refine cT (k' hz rfl (x:=.ref TO) rfl ?_);refine cT (lT hz (by simp) λW Z M=>?_)
  replace Z:abo W z TI TO .ellipsis:=Z
  refine cT ?_
  refine iR (xs:=(S.map λt=>UY t.i).toArray.toList.zipIdx) (λ_=>_)
   (λj s'=>∃h' us,s'={ s with heap:=h' }/\ZMid S F k (z::TO::S.map ZS.i) s.heap j h'/\abo h' z TI TO .ellipsis/\jk h' TO us/\us.length=S.length/\∀i t,i<j->S[i]?=ap t->us[i]?=F t)
   (λj x s' hx hI=>?_) (λs' hI=>?_) _ 0 _ (WW _) #[W,vs,rfl,.zero (λt g=>(h1 t g).keep λo e=>M.extBut _ o (R t g).1 e) (λc o n e=>B z (.head _) M.extBut n o e) M.1,Z,M.extBut _ _ zTO.symm hTO,hv,λi t q=>absurd q (YE _)]
  .obtain⟨h',us,rfl,m,r,C,hu,G⟩:=hI
   simp only[Zp,UH,VO,WW]at hx;obtain⟨v,⟨t,y,rfl⟩,rfl⟩:=hx;have g:=VD y;obtain⟨xs,hsq,hxs⟩:=hl t g;refine cT (wpAny_onRaise ?_);show eS _ _ (VA (.ref t.i) >>= _) _ _ _;refine cT (xo hh (m.at y) (hsq.keep λo e=>m.frame _ o (hnd t g) e) hxs (λx p O h12 f=>eX ?_) λp e O f he=>?_)
   .have jl:j<S.length:=(Ve.1 y).1
    have J:jk p TO us:=f.extBut _ _ (R t g).2.2.symm C;refine cT (wh J rfl ?_);refine cT (wpAny_updateSeq J rfl ?_ (by show us.toArray.size<=sizeLine;rw[US,hu];exact few)<|by rw[Array.size_setIfInBounds,US,hu];exact Nat.le_succ_of_le few)
    refine cT (wpAny_letGo<|wpAny_pure #[rfl,_,us.set j x,rfl,?_,?_,?_,by rw[VR,hu],λi u q eu=>?_])
    all_goals have sb:VV TO p (p.update TO<|Yc (·.setIfInBounds j x)):=Xz ..
    .exact(m.step D y (mi g) (by rw[O];rfl) h12 f).go (λu hu' o e=>sb.extBut _ o (R u hu').2.2 e) (λc o n e=>B TO (by simp) sb.extBut n o e) sb.1
    .exact sb.extBut _ _ zTO (f.extBut _ _ (R t g).1.symm r)
    .show Heap.get? _ _=_
     rw[XO _ J rfl];simp[Yc]
    .rw[Xr]
     by_cases ij:j=i
     .subst ij
      cases y.symm.trans eu;rw[if_pos rfl,if_pos (by lia),O]
     .rw[if_neg ij]
      exact G i u (by lia) eu
   .obtain⟨oe,hoe,hce⟩:=he
    have hz2:abo p z TI TO .ellipsis:=f _ _ (R t g).1.symm r;have hez:e≠z:=λx=>by subst x;rw[hz2]at hoe;cases hoe;simp at hce
    exact lT hz2 (by simp) λh₃ _ I=>#[e,rfl,#[oe,I.extBut _ _ hez hoe,hce],hE h₃ #[t,g,O] λc o n q=>B z (.head _) I.extBut n o (B _ (mi g) f n o<|m.frame c o n q)]
  .obtain⟨h',us,rfl,m,r,C,hu,G⟩:=hI
   rw[show (S.map λt=>UY t.i).toArray.toList.zipIdx.length=S.length by simp]at m G
   refine cT (wh C rfl ?_);refine cT (J' ?_<|by simpa [hu] using few)
   have Y:z<h'.objs.size:=UD r;show eS _ _ (Xe (.ref z) (.ref h'.objs.size) >>= _) _ _ _;refine cT ?_;unfold Xe;have hz8:abo (h'.push { cls:=.type "tuple",data:=.seq us.toArray }) z TI TO .ellipsis:=UB _ r;refine cT (lT hz8 (by simp) λh₉ hz9 hs9=>?_)
   replace hz9:abo h₉ z TI TO (z5 h'.objs.size):=hz9
   refine lT hz9 (by simp) λhA N hsA=>?_
   replace N:abo hA z TI TO (z5 h'.objs.size):=N
   have up:∀c o,c≠z->h'.get? c=ap o->hA.get? c=ap o:=λc o c1 e=>hsA.extBut _ _ c1 (hs9.extBut _ _ c1<|UB _ e);have hTA:jk hA h'.objs.size us:=hsA.extBut _ _ (Ww Y) (hs9.extBut _ _ (Ww Y)<|UI _ rfl);rw[m.size]at N hTA;refine eX #[_,rfl,?_];show Q (ap<|.ref h'.objs.size) _;rw[m.size];exact hQ hA us (fin hu G m.got) (.inl #[rfl,N,up _ _ zTO.symm C]) (λt g=>(st m t g).keep λo e=>up _ o (R _ g).1 e) hTA λc o n e=>B z (.head _) up n o (m.frame c o n e)
 .refine DY hz hT λh₀ hz0 L hs0=>?_
  refine (congrArg (eS (fv prog w) A.in1 · _ _ _)<|if_neg WI).mpr ?_;show eS _ _ (forIn (S.map λt=>UY t.i).toArray _ _ >>= _) _ _ _;rw[<- Array.forIn_toList];refine cT ?_
  refine iR (xs:=(S.map λt=>UY t.i).toArray.toList) (λj=>(ay,((S.map λt=>(F t).getD .none).take j).toArray))
   (λj s'=>∃h',s'={ s with heap:=h' }/\ZMid S F k (z::TO::S.map ZS.i) s.heap j h'/\qB h' z TI TO (z5 T) true)
   (λj x s' hx hI=>?_) (λs' hI=>?_) _ 0 _ (WW _) #[h₀,rfl,.zero (λt g=>(h1 t g).keep λo e=>L _ o (R t g).1 e) (λc o n e=>B z (.head _) L n o e) hs0,hz0]
  .obtain⟨h',rfl,m,r⟩:=hI
   simp only[UH,VO]at hx;obtain⟨t,y,rfl⟩:=hx;have g:=VD y;obtain⟨xs,hsq,hxs⟩:=hl t g;refine cT (ol ?_);show eS _ _ (VA (.ref t.i) >>= _) _ _ _;refine cT (xo hh (m.at y) (hsq.keep λo e=>m.frame _ o (hnd t g) e) hxs (λx p O h12 f=>eX (eX #[?_,_,rfl,m.step D y (mi g) (by rw[O];rfl) h12 f,f.extBut _ _ (R t g).1.symm r])) λp e O f he=>#[e,rfl,he,hE p #[t,g,O] λc o n q=>B _ (mi g) f n o (m.frame c o n q)])
   rw[YK,show (S.map λt=>(F t).getD .none)[j]?=ap x by rw[UH,y];simp[O]]
   simp
  .obtain⟨h',rfl,m,r⟩:=hI
   rw[show (S.map λt=>UY t.i).toArray.toList.length=S.length by simp]at m ⊢
   rw[XF (by simp)]
   refine cT (J' (eX #[_,rfl,?_])<|by simpa using few)
   have up:∀c o,h'.get? c=ap o->(h'.push { cls:=.type "tuple",data:=.seq (S.map λt=>(F t).getD .none).toArray }).get? c=ap o:=λc o e=>UB _ e;have hn:=UI h' (o:={ cls:=.type "tuple",data:=.seq (S.map λt=>(F t).getD .none).toArray }) rfl;show Q (ap<|.ref h'.objs.size) _;rw[m.size]at hn ⊢;refine hQ _ (S.map λt=>(F t).getD .none) (fin (by simp) (λi t il y=>?_) m.got) (.inr #[by simp[z5],up _ _ r]) (λt g=>(st m t g).keep λo e=>up _ o e) (by simpa using hn) λc o n e=>up _ _ (m.frame c o n e)
   have hs:=m.got i t il y;cases hF:F t with
   |none=>rw[hF]at hs;cases hs
   |some x=>simp[y,hF]
theorem Pi{l:List α}(h:l.length=2):∃a b,l=[a,b]:=by
 cases l with
 |nil=>cases h
 |cons a l=>
  cases l<;>simp_all
theorem len3{l:List α}(h:l.length=3):∃a b c,l=[a,b,c]:=by
 cases l with
 |nil=>cases h
 |cons a l=>
  obtain⟨b,c,rfl⟩:=Pi (by simpa using h)
  exact#[a,b,c,rfl]
theorem pG(a b c:ax):aa_ "zip" #[[a,b,c],[]]=pure ():=by kernel_rfl
theorem qq(a b c:ax):ss "zip.__new__" #[[.type "zip",a,b,c],[]]=pure ():=by kernel_rfl
theorem je(a b c d:ax):abc "object.__init__" #[[a,b,c,d],[]]:=by
 unfold abc;rw[signature?_of (id:="object.__init__") (n:=['_','_','t','i','n','i','_','_']) (o:=['t','c','e','j','b','o']) (by kernel_rfl) F.owner_object];kernel_rfl
noncomputable def dk(n:Nat)(args:List (Bool×eg)):List ZS:=args.zipIdx.map λp=>#[p.1.1,n+p.2,p.1.2]
theorem gP:(dk n args)[i]?=(args[i]?).map λp=>#[p.1,n+i,p.2]:=by
 simp[dk,Function.comp_def]
theorem vo(C:∀p∈args,∃xs,SrcSq p.1 s.heap p.2 xs)(B:∀h',J4 (dk s.heap.objs.size args) 0 h'->(∀c o,s.heap.get? c=ap o->h'.get? c=ap o)->h'.objs.size=s.heap.objs.size+args.length->Q ((dk s.heap.objs.size args).map λt=>.ref t.i) { s with heap:=h' }):
  eS (fv prog w) A (Builtin.SmallTypes.iterAll (args.map λp=>.ref p.2)) Q E s:=by
 refine cT ?_
 refine iR (λj=>(((dk s.heap.objs.size args).take j).map λt=>UY t.i).toArray)
  (λj q=>∃h',q={ s with heap:=h' }/\J4 ((dk s.heap.objs.size args).take j) 0 h'/\(∀c o,s.heap.get? c=ap o->h'.get? c=ap o)/\h'.objs.size=s.heap.objs.size+j)
  (λj x q u m=>?_) (λq m=>?_) _ 0 _ (WW _) #[_,rfl,λt ht=>by simp at ht,λ_ _ e=>e,rfl]
 .obtain⟨h',rfl,g,k,f⟩:=m
  simp only[UH,VO]at u;obtain⟨p,v,rfl⟩:=u;obtain⟨xs,y⟩:=C p (VD v);have r:(dk s.heap.objs.size args)[j]?=ap #[p.1,s.heap.objs.size+j,p.2]:=by rw[gP,v];rfl
  refine cT (ol<|g4 (y.keep λo e=>k _ o e)<|wpAny_pure #[?_,_,rfl,λt ht=>?_,λc o e=>UB _ (k c o e),by rw[Vw,f];rfl])
  .rw[YK,r]
   simp[f]
  rw[YK,r]at ht;rcases Vg.1 ht with ht|ht
  .exact(g t ht).keep λo e=>UB _ e
  have:=VC.1 ht;subst this;refine B_ ?_;rw[<- f];exact UI _ rfl
 obtain⟨h',rfl,g,k,f⟩:=m;have e:(dk _ _).take (args.map λp=>UY p.2).length=dk s.heap.objs.size args:=XF (by simp[dk])
 rw[e]at g ⊢;refine eX (B h' g k<|by simpa using f)
theorem yT(args:List (Bool×eg))(g:args.length<=3):
  Meets (Builtin.«zip.__new__» #[.type "zip"::args.map λp=>.ref p.2,[]]) (λ_ R s=>(∀p∈args,∃xs,SrcSq p.1 s.heap p.2 xs)/\
   ∀h',abo h' (s.heap.objs.size+args.length+2) (s.heap.objs.size+args.length) (s.heap.objs.size+args.length+1) .none->jk h' (s.heap.objs.size+args.length) ((dk s.heap.objs.size args).map λt=>.ref t.i)->jk h' (s.heap.objs.size+args.length+1) (args.map λ_=>.none)->
    J4 (dk s.heap.objs.size args) 0 h'->(∀c o,s.heap.get? c=ap o->h'.get? c=ap o)->R (.ok<|.ret<|.ref (s.heap.objs.size+args.length+2)) { s with heap:=h' }):=
 .of_wp λprog w A R s h=>by
  obtain⟨m,u⟩:=h;have r:=sub_zip;have v:=m;unfold Builtin.«zip.__new__»
  wp_walk using vo m
  intro h' B k f;have len:(dk s.heap.objs.size args).length<=3:=by simpa [dk] using g
  refine cT (J' ?_<|by rw[UA];exact UL len (by decide))
  refine cT (J' ?_<|by rw[UA,UA];exact UL len (by decide))
  unfold Builtin.SmallTypes.newRecord Builtin.SmallTypes.ownedTupleFields
  wp_walk
  refine#[_,rfl,?_];simp only[Vw,f];refine u _ ?_ ?_ ?_ (λt y=>(B t y).keep λo e=>UB _ (UB _<|UB _ e)) λc o e=>UB _ (UB _<|UB _<|k c o e)
  .have q:=UI ((h'.push { cls:=.type "tuple",data:=.seq ((dk s.heap.objs.size args).map λt=>UY t.i).toArray }).push { cls:=.type "tuple",data:=.seq (((dk s.heap.objs.size args).map λt=>UY t.i).map λ_=>Wm).toArray }) (o:={ cls:=.type "zip",data:=.fields (tX [.none,.bool eC,.bool eC,.ref (s.heap.objs.size+args.length),.ref (s.heap.objs.size+args.length+1)]) }) rfl
   simp only[Vw,f]at q;exact q
  .refine UB _ (UB _ ?_)
   rw[<- f];exact UI _ rfl
  refine UB _ ?_;have q:=UI (h'.push { cls:=.type "tuple",data:=.seq ((dk s.heap.objs.size args).map λt=>UY t.i).toArray }) (o:={ cls:=.type "tuple",data:=.seq (((dk s.heap.objs.size args).map λt=>UY t.i).map λ_=>Wm).toArray }) rfl;simp only[Vw,f]at q;rw[show (args.map λ_=>Wm)=(((dk s.heap.objs.size args).map λt=>UY t.i).map λ_=>Wm) from ?_]
  .exact q
  .rw[Vq,dk,Vq]
   exact WT λi=>by simp[UH,Zp];rfl
theorem qD(hn:args.length=2\/args.length=3)(hl:∀p∈args,∃xs,SrcSq p.1 s.heap p.2 xs)(h:∀h' z TI TO S,S.map (λt=>(t.b,t.l))=args->ZOk z TI TO S->abo h' z TI TO .none->jk h' TI (S.map λt=>.ref t.i)->jk h' TO (S.map λ_=>.none)->J4 S 0 h'->(∀b∈qv z TI TO S,s.heap.objs.size<=b)->
   (∀c o,s.heap.get? c=ap o->h'.get? c=ap o)->Q (.ref z) { s with heap:=h' }):
  eS (fv prog w) A (call (.type "zip") (args.map λp=>.ref p.2)) Q E s:=by
 have few:args.length<=3:=by lia
 have checks:aa_ "zip" #[args.map λp=>.ref p.2,[]]=pure ()/\ss "zip.__new__" #[.type "zip"::args.map λp=>.ref p.2,[]]=pure ()/\∀obj,abc "object.__init__" #[obj::args.map λp=>.ref p.2,[]]:=by
  rcases hn with hn|hn
  .obtain⟨a,b,rfl⟩:=Pi hn
   exact#[F.typeCall_zip_2 _ _,F.newCall_zip_2 _ _,λobj=>F.args_object_init_3 obj _ _]
  .obtain⟨a,b,c,rfl⟩:=len3 hn
   exact#[pG _ _ _,qq _ _ _,λobj=>je obj _ _ _]
 refine abS F.called_zip (by decide) checks.1 checks.2.1 checks.2.2 F.entry_zip_new (yT args few) #[hl,λh' hz hTI hTO st k=>?_]
 have em:(dk s.heap.objs.size args).map (λt=>(t.b,t.l))=args:=WT λi=>by
  rw[UH,gP];cases args[i]?<;>rfl
 have hlen:(dk s.heap.objs.size args).length=args.length:=by rw[<- em,UA,em]
 have hi:∀t∈dk s.heap.objs.size args,s.heap.objs.size<=t.i/\t.i<s.heap.objs.size+args.length:=λt ht=>by
  obtain⟨i,il,rfl⟩:=W8 ht;have q:=gP (n:=s.heap.objs.size) (args:=args) (i:=i);rw[hlen]at il;simp[il,hlen]at q;rw[q];exact#[V4 _ _,Nat.add_lt_add_left il _]
 have hb:∀b∈qv (s.heap.objs.size+args.length+2) (s.heap.objs.size+args.length) (s.heap.objs.size+args.length+1) (dk s.heap.objs.size args),s.heap.objs.size<=b:=λb hb=>by
  simp only[qv,UK,UR]at hb;rcases hb with e|e|e|⟨t,ht,e⟩
  .rw[e];exact UL (V4 _ _) (V4 _ _)
  .rw[e];exact V4 _ _
  .rw[e];exact UL (V4 _ _) (V4 _ _)
  .rw[<- e];exact(hi t ht).1
 have D:ZOk (s.heap.objs.size+args.length+2) (s.heap.objs.size+args.length) (s.heap.objs.size+args.length+1) (dk s.heap.objs.size args):=by
  refine#[?_,λt ht q=>?_,λe=>?_,by lia]
  .simp only[VQ,UK,UR,not_or,not_exists,not_and]
   refine#[#[(show (_:Nat)≠(_:Nat) by lia),(show (_:Nat)≠(_:Nat) by lia),λt ht e=>?_],#[(show (_:Nat)≠(_:Nat) by lia),λt ht e=>?_],λt ht e=>?_,?_]
   all_goals try exact absurd (show (t.i:Nat)<s.heap.objs.size+args.length from (hi t ht).2) (by rw[e];first|exact Vs _|exact Yd.2 (V4 _ _))
   refine YT.2 λi j il jl ij=>?_;have ei:=gP (n:=s.heap.objs.size) (args:=args) (i:=i);have ej:=gP (n:=s.heap.objs.size) (args:=args) (i:=j);simp only[UA,hlen]at il jl;simp[il,hlen]at ei;simp[jl,hlen]at ej;rw[List.getElem_map,List.getElem_map,ei,ej];exact(show (_:Nat)≠(_:Nat) by simp;lia)
  .have:(t.b,t.l)∈args:=em▸Va (f:=λt:ZS=>(t.b,t.l)) ht
   obtain⟨xs,sq⟩:=hl _ this;obtain⟨b,i,l⟩:=t;have lt:l<s.heap.objs.size:=by
    cases b with
    |true=>obtain⟨o,e,_⟩:=(show s.heap.IsList l xs from sq);exact UD e
    |false=>obtain⟨o,e,_⟩:=(show s.heap.IsTuple l xs from sq);exact UD e
   exact absurd lt (Yd.2<|hb _ q)
  .rw[e]at hlen
   simp at hlen;lia
 show _/\_;refine#[#[_,hz,rfl],h h' _ _ _ _ em D hz hTI ?_ st hb k];rw[show ((dk s.heap.objs.size args).map λ_=>Wm)=args.map λ_=>Wm by rw[<- em,Vq,em];rfl]
 exact hTO
def o_(K:UE)(b:Bool)(H:Hp)(a:eg)(xs:List V):Prop:=if b=true then SqL K H a xs else lW K H a xs
theorem Inv.src(I:Inv X ab2 U H s)(h:o_ X.K b H a xs):∃ab8:List ax,Vals xs ab8/\SrcSq b s.heap a ab8.toArray/\xs.length<=sizeLine:=by
 cases b with
 |true=>obtain⟨ab8,r,p,z⟩:=I.list h;exact#[_,r,p.isList,z]
 |false=>obtain⟨ab8,r,p,z⟩:=I.tuple h;exact#[_,r,p,z]
theorem Inv.src_inj(I:Inv X ab2 U H s)(h:o_ X.K b H a xs)(h':o_ X.K b H a ys):xs=ys:=by
 cases b with
 |true=>exact I.list_inj h h'
 |false=>exact I.tuple_inj h h'
theorem Inv.src_ne(I:Inv X ab2 U H s)(h:o_ X.K b H a xs)(f:kO X ab2 H it):a≠it:=by
 obtain⟨f0,f1,r,p,q,u⟩:=f;intro e;subst e;have c:∀o,X.K.lookup a=ap o->False:=λo g=>by
  have m:=I.ok.mod.kin a o g;rcases p with z|z
  .exact I.ok.noex a o m z
  .exact absurd (UM (UD (I.ok.bs a o m).1) z) (Vs _)
 cases b with
 |true=>
  rcases (show SqL X.K H a xs from h) with (z|⟨o,z⟩)|⟨o,_,_,g,_⟩
  .rw[f0]at z;cases z
  .rw[f0]at z;cases z
  .exact c o g
 |false=>
  rcases (show lW X.K H a xs from h) with (z|⟨o,z⟩)|⟨o,_,_,g,_⟩
  .rw[f0]at z;cases z
  .rw[f0]at z;cases z
  .exact c o g
theorem Inv.turned4(I:Inv X ab2 U H s)(p:∀b∈fp,kO X ab2 H b)(k:∀b o,b∉fp->s.heap.get? b=ap o->h'.get? b=ap o):Inv X ab2 U H { s with heap:=h',toks:=t' }:=by
 have g:∀b u,H b=ap u->b∉fp:=λb u e z=>by have:=(p b z).1;simp_all
 refine I.step (λb y=>?_) (λb o _ _ f e _=>k b o f e) (λb o _ _ f e _=>#[_,k b o f e]) (λ_ _ _ _ n=>n)
  (λb o f e=>#[o,k b o f e]) (λ_ _ e=>e) (λ_ _ _ e=>e) (λb M e=>#[(tX []),by rw[e];simp]) (λm B=>?_) (λb u e=>?_) I.bare
 .obtain⟨f0,f1,L,N,O,R⟩:=p b y
  trivial
 .obtain⟨o,C,G,J,r⟩:=B
  exact#[o,C,G,k _ o (λz=>(p _ z).2.1 rfl) J,r]
 refine (I.hok b u e).stay (λc v f q=>k c v ?_ q) (λ_ q=>q) λ_ _ q=>q;rcases f with z|z
 .rw[z];exact g b u e
 exact g c _ z
theorem Inv.turnedNew(I:Inv X ab2 U H s)(J:∀b∈fp,kO X ab2 H b)(k:∀b o,b∉fp->s.heap.get? b=ap o->h'.get? b=ap o)(hlt:∀b∈fp,∃o,s.heap.get? b=ap o)(hlv:∀b∈fp,∃o,h'.get? b=ap o)(hT:h'.get? s.heap.objs.size=ap y)(M:y.cls=.type "tuple")(L:∃n,y.data=.seq us.toArray n)(r:Vals zs us)(G:y.dict=ay)(hz:zs.length<=sizeLine):Inv X ab2 U (upd H s.heap.objs.size<|.tup zs) { s with heap:=h',toks:=t' }:=by
 have f:H s.heap.objs.size=none:=I.hok.fresh (UQ _);have p:∀b u,H b=ap u->b∉fp:=λb u e z=>by have:=(J b z).1;rw[e]at this;cases this
 refine I.step (g':=s.gens) (d':=s.drawn) (ch:=fp) (λb B=>?_) (λb o _ _ g e _=>k b o g e) (λb o _ _ g e _=>#[o.slots,k b o g e]) (λb o _ e n=>by rw[aM (UT<|UD e)];exact n)
  (λb o g e=>#[o,k b o g e]) (λb C e=>by rw[aM (bo e f)];exact e) (λb o u e=>by rw[aM (bo e f)];exact e) (λb ps e=>#[(tX []),by rw[aM (bo e f),e];simp]) (λm N=>?_) (λb u e=>?_) I.bare
 .obtain⟨f0,f1,f2,Y,f4,f5⟩:=J b B
  exact#[Y,f1,f4,f5]
 .obtain⟨o,R,W,Z,r⟩:=N
  exact#[o,R,W,k _ o (λz=>(J _ z).2.1 rfl) Z,r]
 .by_cases B:b=s.heap.objs.size
  .subst B
   rw[upd_same]at e;cases e;obtain⟨n,O⟩:=L;exact#[hz,us,r,#[y,hT,#[M,n,O],G]]
  .rw[aM B]at e
   refine (I.hok b u e).stay (λc v g q=>k c v ?_ q) (λc q=>by rw[aM (bo q f)];exact q) λc C q=>by rw[aM (bo q f)];exact q
   rcases g with z|z
   .rw[z];exact p b u e
   .exact p c _ z
noncomputable def x_(h:h9)(l:eg)(k:Nat):Option Value:=match h.get? l with
 |some o=>match o.data with
  |.seq xs _=>xs[k]?
  |_=>ay
 |_=>ay
theorem k6(q:SrcSq b h l xs)(k:Nat):xs[k]?=x_ h l k:=by
 have:∃o n,h.get? l=ap o/\o.data=.seq xs n:=by
  cases b with
  |true=>obtain⟨o,e,c,n,d⟩:=q;exact#[o,n,e,d]
  |false=>obtain⟨o,e,c,n,d⟩:=q;exact#[o,n,e,d]
 obtain⟨o,n,e,d⟩:=this;simp[x_,e,d]
noncomputable def Uu(K:UE)(L:List (Bool×eg)):It:=
 #[λi H=>∀p∈L,∃xs x,o_ K p.1 H p.2 xs/\xs[i]?=ap x,
  λi H v H'=>∃T zs,H T=ay/\v=.ref T/\H'=upd H T (.tup zs)/\zs.length=L.length/\∀(j:Nat)(p:Bool×eg),L[j]?=ap p->∀xs,o_ K p.1 H p.2 xs->xs[i]?=zs[j]?,
  λi H=>(∀p∈L,∃xs,o_ K p.1 H p.2 xs)/\∃p∈L,∃xs,o_ K p.1 H p.2 xs/\xs.length<=i]
structure ZTn(z TI TO:eg)(S:List ZS)(i:Nat)(h:h9):Prop where
 hz:abo h z TI TO .none
 hTI:jk h TI (S.map λt=>.ref t.i)
 hTO:∃vs:List ax,vs.length=S.length/\jk h TO vs
 st:J4 S i h
theorem ZTn.obj{TI TO:eg}(q:ZTn z TI TO S i h):∀b∈qv z TI TO S,∃o,h.get? b=ap o/\∀v,o.data≠.cell v:=λb c=>by
 obtain⟨f,_,e⟩:=q.hTO;simp at c;rcases c with rfl|rfl|rfl|⟨t,ht,rfl⟩
 .exact#[_,q.hz,λv q=>nomatch q]
 .exact#[_,q.hTI,λv q=>nomatch q]
 .exact#[_,e,λv q=>nomatch q]
 exact(q.st t ht).lt
theorem ZTn.keep{TI TO:eg}(q:ZTn z TI TO S i h)(k:∀b∈qv z TI TO S,∀o,h.get? b=ap o->h'.get? b=ap o):ZTn z TI TO S i h':=by
 obtain⟨f,l,e⟩:=q.hTO;exact#[k z (by simp) _ q.hz,k TI (by simp) _ q.hTI,#[f,l,k TO (by simp) _ e],λt c=>(q.st t c).keep λo e=>k _ (by simp[Va c]) o e]
theorem vm{s:ez}{i:Nat}(I:Inv X ab2 U H s):∀(S:List ZS)(us:aca),us.map ap=S.map (λt=>x_ s.heap t.l i)->(∀t∈S,∃xs x,o_ X.K t.b H t.l xs/\xs[i]?=ap x)->
  ∃zs,Vals zs us/\zs.length=S.length/\∀(j:Nat)(p:Bool×eg),(S.map λt=>(t.b,t.l))[j]?=ap p->∀xs,o_ X.K p.1 H p.2 xs->xs[i]?=zs[j]?
 |[],[],_,_=>#[[],.nil,rfl,λj p e=>by simp at e]
 |[],_::_,e,_=>by simp at e
 |_::_,[],e,_=>by simp at e
 |t::S,u::us,e,h=>by
  simp at e;obtain⟨zs,r,l,g⟩:=vm I S us e.2 λt' ht=>h t' (.tail _ ht);obtain⟨xs,x,q,hx⟩:=h t (.head _);obtain⟨ab8,rv,sq,z⟩:=I.src q;obtain⟨u',hu,ru⟩:=rv.get hx;have e1:ap u=ap u':=by rw[e.1,<- k6 sq i];simp_all
  cases e1;refine#[_,.cons ru r,by simp[l],λj p ej ys hy=>?_]
  cases j with
  |zero=>
   simp at ej;subst ej;rw[I.src_inj hy q];trivial
  |succ j=>exact g j p (by trivial) ys hy
theorem rf{f:α->eg}:∀{L:List α}{us:aca},Vals (L.map λp=>.ref (f p)) us->us=L.map λp=>.ref (f p):=by
 intro L
 induction L with
 |nil=>intro us h;cases h;rfl
 |cons p L ih=>
  intro us h;cases h with
  |cons r t=>cases r;rw[UG,ih t]
theorem Ev{TI TO:eg}(D:ZOk z TI TO S):
  Turn P w K (.Tuple elts x1 tp) (Uu K (S.map λt=>(t.b,t.l))) (qv z TI TO S) z (ZTn z TI TO S) where
 mem:=.head _
 obj:=λi h st=>st.obj
 keep:=λi h h' st k=>st.keep k
 item:=by
  intro X hP W hK Y i ab2 s U H E I N st y;subst hP W hK
  replace y:∀t∈S,∃G x,o_ X.K t.b H t.l G/\G[i]?=ap x:=λt m=>y _ (Va m)
  have fits:∀t∈S,∃c x,SrcSq t.b _ t.l c/\c[i]?=ap x:=λt m=>by
   obtain⟨G,x,q,O⟩:=y t m;obtain⟨c,R,sq,_⟩:=I.src q;obtain⟨u,hu,_⟩:=R.get O;exact#[_,u,sq,by simp_all]
  refine nT (F:=λt=>x_ s.heap t.l i) (I.ok.hd Y) D st.hz (.inl #[rfl,rfl,st.hTO]) st.hTI st.st (λt m=>?_) (λh' us v hzz a3 a4 L=>?_) λh' ⟨t,m,eo⟩ _=>?_
  .obtain⟨c,x,sq,_⟩:=fits t m
   exact#[c,sq,k6 sq i]
  .obtain⟨_,a1,a2⟩|⟨n,_⟩:=hzz
   case inr=>trivial
   refine#[_,rfl,wpAny_letOwnedTupleGo_zip a1 λB C g=>?_];obtain⟨zs,rz,lz,gz⟩:=vm I S us v y;have zl:=UD st.hz;have kk:∀b o,b∉qv z TI TO S->s.heap.get? b=ap o->B.get? b=ap o:=λb o r e=>by
    simp only[UK,not_or]at r;exact g.extBut b o r.1 (L b o (by simp only[UK,not_or];exact#[r.1,r.2.2.1,r.2.2.2]) e)
   obtain⟨M,Z,TITO,ni⟩:=pQ D;have hT:B.get? _=ap _:=g.extBut _ _ (Ww zl) a4;have J:ZTn z TI TO S (i+1) B:=by
    refine#[C,g.extBut _ _ M.symm (L _ _ ?_ st.hTI),#[us,?_,g.extBut _ _ Z.symm a2],λt m=>(a3 t m).keep λo e=>g.extBut _ o (ni t m).1 e]
    .simp
     exact#[M.symm,TITO,λt m=>(ni t m).2.1]
    have:=congrArg V8 v;simpa using this
   refine#[.ref _,_,I.turnedNew N kk (λb r=>let ⟨o,e,_⟩:=st.obj b r;#[o,e]) (λb r=>let ⟨o,e,_⟩:=J.obj b r;#[o,e]) hT rfl #[_,rfl] rz rfl (by rw[lz];exact UL D.few (by decide)),rfl,#[_,zs,I.hok.fresh (UQ _),rfl,rfl,by simp_all,gz],J,λb r=>?_]
   obtain⟨o,e,_⟩:=st.obj b r;rw[aM (UT<|UD e)];exact(N b r).1
  obtain⟨c,x,sq,O⟩:=fits t m;rw[k6 sq i]at O;rw[O]at eo;cases eo
 done:=by
  intro X hP W hK Y i ab2 s U H E I N st y;subst hP W hK;refine nT (F:=λt=>x_ s.heap t.l i) (I.ok.hd Y) D st.hz (.inl #[rfl,rfl,st.hTO]) st.hTI st.st (λt m=>?_) (λh' us v _ a3 a4 L=>?_) λh' _ L=>#[rfl,I.turned4 N λb o r e=>L b o (λx=>r ?_) e]
  .obtain⟨G,q⟩:=y.1 _ (Va m)
   obtain⟨c,R,sq,_⟩:=I.src q;exact#[_,sq,k6 sq i]
  .obtain⟨p,hp,G,q,hle⟩:=y.2
   obtain⟨t,m,rfl⟩:=UR.1 hp;obtain⟨c,R,sq,_⟩:=I.src q;have hl:=R.length;have:x_ s.heap t.l i∈us.map some:=by rw[v];exact Va (f:=λt:ZS=>x_ s.heap t.l i) m
   rw[<- (k6 sq i),List.getElem?_toArray,VT (by lia)]at this
   simp at this
  simp only[qv,UK]at x ⊢;rcases x with x|x|x
  .exact .inl x
  .exact .inr (.inr<|.inl x)
  .exact .inr (.inr<|.inr x)
 self:=λ_ _ _ _ _ st h=>abi st.hz h
def Ur(K:UE)(t:TA):TI:=λU H R=>t U H λc H1=>∃L:List (Bool×eg),(L.length=2\/L.length=3)/\c=L.map (λp=>.ref p.2)/\(∀p∈L,∃xs,o_ K p.1 H1 p.2 xs)/\R (Uu K L) H1
theorem LK{a:f'}(N:Gl X "zip")(O:X.mg "zip"=ay)(Y:PA X (a::as) m)(W:eH (a::as) X.env=(eC,g3 a X.env)::eH as X.env:=by rfl)(hs2:(PySem.backTo pos<|starEach as X.env).any (·.1)=false:=by rfl):
  PI X (.Tuple elts x1 tp) (.Call (.Name "zip" p) (a::as) [] pos) (Ur X.K m):=by
 intro ab2 s U H R I h;refine Call_ (dZ I N O (by rfl)<|Vi (bE (Y _ _ s U H _ I h) λus s1 G=>?_) W hs2)
 obtain⟨vs,H1,I1,u,M⟩:=G;obtain⟨L,r,rfl,v,q⟩:=M;cases rf u;refine qD r (λp y=>?_) λh' z TI TO S C D g e f B hb J=>?_
 .obtain⟨Z,q⟩:=v p y
  obtain⟨o,_,sq,_⟩:=I1.src q;exact#[_,sq]
 refine abi g ?_;subst C;exact#[z,_,_,_,H1,rfl,I1.kept J,Ev D,#[g,e,#[_,by rw[UA],f],B],λb c=>I1.fpOk (hb b c) (I1.hok.fresh<|hb b c),q]
noncomputable def Ite(K:UE)(b:Bool)(l:eg):It:=
 #[λi H=>∃xs x,o_ K b H l xs/\xs[i]?=ap x,
  λi H v H'=>∃T x,H T=ay/\v=.ref T/\H'=upd H T (.tup [.int i,x])/\(∀xs,o_ K b H l xs->xs[i]?=ap x),
  λi H=>∃xs,o_ K b H l xs/\xs.length<=i]
theorem Draws.src(y:A.handled=ay)(b:Bool)(it l:eg)(m:l≠it)(items:aci):
  Draws prog w A it [it,l] items.size (λi v=>items[i]?=ap v) (λi h=>SrcTn b it l i h/\SrcSq b h l items) where
 live:=λ_ _ c=>let ⟨o,ho,_⟩:=c.1.lt;#[o,ho]
 frame:=λ_ _ _ c q=>#[c.1.keep λo e=>q it (by simp) o e,c.2.keep λo e=>q l (by simp) o e]
 item:=λi s Q E p c r=>by
  exact gk c.1 c.2 (x:=items[i]) (by simp[p]) λh' g f=>r _ h' _ (by simp[p]) #[g,c.2.keep λo e=>f.extBut _ o m e] f
 done:=λs Q E c u=>d_ y c.1 c.2 (by simp) u
theorem yG(b:Bool)(l:eg)(items:aci):
  Meets (Builtin.«enumerate.__new__» #[[.type "enumerate",.ref l],[]]) (λ_ R s=>SrcSq b s.heap l items/\
   R (.ok<|.ret<|.ref (s.heap.push { cls:=.type (jn b),data:=.fields (tX [.ref l,.int 0 0]) }).objs.size)
    { s with heap:=(s.heap.push { cls:=.type (jn b),data:=.fields (tX [.ref l,.int 0 0]) }).push { cls:=.type "enumerate",data:=.fields (tX [.none,.bool eC,.ref s.heap.objs.size,z5 0,.none,.none]) } }):=
 .of_wp λprog w A R s h=>by
  obtain⟨p,g,d,o,q⟩:=s;obtain⟨m,h⟩:=h;have f:=sub_enumerate;have e:SrcSq b (Shared.heap #[p,g,d,o,q]) l items:=m
  wp_walk
  refine wpAny_stack_any λr=>eX ?_
  split
  .rename_i c _ _ _ _ _
   cases (c==Xa "enumerate")
   .wp_walk using g4 e
    exact#[_,rfl,h]
   .wp_walk using g4 e
    exact#[_,rfl,h]
  .wp_walk using g4 e
   exact#[_,rfl,h]
theorem EB(f:SrcSq b s.heap l items)(h:∀h',IsEnum h' (s.heap.objs.size+1) s.heap.objs.size 0 .none->SrcTn b s.heap.objs.size l 0 h'->h'.objs.size=s.heap.objs.size+2->
   (∀b o,s.heap.get? b=ap o->h'.get? b=ap o)->Q (.ref (s.heap.objs.size+1)) { s with heap:=h' }):
  eS (fv prog w) A (call (.type "enumerate") [.ref l]) Q E s:=by
 refine abS F.called_enumerate (by decide) (F.typeCall_enumerate_1 _) (F.newCall_enumerate_1 _) (λobj=>F.args_object_init_2 _ _) F.entry_enumerate_new (yG b l _) #[f,?_]
 have c:(s.heap.push { cls:=.type (jn b),data:=.fields (tX [.ref l,.int 0 0]) }).objs.size=s.heap.objs.size+1:=Vw ..;rw[c]
 have e:IsEnum ((s.heap.push { cls:=.type (jn b),data:=.fields (tX [.ref l,.int 0 0]) }).push
   { cls:=.type "enumerate",data:=.fields (tX [.none,.bool eC,.ref s.heap.objs.size,z5 0,.none,.none]) }) (s.heap.objs.size+1) s.heap.objs.size 0 .none:=by
  have:=UI (s.heap.push { cls:=.type (jn b),data:=.fields (tX [.ref l,.int 0 0]) })
   (o:={ cls:=.type "enumerate",data:=.fields (tX [.none,.bool eC,.ref s.heap.objs.size,z5 0,.none,.none]) }) rfl
  rw[c]at this;exact this
 refine#[#[_,e,rfl],h _ e (B_<|UB _<|UI _ rfl) (by rw[Vw,c]) λb o x=>UB _ (UB _ x)]
theorem EM(b:Bool)(l e it:eg)(L:e≠it):
  Turn P w K (.Tuple elts x1 tp) (Ite K b l) [e,it] e (λi h=>(∃m,IsEnum h e it i m)/\SrcTn b it l i h) where
 mem:=by simp
 obj:=λi h C c g=>by
  obtain⟨⟨m,p⟩,G⟩:=C;have f:c=e\/c=it:=by simp_all
  rcases f with q|q<;>subst q
  .simp_all
  exact G.lt
 keep:=λi h h' C k=>by
  obtain⟨⟨m,p⟩,G⟩:=C;exact#[#[m,k e (by simp) _ p],G.keep λo q=>k it (by simp) o q]
 item:=by
  intro X hP hw hK g i ab2 s U H E I M C hg;subst hP hw hK;obtain⟨xs,x,N,Y⟩:=hg;obtain⟨⟨m,p⟩,G⟩:=C;obtain⟨B,r,sq,z1⟩:=I.src N;obtain⟨u,hu,ru⟩:=r.get Y;have hle:=I.src_ne N (M e<|by simp)
  have hli:=I.src_ne N (M it<|by simp)
  have hil:i<B.toArray.size:=by
   rw[US,<- r.length];exact(Ve.mp Y).1
  have D:Draws X.prog X.w X.A.in1 it [it,l] _ _ _:=Draws.src (A:=X.A.in1) (I.ok.hd g) b it l hli B.toArray;refine wpAny_pyNext_enum_itemD D p #[G,sq] hil L (by simp[L,Vb hle]) λv h' tk hv ho Z W hsz hk=>?_
  have ev:v=u:=by
   have hu':B.toArray[i]?=ap u:=by simpa using hu
   rw[hu']at hv;exact(VG hv).symm
  subst ev;refine#[_,rfl,wpAny_letOwnedTupleGo_enum ho λJ O y=>?_];have hes:=UT (UD p);have n1:=Z.1.keep λo q=>y.extBut _ o L.symm q;have kk:∀c o,c∉[e,it]->s.heap.get? c=ap o->J.get? c=ap o:=λc o g q=>
   y.extBut c o (λz=>g (by simp[z])) (hk c o (λz=>g (by simp[z])) (λz=>g (by simp[z])) q)
  have hT':J.get? _=ap _:=y.extBut _ _ hes.symm W;have lv:∀c∈[e,it],∃o,s.heap.get? c=ap o:=λc g=>by
   have f:c=e\/c=it:=by simp_all
   rcases f with q|q<;>subst q
   .exact#[_,p]
   obtain⟨o,q,_⟩:=G.lt;exact#[o,q]
  have lv':∀c∈[e,it],∃o,J.get? c=ap o:=λc g=>by
   have f:c=e\/c=it:=by simp_all
   rcases f with q|q<;>subst q
   .exact#[_,O]
   obtain⟨o,q,_⟩:=n1.lt;exact#[o,q]
  have hTn:=I.hok.fresh (UQ _);refine#[.ref _,_,I.turnedNew (s:=s) (zs:=[.int i,x]) M kk lv lv' hT' rfl #[_,rfl] (.cons #[tk,rfl]<|.cons ru .nil) rfl (by show 2<=sizeLine;decide),rfl,#[_,x,hTn,rfl,rfl,λzs R=>?_],#[#[v,by assumption],n1],λc g=>?_]
  .rw[I.src_inj R N];exact Y
  obtain⟨o,q⟩:=lv c g;rw[aM (UT<|UD q)];exact(M c g).1
 done:=by
  intro X hP hw hK g i ab2 s U H E I M C hg;subst hP hw hK;obtain⟨xs,N,Y⟩:=hg;obtain⟨⟨m,p⟩,G⟩:=C;obtain⟨B,r,sq,z1⟩:=I.src N;have W:s.TypeIs (.ref e) _:=#[_,p,rfl];have hl:=r.length
  refine cT (z6 (wpAny_callSpecial?_slot W ZA
   (l' ZA W F.entry_enumerate_next ?_<|F.args_enumerate_next_1 _)))
  show eS _ _ (field (.ref e) 2 >>= _) _ _ _;refine cT (k' p rfl rfl ?_);refine cT (d_ (I.ok.hd g) G sq (by simp;lia) λh' x he' hx'=>?_)
  obtain⟨o,ho,hcl⟩:=hx';exact cT (V_ (T:="StopIteration") (b:=true) #[o,ho,hcl] abt<|wpAny_pure #[rfl,I.turned4 (t':=s.toks) M λc o' f q=>he' c o' (λz=>f (by simp[z])) q])
 self:=λ_ _ _ _ _ C h=>let ⟨⟨_,p⟩,_⟩:=C;wpAny_pyIter_enum p h
theorem wV:bH X (.builtin "isinstance") (λxs H Q=>∃x T t b,xs=[x,.ty T]/\TyOf X.K H x t/\XJ X.K t (.type T)=ap b/\Q (.bl b) H):=by
 rintro ab2 s U H xs us Q I r ⟨x,T,t,b,rfl,ty,e,q⟩
 obtain⟨u,c,rfl,f,m⟩:=r.two;obtain rfl:c=Xa T:=m;exact DB I f ty e λg=>#[.bl b,H,I.tok g,rfl,q]
theorem Gf(hc:X.calm=true):bH X (.builtin "all") (λxs H Q=>∃(l:eg)(bs:List Bool),xs=[.ref l]/\SqL X.K H l (bs.map V.bl)/\Q (.bl<|bs.all id) H):=by
 rintro ab2 s U H xs us Q I r ⟨l,bs,rfl,N,q⟩
 obtain⟨u,rfl,Z⟩:=r.one;cases Z;obtain⟨f,L,p,hz⟩:=I.list N;have hl:=L.length;have G:l<s.heap.objs.size:=by obtain⟨o,e,_⟩:=p.isList;exact UD e
 have val:∀(i:Nat)(v:ax),f.toArray[i]?=ap v->∃c,bs[i]?=ap c/\v=.bool c:=λi v M=>by
  have y:f[i]?=ap v:=by simp_all
  have g:i<bs.length:=by
   have:=(Ve.mp y).1
   simp_all
  obtain⟨w',J,R⟩:=L.get (by rw[UH,UC g];rfl)
  rw[y]at J;cases J;exact#[_,UC g,R]
 have C:f.toArray.size=bs.length:=by simp_all
 refine call_all_walk (w6 p.isList #[_,_,_,_,_,_,λi=>bs.getD i eC,rfl,Walks.list (A:=X.A.in1) (I.ok.hd hc) _ l (UT G) _,#[#[_,UI _ rfl,rfl,rfl],p.isList.push _],λi v s' Q' E' M Y=>?_,λh' O W=>?_])
 .obtain⟨c,J,rfl⟩:=val i v M
  refine vr ?_
  simp_all
 have e:(Vu f.toArray.size).all (λi=>bs.getD i eC)=bs.all id:=by
  rw[C,Bool.eq_iff_iff,List.all_eq_true,List.all_eq_true];constructor
  .intro h b B
   obtain⟨i,g,rfl⟩:=List.mem_iff_getElem.mp B;have:=h i (Wc.mpr g)
   rwa [Xf,UC g]at this
  .intro h i g
   have m:=Wc.mp g;rw[Xf,UC m];exact h _ (Yq m)
 rw[e];refine#[.bl (bs.all id),H,?_,rfl,q];exact I.kept (t':=O) λb o B=>W b o (by simp;exact UT (UD B)) (UB _ B)
theorem lb:z4 (.type "zip") "__getattr__"=pure none:=by rfl
theorem eP:abe table "dict.update.loop"=ap Builtin.«dict.update.loop»:=entryFor_of_fast (by kernel_rfl)
theorem ce:plainId "dict.update.loop"=true:=by decide +kernel
theorem pf(a TI TO:eg)(f0:ax)(f1:Bool)(c:Str)(u:Tok)(m:z4 (.type "zip") c=pure ay)(e:(["__module__","__name__","__qualname__","__doc__","__annotations__"]:ab').contains c=eC)(hsz:c.length+100<=sizeLine:=by size_fits):
  Meets (Builtin.«object.__getattribute__» #[[.ref a,.str c u],[]]) (λA R s=>qB s.heap a TI TO f0 f1/\raisesAttr (.ref a) c A R s):=
 Meets.of_wp λprog w A R s f=>by
  obtain⟨p,g,d,o,r⟩:=s;obtain⟨q,f⟩:=f;have v:(#[p,g,d,o,r]:ez).TypeIs (.ref a) "zip":=#[_,q,rfl]
  repeat (any_goals (first|assumption|wp_step))
  simp only[e,Vj,if_false]
  repeat (any_goals (first|assumption|wp_step))
  exact wpAny_raiseAttrError f.1 f.2 (attrMsg_fits (by decide +kernel) hsz)
theorem qj{TI TO:eg}(p:qB s.heap a TI TO f0 f1)(y:A.handled=ay)(h:∀h' q,(∀b o,s.heap.get? b=ap o->h'.get? b=ap o)->Q ay { s with heap:=h',toks:=q }):eS (fv prog w) A (Wp (.ref a) "keys") Q E s:=by
 obtain⟨r,g,d,q,v⟩:=s;have m:∀c,(#[r,g,d,c,v]:ez).TypeIs (.ref a) "zip":=λ_=>#[_,p,rfl];have u:=sub_AttributeError;have L:=XM.lookup;have I:=XM.bind (.ref a);have J:=lb;unfold Wp getAttrBy? getAttrBy
 repeat (any_goals (first|assumption|exact m _|((with_reducible show eS _ _ (call (Value.builtin "zip.__getattribute__") _ _) _ _ _);refine ot XM (m _) ( entryFor_alias (id':="object.__getattribute__") (by kernel_rfl) (by decide +kernel) (by decide +kernel) (by kernel_rfl)) (F.args_zip_getattribute_2 _ _) (pf a TI TO f0 f1 "keys" _ (by rfl) (by decide +kernel)<|by decide +kernel) #[p,y,λh' c e f=>?_])|wp_step))
 obtain⟨B,C,G⟩:=f.there;show eS _ _ (L' _ _ _ _ _ _ _) _ _ _;unfold L'
 repeat (any_goals (first|assumption|wp_step))
 exact h _ _ f.keeps
def yF(h:h9)(T:eg)(k v:ax):Prop:=∃o n,h.get? T=ap o/\o.cls=.type "tuple"/\o.data=.seq (tX [k,v]) n
structure PSrc(prog:fx)(w:hB)(d it:eg)(ps:List (ax×ax))(fp:acb)(St:Nat->h9->Prop):Prop where
 off:d∉fp
 stay:∀i h h',St i h->(∀b o,b≠d->h.get? b=ap o->h'.get? b=ap o)->St i h'
 item:∀(A:gx)(i:Nat)(hi:i<ps.length)(s:ez)(Q:Option ax->ez->Prop)(E:acf),A.handled=ay->d<s.heap.objs.size->St i s.heap->
  (∀h' T,St (i+1) h'->yF h' T ps[i].1 ps[i].2->(∀c o,c∉fp->s.heap.get? c=ap o->h'.get? c=ap o)->Q (ap<|.ref T) { s with heap:=h' })->eS (fv prog w) A (U'<|.ref it) Q E s
 done:∀(A:gx)(s:ez)(Q:Option ax->ez->Prop)(E:acf),A.handled=ay->St ps.length s.heap->(∀h',(∀c o,c∉fp->s.heap.get? c=ap o->h'.get? c=ap o)->Q ay { s with heap:=h' })->eS (fv prog w) A (U'<|.ref it) Q E s
theorem yY{St:Nat->h9->Prop}(Z:A.handled=ay)(C:PSrc prog w d it f fp St)(P:Nat->h9->Prop)(Pd:∀i h,P i h->∃o,h.get? d=ap o)(stay:∀i h h',P i h->(∀b o,b∉fp->h.get? b=ap o->h'.get? b=ap o)->P i h')(step:∀(i:Nat)(Y:i<f.length)(s:ez)(Q:Unit->ez->Prop)(E:acf),P i s.heap->(∀h' u,P (i+1) h'->VV d s.heap h'->Q () { s with heap:=h',toks:=u })->eS (fv prog w) A.in1 (dictSet d f[i].1 f[i].2) Q E s):
  ∀(n i:Nat)(s:ez),n=f.length-i->i<=f.length->St i s.heap->P i s.heap->
   (∀p:ez,p.os=s.os->p.gens=s.gens->p.drawn=s.drawn->P f.length p.heap->(∀c o,c∉fp->c≠d->s.heap.get? c=ap o->p.heap.get? c=ap o)->R (.ok<|.ret .none) p)->
   ∀u:Nat,y' (fv prog w) A (.builtin "dict.update.loop" #[[.ref d,.ref it,z5 u,.none],[]]) R s:=by
 intro n
 induction n with
 |zero=>
  intro i s hn Y q G hR u;have N:i=f.length:=by lia
  subst N;refine abp eP ?_;rw[Zc ce _];show eS _ A.in1 (U' (.ref it) >>= _) _ _ s;refine cT (C.done A.in1 s _ _ Z q λh' y=>?_);exact cT (m:=Builtin.Dict.addKeywords d []) (eX<|wpAny_pure (hR _ rfl rfl rfl (stay _ _ _ G y) λc o B M e=>y c o B e))
 |succ n ih=>
  intro i s hn Y q G hR u;have r:i<f.length:=by lia
  obtain⟨od,hd⟩:=Pd _ _ G;refine abp eP ?_;rw[Zc ce _];show eS _ A.in1 (U' (.ref it) >>= _) _ _ s;refine cT (C.item A.in1 i r s _ _ Z (UD hd) q λh' T v ⟨oT,m,W,e2,e3⟩ k1=>?_);have I:({ s with heap:=h' }:ez).TypeIs (.ref T) "tuple":=#[_,W,e2];refine cT (ol<|wpAny_bind<|wpAny_tryCatch ?_);unfold Builtin.Dict.pairItems;refine cT (abd I ?_);rw[if_pos (by decide)]
  refine cT (wh (s:={ s with heap:=h' }) W e3<|wpAny_pure ?_);show eS _ _ (py [f[i].1,f[i].2]<|dictSet d f[i].1 f[i].2) _ _ _;refine ol (step i r { s with heap:=h' } _ _ (stay i _ _ G k1) λO L J g=>eX #[plainId_quiet ce _,?_]);exact ih (i+1) { s with heap:=O,toks:=L } (by lia) r (C.stay _ _ _ v λb o hb e=>g.extBut b o hb e) J (λp q1 q2 q3 q4 q5=>hR p q1 q2 q3 q4 λc o B M e=>q5 c o B M (g.extBut c o M<|k1 c o B e)) (u+1)
namespace F
theorem vJ:mroOf (.type "dict")=pure [.type "dict",.type "object"]:=by rfl
theorem F0:z4 (.type "dict") "__new__"=pure (ap<|.builtin "dict.__new__"):=by rfl
theorem called_dict:TypeCalled "dict" "dict.__new__" "dict.__init__":=
 #[by rfl,by rfl,#[_,_,vJ],madeBy_type vJ (by trivial) (by decide +kernel),by decide +kernel,by rfl,PySem.F.slot_dict_init]
theorem typeCall_dict_1(a:ax):aa_ "dict" #[[a],[]]=pure ():=by kernel_rfl
theorem newCall_dict_1(a:ax):ss "dict.__new__" #[[.type "dict",a],[]]=pure ():=by kernel_rfl
theorem entry_dict_new:abe table "dict.__new__"=ap Builtin.«dict.__new__»:=entryFor_of_tree (by kernel_rfl)
theorem plain_dict_new:plainId "dict.__new__"=true:=by decide +kernel
theorem sub_dict:isSubtype (.type "dict") (.type "dict")=pure true:=by rfl
end F
theorem qg(a:ax)(h:Q₁ (.ref s.heap.objs.size) { s with heap:=s.heap.push { cls:=.type "dict",data:=.dict (tX []) } }):
  y' (fv prog w) A (.call (.builtin "dict.__new__") #[[.type "dict",a],[]]) (wants Q₁ E) s:=by
 refine Z_ F.plain_dict_new F.entry_dict_new (ZB (F.newCall_dict_1 a) ?_);have c:=F.sub_dict
 wp_walk
 exact h
theorem yE{fq:acb}(I:A.handled=ay)(P:Nat->h9->Prop)(hT:∃o,s.heap.get? l=ap o/\o.cls=.type T)(ht:(Xa T != Xa "dict")=true)(keys:∀(A':gx)(s':ez)(Q:Option ax->ez->Prop)(E:acf),A'.handled=ay->(∀b o,s.heap.get? b=ap o->s'.heap.get? b=ap o)->(∀h' B,(∀b o,s'.heap.get? b=ap o->h'.get? b=ap o)->Q ay { s' with heap:=h',toks:=B })->eS (fv prog w) A' (Wp (.ref l) "keys") Q E s')(iter:∀(A':gx)(s':ez)(Q:acf)(E:acf),(∀b o,s.heap.get? b=ap o->s'.heap.get? b=ap o)->s.heap.objs.size<s'.heap.objs.size->
   (∀h' it fp St,(∀b o,s'.heap.get? b=ap o->h'.get? b=ap o)->PSrc prog w s.heap.objs.size it m fp St->St 0 h'->(∀b∈fp,b∈fq\/s.heap.objs.size<b)->Q (.ref it) { s' with heap:=h' })->eS (fv prog w) A' (abj<|.ref l) Q E s')(Pd:∀i h,P i h->∃o,h.get? s.heap.objs.size=ap o)(h0:∀h',(∀b o,s.heap.get? b=ap o->h'.get? b=ap o)->h'.get? s.heap.objs.size=ap { cls:=.type "dict",data:=.dict (tX []) }->P 0 h')(stay:∀i h h',P i h->(∀b o,b∉fq->b<=s.heap.objs.size->h.get? b=ap o->h'.get? b=ap o)->P i h')(step:∀(i:Nat)(hi:i<m.length)(s':ez)(Q:Unit->ez->Prop)(E:acf),P i s'.heap->(∀h' B,P (i+1) h'->VV s.heap.objs.size s'.heap h'->Q () { s' with heap:=h',toks:=B })->eS (fv prog w) A.in1.in1 (dictSet s.heap.objs.size m[i].1 m[i].2) Q E s')(h:∀s':ez,s'.os=s.os->s'.gens=s.gens->s'.drawn=s.drawn->P m.length s'.heap->(∀c o,c∉fq->s.heap.get? c=ap o->s'.heap.get? c=ap o)->Q (.ref s.heap.objs.size) s'):
  eS (fv prog w) A (call (.type "dict") [.ref l]) Q E s:=by
 refine callType_codes (Q₁:=λobj f=>obj=.ref s.heap.objs.size/\f={ s with heap:=s.heap.push { cls:=.type "dict",data:=.dict (tX []) } }) F.called_dict (F.typeCall_dict_1 _) PySem.F.entry_dict_init (qg _ #[rfl,rfl]) ?_
 rintro obj f ⟨rfl,rfl⟩
 have up:∀c o,s.heap.get? c=ap o->(s.heap.push { cls:=.type "dict",data:=.dict (tX []) }).get? c=ap o:=λc o e=>UB _ e;have g:(s.heap.push { cls:=.type "dict",data:=.dict (tX []) }).get? s.heap.objs.size=ap { cls:=.type "dict",data:=.dict (tX []) }:=UI _ rfl;have p:({ s with heap:=s.heap.push { cls:=.type "dict",data:=.dict (tX []) } }:ez).TypeIs (.ref s.heap.objs.size) "dict":=#[_,g,rfl];refine#[p,PySem.F.args_dict_init_2 _ _,?_];unfold Builtin.«dict.__init__» Builtin.Dict.selfAndRest;refine cT (cT<|wpAny_notOrdered_dict p<|wpAny_pure ?_);show eS _ _ (Yk "dict.__init__" s.heap.objs.size (.ref l) [] .none) _ _ _;unfold Yk;obtain⟨J,eT,N⟩:=hT;refine cT (abd (T:=T) #[J,up _ _ eT,N] ?_);rw[if_pos ht];refine cT (keys _ _ _ _ I up λv r hk₁=>?_);rw[if_pos (show (none:Option ax).isNone=true from rfl)];have u:=hk₁ _ _ g;refine cT (WP<|wpAny_bind (iter _ { s with heap:=v,toks:=r } _ _ (λc o e=>hk₁ c o (up c o e)) (UD u) λq it fp St k₂ C y G=>eX #[plainId_quiet ce _,?_]))
 exact yY (A:=A.in1) I C P Pd (λi h h' R M=>stay i h h' R λb o n le e=>M b o (λz=>(G b z).elim n λlt=>Yd.2 le lt) e) step m.length 0 { s with heap:=q,toks:=r } (by simp) (WM _) y (h0 _ (λb o e=>k₂ b o (hk₁ b o<|up b o e))<|k₂ _ _ u)
  (λs' Z O L W Y=>#[rfl,h s' Z O L W λc o n e=>Y c o (λz=>(G c z).elim n λlt=>Nat.lt_asymm lt (UD e)) (UT<|UD e) (k₂ c o<|hk₁ c o<|up c o e)]) 0
structure ZPr(z TI TO d:eg)(S:List ZS)(F:ZS->List ax)(i:Nat)(h:h9):Prop where
 hz:∃f0 f1,qB h z TI TO f0 f1/\(f0=.none/\f1=eC/\(∃vs:List ax,vs.length=S.length/\jk h TO vs)\/∃(T:eg)(oT:Obj),f0=z5 T/\h.get? T=ap oT/\T≠d/\T∉qv z TI TO S)
 hTI:jk h TI (S.map λt=>.ref t.i)
 st:J4 S i h
 sq:∀t∈S,SrcSq t.b h t.l (F t).toArray
theorem LH{TI TO:eg}{F:ZS->List ax}(D:ZOk z TI TO S)(R:S.map F=[xs,ys])(hd:d∉qv z TI TO S)(W:∀t∈S,t.l≠d)(len:xs.length=ys.length):
  PSrc prog w d z (xs.zip ys) (qv z TI TO S) (ZPr z TI TO d S F) where
 off:=hd
 stay:=λi h h' m k=>by
  have ne:∀b∈qv z TI TO S,b≠d:=λb q e=>hd (e▸q);obtain⟨⟨f0,f1,y,r⟩,g,m,sq⟩:=m;refine#[#[f0,f1,k _ _ (ne z<|by simp) y,?_],k _ _ (ne TI<|by simp) g,λt f=>(m t f).keep λo e=>k _ o (ne t.i<|by simp[Va f]) e,λt f=>(sq t f).keep λo e=>k _ o (W t f) e]
  rcases r with⟨a,b,Z,l,e⟩|⟨T,p,a,b,c,e⟩
  .exact .inl #[a,b,Z,l,k _ _ (ne TO<|by simp) e]
  .exact .inr #[T,p,a,k _ _ c b,c,e]
 item:=by
  intro A i hi s Q E C dl m I;obtain⟨⟨f0,f1,y,r⟩,g,m,sq⟩:=m;have hx:i<xs.length:=by rw[Yx]at hi;lia
  have hy:i<ys.length:=by lia
  obtain⟨O,zTO,TITO,ni⟩:=pQ D;have pr:∀us:List ax,us.map ap=S.map (λt=>(F t)[i]?)->us=[xs[i],ys[i]]:=λus e=>by
   have:S.map (λt=>(F t)[i]?)=(S.map F).map (·[i]?):=by rw[Vq];rfl
   rw[this,R]at e;rcases us with _|⟨u,_|⟨v,_|⟨_,_⟩⟩⟩<;>simp[hx,hy]at e ⊢
   exact e
  have no:∀t∈S,(F t)[i]?≠none:=λt f e=>by
   have:F t∈S.map F:=Va f;rw[R]at this;have W:(F t).length<=i:=Xm.1 e;simp at this;rcases this with e|e<;>rw[e]at W<;>lia
  have L:∀b∈qv z TI TO S,b<s.heap.objs.size\/b=TO:=λb q=>by
   simp at q;rcases q with rfl|rfl|rfl|⟨t,f,rfl⟩
   .exact .inl (UD y)
   .exact .inl (UD g)
   .exact .inr rfl
   .obtain⟨o,e,_⟩:=(m t f).lt
    exact .inl (UD e)
  have up:∀{c:eg},c∉qv z TI TO S->c∉z::TO::S.map ZS.i:=λn x=>n (by
   simp only[qv,UK]at x ⊢;exact x.imp id .inr)
  refine nT (F:=λt=>(F t)[i]?) C D y (r.imp id λ⟨T,p,a,b,_⟩=>#[T,p,a,b]) g m (λt f=>#[_,sq t f,by simp]) (λh' us e a J Y B=>?_) (by rintro h' ⟨t,f,eo⟩ _;exact absurd eo (no t f))
  have G:=λc o n=>B c o (up n);refine I h' _ #[?_,B _ _ ?_ g,J,λt f=>(sq t f).keep λo e=>G _ o (D.off t f) e] #[_,0,Y,rfl,by rw[pr us e];simp] G
  .rcases r with⟨rfl,rfl,Z,hv,N⟩|⟨T,p,rfl,hT',nd,nf⟩
   .obtain⟨_,M,_⟩|⟨n,_⟩:=a
    case inr=>exact absurd rfl n
    refine#[_,_,M,.inr #[_,_,rfl,Y,Ww dl,λq=>?_]];rcases L _ q with lt|e
    .exact Vs _ lt
    .exact Vs _ (e▸UD N)
   .obtain⟨n,_⟩|⟨_,M⟩:=a
    .cases n
    .exact#[_,_,M,.inr #[_,_,rfl,G _ _ nf hT',nd,nf]]
  .simp
   exact#[O.symm,TITO,λt f=>(ni t f).2.1]
 done:=by
  intro A s Q E C m I;obtain⟨⟨f0,f1,y,r⟩,g,m,sq⟩:=m;have no:∀us:List ax,us.map ap≠S.map (λt=>(F t)[(xs.zip ys).length]?):=λus e=>by
   have:S.map (λt=>(F t)[(xs.zip ys).length]?)=(S.map F).map (·[(xs.zip ys).length]?):=by rw[Vq];rfl
   rw[this,R]at e;rcases us with _|⟨u,us⟩<;>simp[len]at e
  refine nT C D y (r.imp id λ⟨T,p,a,b,_⟩=>#[T,p,a,b]) g m (λt f=>#[_,sq t f,by simp]) (λh' us e=>absurd e (no us)) λh' _ B=>I h' λc o n=>B c o λx=>n ?_
  simp only[qv,UK]at x ⊢;exact x.imp id .inr
theorem pc(a:Int)(t:Tok)(l:eg)(items:aci)(n:Nat)(dd:Option eg)(c:Array (Option ax)):
  Meets (Builtin.«int.__rmul__» #[[.int a t,.ref l],[]]) (λ_ R s=>s.heap.get? l=ap { cls:=.type "tuple",dict:=dd,data:=.seq items n,slots:=c }/\R (.ok<|.ret Value.notImplemented) s):=
 .of_wp λprog w A R s h=>by obtain⟨e,h⟩:=h;wp_walk;simp_all
theorem o9(l:eg)(items:aci)(n:Nat)(dd:Option eg)(G:Array (Option ax))(x:Int)(u:Tok)(Y:1<x)(B:x<=1000)(C:items.size<=1000)(q:items.isEmpty=eC):
  Meets (Builtin.«tuple.__mul__» #[[.ref l,.int x u],[]]) (λ_ R s=>s.heap.get? l=ap { cls:=.type "tuple",dict:=dd,data:=.seq items n,slots:=G }/\
   R (.ok<|.ret<|.ref s.heap.objs.size) { s with heap:=s.heap.push { cls:=.type "tuple",data:=.seq ((UX x.toNat items).foldl (·++·) (tX [])) } }):=
 .of_wp λprog w A R s h=>by
  obtain⟨M,g,d,N,L⟩:=s;obtain⟨m,h⟩:=h;have f1:=AutoSeq1.idx_int;have I:=AutoSeq1.sub_tuple_tuple;have r:(decide (x < -(2 ^ 63))||decide (x>=2 ^ 63))=false:=by simp;lia
  have v:(items.isEmpty||x==1)=false:=by rw[q];simp;lia
  have y:(decide (x<=0)||items.isEmpty)=false:=by rw[q];simp;lia
  have J:(items.size:Int)*x<=1000000:=by
   have W:(items.size:Int)*x<=1000*x:=Int.mul_le_mul_of_nonneg_right (by lia) (by lia)
   lia
  have p:¬((items.size:Int)*x>(2 ^ 63-1) / 8):=by lia
  have o:X4 ((items.size:Int)*x)=false:=by
   unfold X4;have:(1000000:Int)<=(sizeLine:Int):=by decide
   exact decide_eq_false (by lia)
  wp_walk using lN m
  try simp only[r,Vj,if_false]
  wp_walk using lN m
  try simp only[v,Vj,if_false]
  wp_walk using lN m
  try simp only[y,Vj,if_false]
  wp_walk using lN m
  rw[if_neg p];simp only[o,Vj,if_false];unfold Builtin.Tuple.tupleExact;have f:((UX x.toNat items).foldl (·++·) (tX [])).toList.length<=sizeLine:=by
   have e:∀(k:Nat)(c:aci),((UX k items).foldl (·++·) c).size=c.size+k*items.size:=by
    intro k
    induction k with
    |zero=>intro c;simp
    |succ k ih=>intro c;rw[Wa,V1,ih,Array.size_append,Nat.succ_mul];lia
   rw[W6,e];have:x.toNat*items.size<=1000*1000:=Xj (by lia) C
   have O:(1000*1000:Nat)<=sizeLine:=by decide
   simp only[US,V0]at *;lia
  refine cT (J' (eX #[_,rfl,?_]) f);simpa using h
theorem qh(l:eg)(items:aci)(n:Nat)(dd:Option eg)(e:Array (Option ax))(u:Tok):
  Meets (Builtin.«tuple.__mul__» #[[.ref l,.int 1 u],[]]) (λ_ R s=>s.heap.get? l=ap { cls:=.type "tuple",dict:=dd,data:=.seq items n,slots:=e }/\R (.ok<|.ret<|.ref l) s):=
 .of_wp λprog w A R s h=>by
  obtain⟨c,h⟩:=h
  wp_walk using lN c
  simp_all
theorem pb(l:eg)(items:aci)(n:Nat)(dd:Option eg)(m:Array (Option ax))(x:Int)(u:Tok)(p:x<=0)(g:-1000<=x)(f:items.isEmpty=eC):
  Meets (Builtin.«tuple.__mul__» #[[.ref l,.int x u],[]]) (λ_ R s=>s.heap.get? l=ap { cls:=.type "tuple",dict:=dd,data:=.seq items n,slots:=m }/\
   R (.ok<|.ret<|.ref s.heap.objs.size) { s with heap:=s.heap.push { cls:=.type "tuple",data:=.seq (tX []) } }):=
 .of_wp λprog w A R s h=>by
  obtain⟨c,h⟩:=h;have o:(decide (x < -(2 ^ 63))||decide (x>=2 ^ 63))=false:=by simp;lia
  have e:(items.isEmpty||x==1)=false:=by rw[f];simp;lia
  wp_walk using lN c
  try simp_all
  wp_walk using lN c
  try simp only[e,if_false]
  wp_walk using lN c
  simp_all
theorem Ds(M:s.heap.IsTuple l ab8.toArray)(W:ab8≠[])(J:0<=k)(L:k<=1000)(Y:ab8.length<=1000)(N:k=1->Q (.ref l) s)(I:k≠1->Q (.ref s.heap.objs.size) { s with heap:=s.heap.push { cls:=.type "tuple",data:=.seq (UX k.toNat ab8).flatten.toArray } }):
  eS (fv prog w) A (kc .Mult (.ref l)<|.int k u) Q E s:=by
 obtain⟨⟨cls,g,data,o⟩,e,v,n,r⟩:=M;subst v r;have q:ab8.toArray.isEmpty=false:=by simp_all
 refine wpAny_binaryOp_repeat_ref (by decide) #[_,e,rfl] (λG=>typeIs_int G k u) ( PySem.fillsNumberSlot_seq WK.lookup (by decide +kernel) rfl (by decide +kernel)) PySem.F.fills_int_mul YY (by
    rfl) rfl
  (ot YY rfl PySem.F.entry_int_rmul (PySem.F.args_int_rmul_2 _ _) (pc k u l _ n g o) #[e,rfl,#[_,e,rfl],?_])
 by_cases f:k=1
 .subst f
  exact ot WK #[_,e,rfl] Xo (Xh _ _) (qh l _ n g o u) #[e,N rfl]
 .have y:=I f
  by_cases p:k<=0
  .refine ot WK #[_,e,rfl] Xo (Xh _ _) (pb l _ n g o k u p (by lia) q) #[e,?_]
   have O:k.toNat=0:=by lia
   simp_all
  .refine ot WK #[_,e,rfl] Xo (Xh _ _) (o9 l _ n g o k u (by lia) L (by assumption) q) #[e,?_]
   have R:∀(m:Nat)(c:List _),List.foldl (λx1 C=>x1++C) c.toArray (UX m ab8.toArray)=(c++(UX m ab8).flatten).toArray:=by
    intro m
    induction m with
    |zero=>simp
    |succ m ih=>
     intro c;have B:c.toArray++ab8.toArray=(c++ab8).toArray:=by simp
     rw[Wa,V1,B,ih,Wa,List.flatten_cons,List.append_assoc]
   simp_all
theorem Hs:cQ X (kc .Add) (λx y H Q=>∃a b ys,x=.ref a/\y=.ref b/\lW X.K H a []/\lW X.K H b ys/\Q (.ref b) H):=by
 intro ab2 s U H x y v u Q I M O h;obtain⟨a,b,ys,rfl,rfl,R,Z,q⟩:=h;cases M;cases O;obtain⟨m,W,p1,_⟩:=I.tuple R;obtain⟨g,r2,Y,_⟩:=I.tuple Z;obtain rfl:m=[]:=W.zero;obtain⟨⟨cls,dd,J,sl⟩,L,C,n,B⟩:=id p1;obtain⟨⟨G,r,o,p⟩,c,f,N,e⟩:=id Y;simp only at C B f e;subst C B f e
 exact abR #[_,L,rfl] #[_,c,rfl] abk abB Xv Xp (Xi _ _)
  (tuple_addW0 a b (tX []) g.toArray n N dd r sl p rfl) #[L,c,#[.ref b,H,I,rfl,q]]
theorem I0{n:Nat}(e:n.log2<2000)(f:0<n):cQ X (kc .FloorDiv) (rI (λ_ j=>j=(n:Int)) λi j=>.int (i / j)):=RE λi j _ _ _ _ _ c q=>by
 subst c;refine floordiv_int (by lia) ?_ (.inl<|PyProof.noPylong_of_log2<|by simpa using Zk e (by decide))
 rw[Int.fdiv_eq_ediv_of_nonneg _ (by lia)]
 exact q
def Fb(K:UE)(b1 b2:Bool)(t:TA):TE:=λU H Q=>t U H λc H1=>∃(l1 l2:eg)(ks:List aI)(ys:List V),c=[.ref l1,.ref l2]/\o_ K b1 H1 l1 (ks.map kV)/\o_ K b2 H1 l2 ys/\ks.length=ys.length/\0<ks.length/\ks.length<=1000/\
 ∀d,H1 d=ay->Q (.ref d) (upd H1 d<|.dK<|(ks.zip ys).foldl (λa p=>fT a p.1 p.2) [])
theorem xK{k:aI}:(abb xs k u).length<=xs.length+1:=by
 unfold abb
 split
 .rw[UA];lia
 simp
theorem kJ:∀(rs xs:List (aI×ax)),(rs.foldl (λa r=>abb a r.1 r.2) xs).length<=xs.length+rs.length
 |[],xs=>by simp
 |r::rs,xs=>by
  have:=kJ rs (abb xs r.1 r.2);have:=xK (xs:=xs) (k:=r.1) (u:=r.2);rw[V1,UO];lia
theorem Dn:∀{ab4:List (aI×V)}{rs:List (aI×ax)},KV ab4 rs->∀{a:List (aI×V)}{xs:List (aI×ax)},KV a xs->KV (ab4.foldl (λa p=>fT a p.1 p.2) a) (rs.foldl (λa r=>abb a r.1 r.2) xs)
 |_,_,.nil,a,xs,h=>h
 |_,_,.cons h t,a,xs,h0=>by
  rw[V1,V1];refine Dn t ?_;rw[<- h.1];exact h0.put _ h.2
theorem pW{rs:List (aI×ax×ax)}{fq:acb}(hc:X.calm=true)(I:Inv X ab2 U H f)(o1:s.os=f.os)(o2:s.gens=f.gens)(o3:s.drawn=f.drawn)(k0:∀c o,f.heap.get? c=ap o->s.heap.get? c=ap o)(sz:f.heap.objs.size<=s.heap.objs.size)(y:∀b∈fq,f.heap.objs.size<=b/\b<s.heap.objs.size)(kv:KV ab4 (rs.map λr=>(r.1,r.2.2)))(m:∀r∈rs,(aV X.prog X.w).is r.1 r.2.1=true)(hz:rs.length<=1000000)(hT:∃o,s.heap.get? l=ap o/\o.cls=.type T)(ht:(Xa T != Xa "dict")=true)(keys:∀(A':gx)(s':ez)(Q:Option ax->ez->Prop)(E:acf),A'.handled=ay->(∀b o,s.heap.get? b=ap o->s'.heap.get? b=ap o)->(∀h' tk,(∀b o,s'.heap.get? b=ap o->h'.get? b=ap o)->Q ay { s' with heap:=h',toks:=tk })->eS (fv X.prog X.w) A' (Wp (.ref l) "keys") Q E s')(iter:∀(A':gx)(s':ez)(Q:acf)(E:acf),(∀b o,s.heap.get? b=ap o->s'.heap.get? b=ap o)->s.heap.objs.size<s'.heap.objs.size->
   (∀h' it fp St,(∀b o,s'.heap.get? b=ap o->h'.get? b=ap o)->PSrc X.prog X.w s.heap.objs.size it (rs.map λr=>(r.2.1,r.2.2)) fp St->St 0 h'->(∀b∈fp,b∈fq\/s.heap.objs.size<b)->Q (.ref it) { s' with heap:=h' })->eS (fv X.prog X.w) A' (abj<|.ref l) Q E s')(q:∀p,H p=ay->Q (.ref p) (upd H p<|.dK<|ab4.foldl (λa p=>fT a p.1 p.2) [])):
  eS (fv X.prog X.w) X.A (call (.type "dict") [.ref l]) (EP X ab2 U Q) X.xe s:=by
 refine yE (I.ok.hd hc) (λi h=>h.DictOf (aV X.prog X.w) _ (((rs.take i).map λr=>(r.1,r.2.2)).foldl (λa r=>abb a r.1 r.2) [])) hT ht keys iter (by rintro i h ⟨o,B,C,e,_⟩;exact#[o,e]) ?_ ?_ ?_ ?_
 .intro h' O hd
  obtain⟨o,B,C,G,r⟩:=Heap.DictOf.new (knd:=aV X.prog X.w) s.heap;rw[UI _ rfl]at G;cases G;exact#[_,B,C,hd,r]
 .rintro i h h' ⟨o,B,C,G,r⟩ L
  exact#[o,B,C,L _ o (λz=>Vs _ (y _ z).2) (UQ _) G,r]
 .rintro i hi s' Q' E' hd Z
  have v:i<rs.length:=by simpa using hi
  simp;have g:(((rs.take i).map λr=>(r.1,r.2.2)).foldl (λa r=>abb a r.1 r.2) []).length<=sizeLine:=by
   have:=kJ ((rs.take i).map λr=>(r.1,r.2.2)) [];have h2:(1000000:Nat)<=sizeLine:=by decide
   simp only[V0,UA,Wt]at this;lia
  refine wpAny_dictSet_pairs (m rs[i] (Yq v)) hd (λh' M W=>Z h' _ ?_ W) g;rw[Yf v,XN,List.foldl_append];exact M
 .rintro s' p1 Y p3 hd O
  simp at hd;have N:=I.big;have R:=I.hok.fresh sz;obtain⟨hh',g',d',t',J⟩:=s';obtain rfl:J=f.os:=p1.trans o1;obtain rfl:g'=f.gens:=Y.trans o2;obtain rfl:d'=f.drawn:=p3.trans o3;refine#[.ref _,_,I.laid (t':=t') (λc o e=>O c o (λz=>Yd.2 (y c z).1 (UD e)) (k0 c o e)) sz ?_,rfl,q _ R];have u:=Dn kv (a:=[]) (xs:=[]) .nil;refine uQ ?_ (by lia) u hd
  rw[WA u];have:=kJ (rs.map λr=>(r.1,r.2.2)) [];have h2:(1000000:Nat)<=sizeLine:=by decide
  simp at this;lia
theorem FP:∀{ks:List aI}{ab8:aca}{ys:List V}{us:aca},Vals (ks.map kV) ab8->Vals ys us->ks.length=ys.length->
  KV (ks.zip ys) ((ks.zip<|ab8.zip us).map λr=>(r.1,r.2.2))/\(∀r∈ks.zip (ab8.zip us),(aV P w).is r.1 r.2.1=true)/\(ks.zip<|ab8.zip us).map (λr=>(r.2.1,r.2.2))=ab8.zip us
 |[],_,_,_,.nil,.nil,_=>#[.nil,by simp_all,rfl]
 |[],_,_::_,_,_,_,h=>by simp at h
 |_::_,_,[],_,_,_,h=>by simp at h
 |k::ks,_,y::ys,_,.cons r t,.cons r' t',h=>by
  obtain⟨a,b,c⟩:=FP t t' (by simpa using h)
  exact#[.cons #[rfl,r'] a,λq f=>(UK.1 f).elim (λe=>by subst e;exact jK r) (b q),by simpa using c]
theorem yX{a b:f'}(b1 b2:Bool)(hc:X.calm=true)(hg:Gl X "zip")(hm:X.mg "zip"=ay)(hg2:Gl X "dict")(hm2:X.mg "dict"=ay)(ha:PA X [a,b] ta)(hs:eH [a,b] X.env=[(eC,g3 a X.env),(eC,g3 b X.env)]:=by rfl)(hs2:eH [b] X.env=[(eC,g3 b X.env)]:=by rfl)(hs3:eH [Y5 (.Name "zip" p2) [a,b] [] c] X.env=[(eC,g3 (.Call (.Name "zip" p2) [a,b] [] c) X.env)]:=by rfl):
  PE X (.Call (.Name "dict" p) [.Call (.Name "zip" p2) [a,b] [] c] [] pos) (Fb X.K b1 b2 ta):=by
 intro ab2 s U H Q I h;refine Call_ (dZ I hg2 hm2 (by decide +kernel:fy "dict"=ap (.type "dict"))<|Vi ?_ hs3 rfl)
 rw[hs3];show eS _ _ (spliced ((eC,_)::j0 pos [])) _ _ s;refine Wd ?_;refine Call_ (dZ I hg hm (by decide +kernel:fy "zip"=ap (.type "zip"))<|Vi (bE (ha c ab2 s U H _ I h) λus L zz=>?_) (by rw[hs,hs2])<|by rw[hs2];rfl)
 obtain⟨vs,H1,I1,r1,q1⟩:=zz;obtain⟨l1,l2,ks,ys,e,q1,q2,hl,h0,hz,q⟩:=q1;subst e;obtain⟨u1,u2,rfl,ru1,ru2⟩:=r1.two;cases ru1;cases ru2;obtain⟨r,Y,C,z1⟩:=I1.src q1;obtain⟨y,N,J,z2⟩:=I1.src q2;refine qD (args:=[(b1,l1),(b2,l2)]) (.inl rfl) (λp hp=>?_) λh' z TI TO S Z D g O W st hb R=>?_
 .simp only[UK,Wq,or_false]at hp
  rcases hp with rfl|rfl
  .exact#[_,C]
  .exact#[_,J]
 refine WQ ?_;have e1:=Y.length;have e2:=N.length;rw[UA]at e1;obtain⟨kv,B,eps⟩:=FP (P:=X.prog) (w:=X.w) Y N hl;have zt:ZTn z TI TO S 0 h':=#[g,O,#[_,by rw[UA],W],st]
 have G:∀b∈qv z TI TO S,b<h'.objs.size:=λb hb=>let ⟨o,e,_⟩:=zt.obj b hb;UD e;have ll:∀t∈S,∃u,SrcSq t.b L.heap t.l u/\t.l<h'.objs.size:=λt ht=>by
  have:(t.b,t.l)∈[(b1,l1),(b2,l2)]:=Z▸Va (f:=λt:ZS=>(t.b,t.l)) ht;have h:∃u,SrcSq t.b L.heap t.l u:=by
   simp only[UK,Wq,or_false,Prod.mk.injEq]at this;rcases this with⟨e,e'⟩|⟨e,e'⟩<;>rw[e,e']
   .exact#[_,C]
   .exact#[_,J]
  obtain⟨u,q⟩:=h;refine#[u,q,?_];obtain⟨b,i,l⟩:=t;cases b with
  |true=>obtain⟨o,e,_⟩:=(show L.heap.IsList l u from q);exact UD (R _ _ e)
  |false=>obtain⟨o,e,_⟩:=(show L.heap.IsTuple l u from q);exact UD (R _ _ e)
 refine pW (s:={ L with heap:=h' }) (T:="zip") (rs:=ks.zip (r.zip y)) (ab4:=ks.zip ys) (fq:=qv z TI TO S) hc I1 rfl rfl rfl R ?_ (λb h=>#[hb b h,G b h]) kv B (by simp only[Yx];lia) #[_,g,rfl] (by decide) (λA' s' Q' E' hh m k=>qj (m _ _ g) hh k) (λA' s' Q' E' m lt k=>abi (m _ _ g) ?_) q
 .rcases VX h'.objs.size L.heap.objs.size with lt|ge
  .have:=hb z (by simp);exact absurd (G z<|by simp) (Yd.2<|UL (Ym lt) this)
  .exact ge
 .obtain⟨t,u,rfl⟩:=Pi (by have:=congrArg V8 Z;simpa using this)
  simp only[UG,VF,VY,Prod.mk.injEq,and_true]at Z;obtain⟨⟨eb,el⟩,eb',el'⟩:=Z;have ne:u.i≠t.i:=Ax D (i:=1) (j:=0) rfl rfl (by decide)
  rw[eps]at k;refine k s'.heap z _ (ZPr z TI TO h'.objs.size [t,u] λv=>if v.i=t.i then r else y) (λ_ _ e=>e) (LH D (by simp[ne]) (λh=>Vs _ (G _ h)) (λv M=>let ⟨_,_,h⟩:=ll v M;UT h)<|by lia) ?_ λb h=>.inl h
  refine#[#[_,_,m _ _ g,.inl #[rfl,rfl,_,by rw[UA],m _ _ W]],m _ _ O,λv M=>(st v M).keep λo e=>m _ o e,λv M=>?_]
  simp only[UK,Wq,or_false]at M;rcases M with rfl|rfl
  .rw[if_pos rfl,eb,el]
   exact C.keep λo e=>m _ o (R _ o e)
  .rw[if_neg ne,eb',el']
   exact J.keep λo e=>m _ o (R _ o e)
end _2
namespace _2
open PySem PySem.Spec PyProof.Rows
variable{h:h9}{s:ez}{w:hB}
theorem ow(f:Nat->g->Sem (ForInStep g))(I:Nat->g->ez->Prop)(Q:g->ez->Prop)(a:∀i b s,i<n->I i b s->eS M A (f i b) (λr s'=>match r with|.yield b'=>I (i+1) b' s'|.done b'=>Q b' s') E s)(fin:∀b s,I n b s->Q b s)(b:g)(h:I 0 b s):eS M A (forIn [0:n] b f) Q E s:=by
 rw[Std.Legacy.Range.forIn_eq_forIn_range'];have o:[0:n].size=n:=by simp
 rw[o];refine wpAny_forIn_list f (λl c s=>∃i,i<=n/\l=XW i (n-i) 1/\I i c s) Q ?_ ?_ _ b #[0,by lia,rfl,h]
 .rintro x q c s ⟨i,v,j,p⟩
  have m:i<n:=by
   rcases VX i n with h'|h'
   .exact h'
   simp_all
  obtain⟨k,u⟩:∃k,n-i=k+1:=#[n-i-1,by lia]
  rw[u]at j;obtain⟨rfl,rfl⟩:=List.cons.inj j;refine kr (a x c s m p) (λr s' h'=>?_) λ_ _ e=>e;cases r with
  |done c'=>exact h'
  |yield c'=>exact#[_,by lia,by congr 1;lia,h']
 rintro c s ⟨i,v,j,p⟩
 have:i=n:=by
  rcases VX i n with h'|h'
  .obtain⟨k,u⟩:∃k,n-i=k+1:=#[n-i-1,by lia]
   simp_all
  lia
 simp_all
theorem xa(l:eg)(a:aci)(n:Nat)(dd:Option eg)(I:Array (Option ax))(x:ax)(e:ax->Bool)(G:∀y,y∈a->MeetsSeq.EqGives y x (e y))(j:Nat)(M:j<a.size)(u:e a[j]=true)(r:∀m (hm:m<a.size),m<j->e a[m]=eC):
  Meets (Builtin.«tuple.index» #[[.ref l,x],[]]) (λ_ R s=>s.heap.get? l=ap { cls:=.type "tuple",dict:=dd,data:=.seq a n,slots:=I }/\R (.ok<|.ret<|.int j s.toks) { s with toks:=s.toks+1 }):=
 .of_wp λf w A R s h=>by
  obtain⟨F,g,d,z,E⟩:=s;obtain⟨v,h⟩:=h
  wp_walk using AutoSeq1.wpAny_loadPart' v
  refine ow (n:=min a.size a.size) _ (λi (b:Option _×_) q=>b.1=ay/\i<=j/\q=#[F,g,d,z,E]) _ ?turn ?fin _ ?strt
  case turn=>
   rintro i b q K ⟨B,p,rfl⟩
   have c:i<a.size:=by lia
   have o:a[i]?=ap a[i]:=by simp[c]
   simp only[o];refine cT (G _ (Array.getElem_mem c) f w _ _ _ _ ?_)
   by_cases C:i=j
   .subst C
    rw[u]
    wp_walk
    exact#[_,rfl,h]
   .rw[r i c (by lia)]
    wp_walk
    exact#[rfl,by lia,rfl]
  case fin=>
   rintro⟨L,J⟩ q ⟨B,p,rfl⟩
   lia
  case strt=>
   exact#[rfl,WM _,rfl]
theorem Inv.tupD(I:Inv X b U H s)(h:H a=ap (.tup xs)):
  ∃(ab8:aca)(n:Nat)(sl:Array (Option ax)),Vals xs ab8/\s.heap.get? a=ap { cls:=.type "tuple",dict:=ay,data:=.seq ab8.toArray n,slots:=sl }:=by
 obtain⟨z,ab8,r,⟨cls,g,data,slots⟩,e,⟨c,n,d⟩,f⟩:=I.hok a _ h;simp only at c d f;subst c d f;exact#[ab8,n,slots,r,e]
theorem iJ:∀{names:ab'}{us:aca},Vals (names.map V.str) us->∀(j:Nat)(h:j<us.length),∃(y:Str)(t:Tok),names[j]?=ap y/\us[j]=.str y t
 |[],us,r,j,h=>by cases r;trivial
 |x::names,us,r,j,h=>by
  cases r with
  |cons r1 r2=>
   cases j with
   |zero=>obtain⟨t,rfl⟩:=r1;simp_all
   |succ j=>obtain⟨y,t,b,a⟩:=iJ r2 j (by simpa using h);simp_all
def T8:V->List V->Hp->VK->Prop:=λx b H Q=>∃(a:eg)(names:ab')(z:Str)(j:Nat),x=.ref a/\b=[.str z]/\H a=ap (.tup<|names.map V.str)/\names.length<=1000/\names[j]?=ap z/\(∀m,m<j->names[m]?≠ap z)/\Q (.int (j:Int)) H
theorem ET:wO X "tuple.index" T8:=by
 intro E s U H x W v us Q I K M h;obtain⟨a,b,z,j,rfl,rfl,L,Y,C,p,q⟩:=h;cases K;obtain⟨u,rfl,S⟩:=M.one;obtain⟨t,rfl⟩:=S;obtain⟨c,n,R,r,e⟩:=I.tupD L;have J:=r.length;rw[UA]at J;have N:j<b.length:=by
  rcases VX j b.length with z'|z'
  .exact z'
  .rw[VT z']at C;cases C
 have o:j<c.toArray.size:=by rw[US];lia
 refine ot YC #[_,e,rfl] PySem.F.entry_tuple_index (PySem.F.args_tuple_index_2 _ _)
  (xa a c.toArray n ay R (.str z t) (λv=>match v with|.str y _=>y==z|_=>eC) (λy O=>?_) j o ?_ λm i B=>?_) #[e,?_]
 .obtain⟨m,i,rfl⟩:=W8 (by simpa using O:y∈c)
  obtain⟨l,A,f,g⟩:=iJ r m i;rw[g];exact eqGives_str l z A t
 .obtain⟨l,A,f,g⟩:=iJ r j (by lia)
  rw[C]at f;cases f;simp[g]
 .obtain⟨l,A,f,g⟩:=iJ r m (by rw[US]at i;exact i)
  have G:=p m B;rw[f]at G;have ne:¬l=z:=λe=>G (by rw[e])
  simp[g,ne]
 .exact#[.int (j:Int),H,I.tok _,#[_,rfl],q]
def tTM(r:V->List V->Hp->VK->Prop)(to:TE)(t:TA):TE:=λU H Q=>to U H λx H1=>(∃a b,x=.ref a/\H1 a=ap (.tup b))/\t U H1 λb H2=>r x b H2 Q
theorem TN{id:String}(f:Slot "tuple" b id)(g:U_ (.builtin id)=pure (.type "method_descriptor"))(G:wO X id r)(K:PE X o to)(J:PA X (e::es) t)(c:kB o b X.env (g3 o X.env)=g3 o X.env:=by rfl)(hfew:((j0 ab6<|starEach (e::es) X.env).all (λx=>!x.1)&&(rc ab6<|keywordEach [] X.env).all (λx=>x.1.isSome)
   && decide ((e::es).length+([]:List q0).length+(if ([]:List q0).isEmpty then 0 else 1)<30))=true:=by rfl)(hline:(ab7.endLine==ab6.line)=true:=by rfl)(hs:eH (e::es) X.env=(eC,g3 e X.env)::eH es X.env:=by rfl)(hplain:(j0 ab6<|starEach es X.env).any (·.1)=false:=by rfl):
  PE X (.Call (.Attribute o b ab7) (e::es) [] ab6) (tTM r to t):=by
 intro i s U H Q I h;refine abM c hfew hline rfl (bE (K _ s U H _ I h) λv u q=>?_);obtain⟨x,H1,I1,y,⟨a,N,l,C⟩,E⟩:=q;subst l;cases y;obtain⟨m,n,M,L,B⟩:=I1.tupD C;refine#[_,id,PySem.F.plainAttrs_tuple,f,g,#[_,B,rfl],by simp_all,?_]
 have j:=J ab6 _ u U H1 _ I1 E;rw[hs]at j ⊢;exact We (by assumption) (Wn<|bE j<|by rintro us s2 ⟨A,H2,I2,p,z⟩;exact G _ s2 U H2 (.ref a) A _ us Q I2 rfl p z)
theorem iq{h:h9}:∀{l:List Env},h.FunFrames a l->(∀b∈iT l,b∈S)->h.FunFrames (YB h S) l
 |[],_,_=>trivial
 |env::r,hl,hs=>by
  obtain⟨i,⟨L,o,c,p,m,j⟩,e⟩:=hl;have f:L∈S:=hs L (by unfold iT;rw[WB,c];exact UP)
  exact#[i,#[L,o,c,W.hideAll_none S f,m,j],iq e λb g=>hs b (by unfold iT;rw[WB,c];exact UJ _ g)]
def Do(P:fx)(w:hB)(C:eg):m4:=λa H s E e c=>∃(ea:eg)(H':Hp)(B:h9)(a0:ax),e=.ref ea/\c.os=s.os/\UV c.gens/\Un (iT a) [] H H' s.heap c.heap/\HOk P w H' c.heap/\
 Heap.FlyingW B a ea (.ref C) a0 c.heap/\(∀b u,H' b=ap u->∃o,B.get? b=ap o)/\(∀b o,s.heap.get? b=ap o->b∉iT a->∃o',B.get? b=ap o')/\E (.ref C) ay H'
theorem mQ{B:h9}(c:HOk P w H h)(k:B.StaysIn h)(j:B.StaysIn h')(g:∀b u,H b=ap u->∃o,B.get? b=ap o):HOk P w H h':=λa o e=>
 (c a o e).stay (λb u i q=>by
  obtain⟨v,f⟩:∃v,B.get? b=ap v:=by
   rcases i with rfl|z
   .exact g _ _ e
   .exact g _ _ z
  have:=k b v f;rw[q]at this;cases this;exact j b _ f) (λ_ q=>q) λ_ _ q=>q
theorem tR{B:h9}(un:Un fs [] H H' h m)(k1:B.StaysIn m)(k2:B.StaysIn l)(p:m.UpToSlots l)(r:∀b o,h.get? b=ap o->b∉fs->∃e,B.get? b=ap e)(u:∀b∈fs,∀o,h.get? b=ap o->∀vs,o.data≠.fields vs)(x:∀b∈fs,H b=ay):Un fs [] H H' h l where
 keep:=λb o q n a g=>by
  have f:=un.keep b o q n a g;obtain⟨e,c⟩:=r b o q a;have:=k1 b e c;rw[f]at this;cases this;exact k2 b _ c
 slot:=λb o q n a g=>by
  obtain⟨v,f⟩:=un.slot b o q n a g;obtain⟨i,j⟩:=p b _ f (u b a o q);exact#[_,j]
 free:=un.free
 there:=λb o q g=>by
  by_cases a:b∈fs
  .obtain⟨v,f⟩:=un.slot b o q (x b a) a g
   obtain⟨i,j⟩:=p b _ f (u b a o q);exact#[_,j]
  obtain⟨e,c⟩:=r b o q a;exact#[e,k2 b e c]
 tups:=un.tups
 frzs:=un.frzs
 tbls:=un.tbls
section
variable{K:UE}
theorem vQ(h:env.frame=ap L):iT (env::l)=L::iT l:=by unfold iT;simp_all
theorem S3:bW (Do P w C) (fk (Do P w C) P w K mg base N ab3 scope f cd A outer s0 H0 E) E:=by
 intro R U H s e s' I a;obtain⟨L,H',B,a0,rfl,O,g,un,M,l,W,J,X⟩:=a;have F:(fk (Do P w C) P w K mg base N ab3 scope f cd A outer s0 H0 E).stack=envOfC ab3 scope s0.heap.objs.size f cd::outer:=rfl;have x:(envOfC ab3 scope s0.heap.objs.size f cd).frame=ap s0.heap.objs.size:=rfl;have y:iT (envOfC ab3 scope s0.heap.objs.size f cd::outer)=s0.heap.objs.size::iT outer:=vQ x;rw[F]at un l J;show eS (fv P w) (A.deeper<|envOfC ab3 scope s0.heap.objs.size f cd) (leaving (envOfC ab3 scope s0.heap.objs.size f cd)<|.ref L) (λ_ m=>Do P w C outer H0 s0 E (.ref L) m) (λe' m=>Do P w C outer H0 s0 E e' m) s';refine wpAny_leaves_onW I.ok.frames x l λh' j G=>?_;have i:Un (iT outer) [] H0 H s0.heap s.heap:=I.base;have nofr:∀{b:eg}{o:Obj},s0.heap.get? b=ap o->b∉iT outer->b∉iT (envOfC ab3 scope s0.heap.objs.size f cd::outer):=λ{b o} q g z=>by
  rw[y]at z;rcases UK.mp z with e|z
  .exact Vs _ (e▸UD q)
  .exact g z
 have c:Un (iT (envOfC ab3 scope s0.heap.objs.size f cd::outer)) [] H H' s.heap h':=by
  refine tR un l.1 j.1 G J (λb g o q vs=>?_) λb g=>?_
  .obtain⟨_,o',r,Y⟩:=I.stack.mem (show b∈_ from g)
   rw[q]at r;cases r;exact Y vs
  .exact I.stkFree b g
 refine#[L,H',B,a0,rfl,O.trans I.os,g,?_,mQ M l.1 j.1 W,j,W,λb o q g=>?_,X]
 .refine#[λb o q n g a=>?_,λb o q n g a=>?_,λb o q n a=>?_,λb o q a=>?_,λb S q=>c.tups b S (i.tups b S q),λb o u q=>c.frzs b o u (i.frzs b o u q),λb Z q=>?_]
  .exact c.keep b o (i.keep b o q n g a) (i.free b o q n a) (nofr q g) a
  .obtain⟨sl,p⟩:=i.slot b o q n g a
   obtain⟨Q,q2⟩:=c.slot b _ p (i.free b o q n a) (by rw[y];exact UJ _ g) a
   exact#[Q,q2]
  .obtain⟨v,p⟩:=i.there b o q a
   exact c.free b v p (i.free b o q n a) a
  .obtain⟨v,p⟩:=i.there b o q a
   exact c.there b v p a
  .obtain⟨m1,e1⟩:=i.tbls b Z q
   obtain⟨m2,e2⟩:=c.tbls b _ e1;exact#[m1++m2,by rw[e2,Zx]]
 .obtain⟨v,p⟩:=i.there b o q (by simp)
  exact J b v p (nofr q g)
structure ExcAt(K:UE)(C:eg):Prop where
 at_:∃(nm q:Str)(Nn:eg)(bs bm bmB:aca)(hdct:Bool)(sn:ab')(sub:aca)(ab:Bool)(col:Option Bool)(dd:Option eg)(k0 k1 k2 k3 k5:Option ax)(newId initId Bs:String)(mN:ach),
  (∀h:h9,K.In h->h.get? C=ap (excClassObj nm q C Nn bs bm hdct sn sub ab col dd k0 k1 k2 k3 k5 newId)/\h.Ns Nn mN/\OwnTail h bmB bm)/\mN "__init__"=ay/\ExcBaseFacts Bs newId initId bmB/\bmB.contains (.type Bs)=true/\bm.contains (.type "BaseException")=true
theorem ObjOk.obj(x:ObjOk P w H h a o):∃v,h.get? a=ap v:=by
 cases o with
 |lst xs=>obtain⟨_,_,_,_,e⟩:=x;exact#[_,e]
 |tup xs=>obtain⟨_,_,_,_,e,_⟩:=x;exact#[_,e]
 |set S n=>obtain⟨o,_,_,_,e,_⟩:=x;exact#[_,e]
 |ins C dx fs=>obtain⟨_,_,_,e,_⟩:=x;exact#[_,e]
 |own y=>assumption
 |xd fs=>obtain⟨_,⟨_,_,_,e,_⟩,_⟩:=x;exact#[_,e]
 |rng lo hi=>obtain⟨_,_,_,e⟩:=x;exact#[_,e]
 |frz ob u=>obtain⟨e,_⟩:=x;exact#[_,e]
 |tbl ps=>exact#[_,x]
 |met f y=>exact#[_,x]
 |ext φ=>obtain⟨_,⟨_,e⟩,_⟩:=x;exact#[_,e]
 |_=>obtain⟨_,_,_,_,o,_,_,e,_⟩:=x;exact#[_,e]
theorem Jc(g:Un fs [] H0 H l h)(a:Un (L::fs) [] H H' h h')(G:l.objs.size<=L):Un fs [] H0 H' l h':=by
 have nofr:∀{b:eg}{o:Obj},l.get? b=ap o->b∉fs->b∉L::fs:=λ{b o} q i z=>by
  rcases UK.mp z with e|z
  .exact Vs _ (UM (e▸UD q) G)
  exact i z
 refine#[λb o q n i c=>a.keep b o (g.keep b o q n i c) (g.free b o q n c) (nofr q i) c,λb o q n i c=>?_,λb o q n c=>?_,λb o q c=>?_,λb p q=>a.tups b p (g.tups b p q),λb o u q=>a.frzs b o u (g.frzs b o u q),λb v q=>?_]
 .obtain⟨J,j⟩:=g.slot b o q n i c
  obtain⟨y,x⟩:=a.slot b _ j (g.free b o q n c) (UJ _ i) c;exact#[_,x]
 .obtain⟨m,j⟩:=g.there b o q c
  exact a.free b m j (g.free b o q n c) c
 .obtain⟨m,j⟩:=g.there b o q c
  exact a.there b m j c
 obtain⟨F,B⟩:=g.tbls b v q;obtain⟨r,I⟩:=a.tbls b _ B;exact#[F++r,by simp_all]
def Qm(E:XK)(C:eg):TS:=λ_ _ H=>E (.ref C) ay H
theorem G9{jj}(X:ExcAt K C)(hm:mg x=ap (.ref C))(hg:Gl (fk (Do P w C) P w K mg base N ab3 scope f cd A outer s0 H0 E) x)(hd:(x==("__debug__":Str))=false:=by decide)(hs:eH [.Constant (.str l) jj ab7] (fk (Do P w C) P w K mg base N ab3 scope f cd A outer s0 H0 E).env=[(eC,g3 (.Constant (.str l) jj ab7) (fk (Do P w C) P w K mg base N ab3 scope f cd A outer s0 H0 E).env)]:=by rfl):
  PS (fk (Do P w C) P w K mg base N ab3 scope f cd A outer s0 H0 E) (.Raise (ap<|.Call (.Name x np) [.Constant (.str l) jj ab7] [] ab6) ay pos) (Qm E C):=by
 intro m s U H D I h;obtain⟨nm,q,Nn,bs,bm,bmB,hdct,sn,sub,ab,col,dd,k0,k1,k2,k3,k5,M,L,Bs,mN,hX,R,FB,Y,g⟩:=X.at_
 refine wpAny_Raise_call_subU (C:=C) (nm:=nm) (q:=q) (N:=Nn) (bs:=bs) (bm:=bm) (hdct:=hdct) (sn:=sn) (sub:=sub) (ab:=ab) (col:=col) (dd:=dd) (k0:=k0) (k1:=k1) (k2:=k2) (k3:=k3) (k5:=k5) FB Y FB (mN:=mN) g (I.ok.hd rfl) (by rw[hs];rfl) R
  (dF I hg hm #[rfl,?_] hd)
 have hA:=(tB I_ y9 hs) ab6 m s U H (λxs H1=>xs.length=1/\E (.ref C) ay H1) I #[rfl,h];rw[hs]at hA ⊢;refine Wn (kr hA (λvs a J=>?_) λ_ _ y=>y);obtain⟨vv,H1,I1,r,F,hE⟩:=J;obtain⟨hC,hN,T⟩:=hX a.heap I1.kIn;refine#[rfl,?_,hC,hN,T,λh' e hx=>?_]
 .rw[<- r.length,F]
  decide
 have B:(envOfC ab3 scope s0.heap.objs.size f cd).frame=ap s0.heap.objs.size:=rfl;have G:iT _=s0.heap.objs.size::iT outer:=vQ B;have Q:(YB a.heap<|iT (envOfC ab3 scope s0.heap.objs.size f cd::outer)).StaysIn a.heap:=λb o e=>W.of_hideAll _ e;refine wpAny_leaves_madeW I1.ok.frames B Q (iq I1.stack λb c=>c) hx λZ t i _ _ O=>?_;have S:=(Heap.UpToSlots.of_keeps hx.keeps).trans O;have j:∀{b:eg}{o:Obj},a.heap.get? b=ap o->b∉iT (envOfC ab3 scope s0.heap.objs.size f cd::outer)->(YB a.heap _).get? b=ap o:=λe n=>W.hideAll_get _ e n;have sT:∀b u,H1 b=ap u->∃o,(YB a.heap _).get? b=ap o:=λb u e=>by
  obtain⟨v,hv⟩:=ObjOk.obj (I1.hok b u e);exact#[v,j hv λz=>by rw[I1.stkFree b z]at e;cases e]
 have p:Un (iT (envOfC ab3 scope s0.heap.objs.size f cd::outer)) [] H1 H1 a.heap Z:=by
  refine tR Un.refl Q i.1 S (λb o q c=>#[o,j q c]) (λb c o q vs=>?_) λb c=>I1.stkFree b c;obtain⟨_,o',ho',hd'⟩:=I1.stack.mem (show b∈_ from c)
  simp_all
 rw[G]at p;refine#[e,H1,_,.ref t,rfl,I1.os,I1.bare,Jc I1.base p (UQ _),mQ I1.hok Q i.1 sT,i,sT,λb o q c=>?_,hE];obtain⟨o1,q1⟩:=I1.base.there b o q (λz=>absurd (show b∈([]:acb) from z) (by simp))
 refine#[o1,j q1 λz=>?_];rw[G]at z;rcases UK.mp z with e'|z
 .exact Vs _ (e'▸UD q)
 .exact c z
end
noncomputable abbrev Cx.marked(X:Cx)(e:ax):Cx:={ X with A:=X.A.mark (ap e),calm:=eC,xe:=λ_ _=>False }
section
variable{X:Cx}
theorem Cx.Ok.mark(ok:X.Ok)(e:ax):(X.marked e).Ok:=
 #[ok.mod,ok.kind,ok.glob,ok.blt,ok.above,ok.inj,ok.has,ok.cab,by lia,ok.frames,ok.stk,ok.exf,ok.bs,ok.bsz,ok.noex,ok.exfs,ok.funs,ok.frf]
theorem Inv.mark(I:Inv X ab2 U H s)(e:ax):Inv (X.marked e) ab2 U H s:=#[I.ok.mark e,I.os,I.bare,I.base,I.loc,I.cell,I.free,I.freeC,I.pin,I.hok,I.len]
theorem Inv.unmark(ok:X.Ok)(I:Inv (X.marked e) ab2 U H s):Inv X ab2 U H s:=#[ok,I.os,I.bare,I.base,I.loc,I.cell,I.free,I.freeC,I.pin,I.hok,I.len]
theorem SP.unmark(ok:X.Ok)(h:SP (X.marked e) ab2 D f s'):SP X ab2 D f s':=by
 cases f with
 |ret u=>obtain⟨v,a,H',I,r,q⟩:=h;exact#[v,_,H',I.unmark ok,r,q]
 |_=>obtain⟨a,H',I,q⟩:=h;exact#[_,H',I.unmark ok,q]
def Ik(C:eg)(sp:Sp)(dvs:List V)(ta:TA)(ts:TS):TS:=λD U H=>ta U H λa H1=>sp (a++dvs) H1 (λ_ H2=>D.nx U H2) (λ_ _ H2=>ts D U H2)
theorem yo(M:X.stack=X.env::X.outer)(hfL:X.env.frame=ap X.env.locals)(F:FnOk X.prog X.w X.K X.mg X.base (Do X.prog X.w C) k f fd ps sp)(hr:Room k X.A)(hg:Gl X x)(hm:X.mg x=ap (.ref f))(hk:VJ X.K (.ref f)=true)(hb:Binds X.K fd ps ds)(hd:Vals dvs ds)(ha:PA X.nox (e::es) ta)(EX:ExcAt X.K C)(hgC:Gl X R)(hmC:X.mg R=ap (.ref C))(hsu:∀ea:eg,wk (X.marked<|.ref ea) (j::g) ts)(hdb:(x==("__debug__":Str))=false:=by decide)(hdC:(R==("__debug__":Str))=false:=by decide)(he:eH (e::es) X.env=(eC,g3 e X.env)::eH es X.env:=by rfl)(hpl:(j0 S<|starEach es X.env).any (·.1)=false:=by rfl)(hsw:mo (.Call (.Name x p) (e::es) [] S) ay ep.line X.env=pure false:=by rfl):
  PS X (.Try [.Expr (.Call (.Name x p) (e::es) [] S) ep] [.ExceptHandler (ap<|.Name R np) ay (j::g) L] [] [] pos) (Ik C sp dvs ta ts):=by
 intro ab2 s U H D I h;refine wpAny_Try_except (V'<|wpAny_Expr_any ?_ I.quiet hsw);refine lm (dF I hg hm ?_ hdb);refine Xg (h₀:=X.base) I.ok.mod.kin hk (kr (ha S ab2 s U H _ (I.wish _) h) (λus s1 zz=>?_) λ_ _ z=>Vv z) he hpl;obtain⟨O,H1,I1',r,q⟩:=zz;have I1:=I1'.unwish;refine#[I1.kIn,?_];have r2:=r.append hd;have hl:(us++ds).length=ps.length:=by rw[<- r2.length];exact F.len _ _ _ _ q
 refine W1 (qa (F.run X.A X.stack s1 H1 #[us,[]] (us++ds) (O++dvs) _ _ hr I1.env0 (hb s1 us I1.kIn hl) r2 q) λrr s' hq=>?_);cases rr with
 |ok fl=>
  cases fl with
  |ret u=>
   obtain⟨x',H2,I2,_,q2⟩:=I1.after hq;exact pa (pa #[U,H2,I2,q2])
  |_=>exact Vv hq
 |error er=>
  obtain⟨ea,H',B,a0,rfl,hos,m,un,hok,i,sT,sA,hE⟩:=hq;obtain⟨nm,qn,Nn,bs,bm,bmB,hdct,sn,sub,ab,col,dd,k0,k1,k2,k3,k5,W,N,Bs,mN,hX,hni,FB,hBs,l⟩:=EX.at_;have nf:∀b∈iT X.stack,∀o,s1.heap.get? b=ap o->∀O,o.data≠.fields O:=λb v o q' O=>by
   obtain⟨_,o',ho',hd'⟩:=I1.stack.mem (show b∈_ from v)
   simp_all
  have a:∀Q:h9,B.StaysIn Q->s'.heap.UpToSlots Q->Inv X ab2 U H' { s' with heap:=Q }:=λQ k up=>
   I1.call' hos (tR un i.1 k up sA nf λb v=>I1.stkFree b v) (mQ hok i.1 k sT) m λb z=>absurd (z) (by simp)
  rw[M]at i;refine wpAny_looks_onW (by rw[<- M];exact I1.ok.frames) hfL i λh4 y up4=>?_
  refine wpAny_landsW y λh5 c J=>?_;have I5:=(a h5 c.1<|up4.trans J).mark (.ref ea);obtain⟨hC,_,_⟩:=hX h5 I5.kIn;obtain⟨ob,Y,E⟩:=c.there;refine wpAny_handleBy_cons (abV<|dF I5 hgC hmC ?_ hdC) (by intro q';cases q')
  refine wpAny_excMatches_sub_self hC Y E l (codeAny_handlers_suite ?_);refine lands_againW c λh6 G Z=>?_;have I6:=(a h6 G.1<|(up4.trans J).trans Z).mark (.ref ea);exact kr (hsu ea ab2 _ U H' D I6 hE) (λfl s7 q7=>q7.unmark I.ok) λ_ _ z=>Vv z
end
end _2
namespace _3
open PySem _2
variable{a p:eg}{e:f'}{H H':Hp}{M:Mem}{K:UE}{r:g9}
set_option genInjectivity true in
inductive D where
 |non|bl (b:Bool)|int (i:Int)|str (x:Str)|ty (n:String)|ref (a:eg)|tup (xs:List D)|lst (xs:List D)|mt (xs:List D)|ml (xs:List D)|fd (ks:List (List aI)) (xs:List D)
def TpD(_:UE)(H:Hp)(p:eg)(vs:List V):Prop:=H p=ap (.tup vs)
def TpM(K:UE)(p:eg)(vs:List V):Prop:=∃(o:Obj)(ab8:aci)(n:Nat),K.lookup p=ap o/\o.cls=.type "tuple"/\o.data=.seq ab8 n/\ab8.size<=sizeLine/\Vals vs ab8.toList
def FzD(K:UE)(H:Hp)(p:eg)(vs:List V):Prop:=
 ∃o,H p=ap (.frz o<|.lst vs)
def FzK(K:UE)(H:Hp)(p:eg)(vs:List V):Prop:=(∃o,H p=ap (.frz o<|.lst vs))\/∃(o:Obj)(ab8:aci)(n:Nat),K.lookup p=ap o/\o.cls=.type "list"/\o.dict=ay/\o.data=.seq ab8 n/\ab8.size<=sizeLine/\Vals vs ab8.toList
theorem FzK.sq(h:FzK K H p vs):SqL K H p vs:=h.imp (by rintro⟨o,e⟩;exact .inr #[o,e]) λx=>x
theorem TpD.sq(h:TpD K H p vs):lW K H p vs:=.inl (.inl h)
theorem TpM.sq(h:TpM K p vs):lW K H p vs:=.inr h
theorem FzD.sq(h:FzD K H p vs):SqL K H p vs:=by
 obtain⟨o,h⟩:=h;exact .inl (.inr #[o,h])
def FdD(H:Hp)(p:eg)(ks:List (List aI))(vs:List V):Prop:=ks.length=vs.length/\∃o,H p=ap (.frz o<|.dT<|ks.zip vs)
mutual
def Rp(K:UE)(H:Hp):D->V->Prop
 |.non,v=>v=.non
 |.bl b,v=>v=.bl b
 |.int i,v=>v=.int i
 |.str x,v=>v=.str x
 |.ty n,v=>v=.ty n
 |.ref a,v=>v=.ref a
 |.tup xs,v=>∃p vs,v=.ref p/\TpD K H p vs/\Rps K H xs vs
 |.lst xs,v=>∃p vs,v=.ref p/\FzD K H p vs/\Rps K H xs vs
 |.mt xs,v=>∃p vs,v=.ref p/\TpM K p vs/\Rps K H xs vs
 |.ml xs,v=>∃p vs,v=.ref p/\FzK K H p vs/\Rps K H xs vs
 |.fd ks xs,v=>∃p vs,v=.ref p/\FdD H p ks vs/\Rps K H xs vs
def Rps(K:UE)(H:Hp):List D->List V->Prop
 |[],vs=>vs=[]
 |x::xs,vs=>∃v r,vs=v::r/\Rp K H x v/\Rps K H xs r
end
structure Imm(H H':Hp):Prop where
 tup:∀p vs,H p=ap (.tup vs)->H' p=ap (.tup vs)
 frz:∀p o u,H p=ap (.frz o u)->H' p=ap (.frz o u)
theorem Imm.refl:Imm H H:=#[by lia,by lia]
theorem TpD.mono(i:Imm H H')(h:TpD K H p vs):TpD K H' p vs:=i.tup _ _ h
theorem FzK.mono(i:Imm H H')(h:FzK K H p vs):FzK K H' p vs:=h.imp (λ⟨o,e⟩=>#[o,i.frz _ _ _ e]) λx=>x
theorem FzD.mono(i:Imm H H')(h:FzD K H p vs):FzD K H' p vs:=let ⟨o,e⟩:=h;#[o,i.frz _ _ _ e]
mutual
theorem Rp.mono{K:UE}{H H':Hp}(i:Imm H H'):∀{d:D}{v:V},Rp K H d v->Rp K H' d v
 |.non,_,h=>h
 |.bl _,_,h=>h
 |.int _,_,h=>h
 |.str _,_,h=>h
 |.ty _,_,h=>h
 |.ref _,_,h=>h
 |.tup _,_,h=>by
  obtain⟨p,b,e,t,r⟩:=h;exact#[p,b,e,t.mono i,Rps.mono i r]
 |.lst _,_,h=>by
  obtain⟨p,b,e,t,r⟩:=h;exact#[p,b,e,t.mono i,Rps.mono i r]
 |.mt _,_,h=>by
  obtain⟨p,b,e,t,r⟩:=h;exact#[p,b,e,t,Rps.mono i r]
 |.ml _,_,h=>by
  obtain⟨p,b,e,t,r⟩:=h;exact#[p,b,e,t.mono i,Rps.mono i r]
 |.fd _ _,_,h=>by
  obtain⟨p,b,e,⟨t,o,f⟩,r⟩:=h;exact#[p,b,e,#[t,o,i.frz _ _ _ f],Rps.mono i r]
theorem Rps.mono{K:UE}{H H':Hp}(i:Imm H H'):∀{ds:List D}{vs:List V},Rps K H ds vs->Rps K H' ds vs
 |[],_,h=>h
 |_::_,_,h=>by
  obtain⟨v,r,e,a,b⟩:=h;exact#[v,r,e,Rp.mono i a,Rps.mono i b]
end
theorem Rps.nil:Rps K H [] []:=rfl
theorem Rps.cons(a:Rp K H d v)(b:Rps K H ds vs):Rps K H (d::ds) (v::vs):=#[v,vs,rfl,a,b]
theorem Rps.length:∀{ds:List D}{vs:List V},Rps K H ds vs->ds.length=vs.length
 |[],_,h=>by cases h;rfl
 |_::_,_,h=>by obtain⟨v,r,rfl,_,b⟩:=h;simp[b.length]
theorem Rps.get:∀{ds:List D}{vs:List V},Rps K H ds vs->∀{i:Nat}{d:D},ds[i]?=ap d->∃v,vs[i]?=ap v/\Rp K H d v
 |[],_,_,i,d,e=>by simp at e
 |x::xs,_,h,i,d,e=>by
  obtain⟨v,r,rfl,a,b⟩:=h;cases i with
  |zero=>simp_all
  |succ i=>simpa using b.get (by simpa using e)
theorem Rps.append:∀{ds es:List D}{vs f:List V},Rps K H ds vs->Rps K H es f->Rps K H (ds++es) (vs++f)
 |[],_,_,_,h,g=>by cases h;exact g
 |_::_,_,_,_,h,g=>by
  obtain⟨v,r,rfl,a,b⟩:=h;exact#[v,_,rfl,a,b.append g]
theorem Rps.take:∀{ds:List D}{vs:List V}(n:Nat),Rps K H ds vs->Rps K H (ds.take n) (vs.take n)
 |[],_,n,h=>by cases h;simp[Rps]
 |_::_,_,0,h=>rfl
 |_::_,_,n+1,h=>by
  obtain⟨v,r,rfl,a,b⟩:=h;exact#[v,_,rfl,a,b.take n]
theorem Rps.drop:∀{ds:List D}{vs:List V}(n:Nat),Rps K H ds vs->Rps K H (ds.drop n) (vs.drop n)
 |[],_,n,h=>by cases h;simp[Rps]
 |_::_,_,0,h=>h
 |_::_,_,n+1,h=>by
  obtain⟨v,r,rfl,a,b⟩:=h;exact b.drop n
theorem Rps.set(a:Rp K H d v):∀{ds:List D}{vs:List V}(i:Nat),Rps K H ds vs->Rps K H (ds.set i d) (vs.set i v)
 |[],_,_,h=>by cases h;rfl
 |_::_,_,0,h=>by obtain⟨w,r,rfl,_,b⟩:=h;exact#[v,r,rfl,a,b]
 |_::_,_,i+1,h=>by obtain⟨w,r,rfl,c,b⟩:=h;exact#[w,_,rfl,c,b.set a i]
theorem Rps.dropLast(h:Rps K H ds vs):Rps K H ds.dropLast vs.dropLast:=by
 rw[Zm,Zm,h.length];exact h.take _
theorem Rps.eraseIdx:∀{ds:List D}{vs:List V}(i:Nat),Rps K H ds vs->Rps K H (ds.eraseIdx i) (vs.eraseIdx i)
 |[],_,_,h=>by cases h;rfl
 |_::_,_,0,h=>by obtain⟨w,r,rfl,_,b⟩:=h;exact b
 |_::_,_,i+1,h=>by obtain⟨w,r,rfl,c,b⟩:=h;exact#[w,_,rfl,c,b.eraseIdx i]
theorem xE:∀{b:ab_}{vs:List V},vs=b.map V.int->Rps K H (b.map D.int) vs
 |[],_,e=>e
 |i::b,_,e=>by subst e;exact#[_,_,rfl,rfl,xE rfl]
set_option genInjectivity true in
inductive MO where
 |lst (xs:List D)
 |dK (ab4:List (aI×D))
 |dT (ab4:List (List aI×D))
 |ins (C:eg) (fs:List (Str×D))
abbrev Mem:=eg->Option MO
noncomputable def Mem.upd(M:Mem)(a:eg)(o:MO):Mem:=λb=>if b=a then ap o else M b
noncomputable def Mem.del(M:Mem)(a:eg):Mem:=λb=>if b=a then ay else M b
abbrev Bx.{u}{α:Sort u}(_:α):Type:=Unit
structure Wr.{u}(α:Sort u) where
 v:α
section
variable{α:Type}
noncomputable def so_:Wr (∀{α:Type},(Option α)->(α->Prop)->Prop):=#[λo f=>match o with
 |some a=>f a
 |none=>False]
abbrev so{α:Type}(o:Option α)(f:α->Prop)(_:Bx f:=()):Prop:=so_.v o f
noncomputable def s2_:Wr (∀{α:Type},(Option<|Option α)->(α->Prop)->Prop):=#[λo f=>match o with
 |some (ap a)=>f a
 |_=>False]
abbrev s2{α:Type}(o:Option (Option α))(f:α->Prop)(_:Bx f:=()):Prop:=s2_.v o f
noncomputable def s2e_:Wr (∀{α:Type},(Option<|Option α)->(α->Prop)->(Prop)->Prop):=#[λo f p=>match o with
 |some (ap a)=>f a
 |_=>p]
abbrev s2e{α:Type}(o:Option (Option α))(f:α->Prop)(p:Prop)(_:Bx f:=())(_:Bx p:=()):Prop:=s2e_.v o f p
noncomputable def oe_:Wr (∀{α:Type},(Option α)->(α->Prop)->(Prop)->Prop):=#[λo f p=>match o with
 |some a=>f a
 |none=>p]
abbrev oe{α:Type}(o:Option α)(f:α->Prop)(p:Prop)(_:Bx f:=())(_:Bx p:=()):Prop:=oe_.v o f p
noncomputable def one_:Wr (∀{α:Type},(List α)->(α->Prop)->Prop):=#[λds f=>match ds with
 |[d]=>f d
 |_=>False]
abbrev one{α:Type}(ds:List α)(f:α->Prop)(_:Bx f:=()):Prop:=one_.v ds f
noncomputable def two_:Wr (∀{α:Type},(List α)->(α->α->Prop)->Prop):=#[λds f=>match ds with
 |[d,e]=>f d e
 |_=>False]
abbrev two{α:Type}(ds:List α)(f:α->α->Prop)(_:Bx f:=()):Prop:=two_.v ds f
noncomputable def nil0_:Wr (∀{α:Type},(List α)->(Prop)->Prop):=#[λds p=>match ds with
 |[]=>p
 |_=>False]
abbrev nil0{α:Type}(ds:List α)(p:Prop)(_:Bx p:=()):Prop:=nil0_.v ds p
noncomputable def cns_:Wr (∀{α:Type},(List α)->(α->List α->Prop)->Prop):=#[λds f=>match ds with
 |d::r=>f d r
 |_=>False]
abbrev cns{α:Type}(ds:List α)(f:α->List α->Prop)(_:Bx f:=()):Prop:=cns_.v ds f
noncomputable def nilOr_:Wr (∀{α:Type},(List α)->(Prop)->(α->Prop)->Prop):=#[λds p f=>match ds with
 |[]=>p
 |[d]=>f d
 |_=>False]
abbrev nilOr{α:Type}(ds:List α)(p:Prop)(f:α->Prop)(_:Bx p:=())(_:Bx f:=()):Prop:=nilOr_.v ds p f
noncomputable def onR_:Wr ((D)->(eg->Prop)->Prop):=#[λd f=>match d with
 |.ref a=>f a
 |_=>False]
abbrev onR(d:D)(f:eg->Prop)(_:Bx f:=()):Prop:=onR_.v d f
noncomputable def onI_:Wr ((D)->(Int->Prop)->Prop):=#[λd f=>match d with
 |.int a=>f a
 |_=>False]
abbrev onI(d:D)(f:Int->Prop)(_:Bx f:=()):Prop:=onI_.v d f
noncomputable def onB_:Wr ((D)->(Bool->Prop)->Prop):=#[λd f=>match d with
 |.bl a=>f a
 |_=>False]
abbrev onB(d:D)(f:Bool->Prop)(_:Bx f:=()):Prop:=onB_.v d f
noncomputable def onS_:Wr ((D)->(Str->Prop)->Prop):=#[λd f=>match d with
 |.str a=>f a
 |_=>False]
abbrev onS(d:D)(f:Str->Prop)(_:Bx f:=()):Prop:=onS_.v d f
noncomputable def onTy_:Wr ((D)->(String->Prop)->Prop):=#[λd f=>match d with
 |.ty a=>f a
 |_=>False]
abbrev onTy(d:D)(f:String->Prop)(_:Bx f:=()):Prop:=onTy_.v d f
noncomputable def onT_:Wr ((D)->(List D->Prop)->Prop):=#[λd f=>match d with
 |.tup a=>f a
 |_=>False]
abbrev onT(d:D)(f:List D->Prop)(_:Bx f:=()):Prop:=onT_.v d f
noncomputable def onN_:Wr ((D)->(Prop)->Prop):=#[λd p=>match d with
 |.non=>p
 |_=>False]
abbrev onN(d:D)(p:Prop)(_:Bx p:=()):Prop:=onN_.v d p
noncomputable def onBB_:Wr ((D)->(Prop)->(Prop)->Prop):=#[λd p q=>match d with
 |.bl true=>p
 |.bl eC=>q
 |_=>False]
abbrev OC(d:D)(p q:Prop)(_:Bx p:=())(_:Bx q:=()):Prop:=onBB_.v d p q
noncomputable def onIST_:Wr ((D)->(Int->Prop)->(Str->Prop)->(List D->Prop)->(Prop)->Prop):=#[λd f g h p=>match d with
 |.int a=>f a
 |.str a=>g a
 |.tup a=>h a
 |_=>p]
abbrev onIST(d:D)(f:Int->Prop)(g:Str->Prop)(h:List D->Prop)(p:Prop)(_:Bx f:=())(_:Bx g:=())(_:Bx h:=())(_:Bx p:=()):Prop:=onIST_.v d f g h p
noncomputable def onSR_:Wr ((D)->(Str->Prop)->(eg->Prop)->Prop):=#[λd g f=>match d with
 |.str a=>g a
 |.ref a=>f a
 |_=>False]
abbrev onSR(d:D)(g:Str->Prop)(f:eg->Prop)(_:Bx g:=())(_:Bx f:=()):Prop:=onSR_.v d g f
noncomputable def onLR_:Wr ((D)->(List D->Prop)->(eg->Prop)->Prop):=#[λd g f=>match d with
 |.lst a=>g a
 |.ref a=>f a
 |_=>False]
abbrev Ra(d:D)(g:List D->Prop)(f:eg->Prop)(_:Bx g:=())(_:Bx f:=()):Prop:=onLR_.v d g f
noncomputable def onTM_:Wr ((D)->(List D->Prop)->(List D->Prop)->(Prop)->Prop):=#[λd f g p=>match d with
 |.tup a=>f a
 |.ml a=>g a
 |_=>p]
abbrev onTM(d:D)(f g:List D->Prop)(p:Prop)(_:Bx f:=())(_:Bx g:=())(_:Bx p:=()):Prop:=onTM_.v d f g p
noncomputable def onTe_:Wr ((D)->(List D->Prop)->(Prop)->Prop):=#[λd f p=>match d with
 |.tup a=>f a
 |_=>p]
abbrev onTe(d:D)(f:List D->Prop)(p:Prop)(_:Bx f:=())(_:Bx p:=()):Prop:=onTe_.v d f p
noncomputable def onRe_:Wr ((D)->(eg->Prop)->(Prop)->Prop):=#[λd f p=>match d with
 |.ref a=>f a
 |_=>p]
abbrev onRe(d:D)(f:eg->Prop)(p:Prop)(_:Bx f:=())(_:Bx p:=()):Prop:=onRe_.v d f p
noncomputable def mL_:Wr ((Option MO)->(List D->Prop)->Prop):=#[λm f=>match m with
 |some (.lst a)=>f a
 |_=>False]
abbrev mL(m:Option MO)(f:List D->Prop)(_:Bx f:=()):Prop:=mL_.v m f
noncomputable def mK_:Wr ((Option MO)->(List (aI×D)->Prop)->Prop):=#[λm f=>match m with
 |some (.dK a)=>f a
 |_=>False]
abbrev mK(m:Option MO)(f:List (aI×D)->Prop)(_:Bx f:=()):Prop:=mK_.v m f
noncomputable def mN_:Wr ((Option MO)->(eg->List (Str×D)->Prop)->Prop):=#[λm f=>match m with
 |some (.ins a b)=>f a b
 |_=>False]
abbrev mN(m:Option MO)(f:eg->List (Str×D)->Prop)(_:Bx f:=()):Prop:=mN_.v m f
noncomputable def mLe_:Wr ((Option MO)->(List D->Prop)->(Prop)->Prop):=#[λm f p=>match m with
 |some (.lst a)=>f a
 |_=>p]
abbrev mLe(m:Option MO)(f:List D->Prop)(p:Prop)(_:Bx f:=())(_:Bx p:=()):Prop:=mLe_.v m f p
noncomputable def mSet_:Wr ((Option MO)->(List D->Prop)->(List (aI×D)->Prop)->(List (List aI×D)->Prop)->Prop):=#[λm f g h=>match m with
 |some (.lst a)=>f a
 |some (.dK a)=>g a
 |some (.dT a)=>h a
 |_=>False]
abbrev mSet(m:Option MO)(f:List D->Prop)(g:List (aI×D)->Prop)(h:List (List aI×D)->Prop)(_:Bx f:=())(_:Bx g:=())(_:Bx h:=()):Prop:=mSet_.v m f g h
section
variable{p:Prop}
theorem Sz:so (ap x) f b=f x:=rfl
theorem s2_s:s2 (ap<|some x) f b=f x:=rfl
theorem s2e_s:s2e (ap<|some x) f p b bp=f x:=rfl
theorem oe_s:oe (ap x) f p b bp=f x:=rfl
theorem oe_n:oe ay f p b bp=p:=rfl
theorem one_1:one [x] f b=f x:=rfl
theorem two_2:two [y,z] f2 b2=f2 y z:=rfl
theorem nil_0:nil0 (α:=α) [] p bp=p:=rfl
theorem cns_c:cns (x::xs) fl bl=fl x xs:=rfl
theorem no_0:nilOr [] p f bp b=p:=rfl
theorem no_1:nilOr [x] p f bp b=f x:=rfl
theorem s2e.inv(h:s2e u f p b bp):(∃a,u=ap (ap a)/\f a)\/p:=by rcases u with _|_|a;exact .inr h;exact .inr h;exact .inl #[a,rfl,h]
theorem so.inv(h:so o f b):∃a,o=ap a/\f a:=by cases o with|none=>exact h.elim|some a=>exact#[a,rfl,h]
theorem s2.inv(h:s2 u f b):∃a,u=ap (ap a)/\f a:=by rcases u with _|_|a;exact h.elim;exact h.elim;exact#[a,rfl,h]
theorem oe.inv(h:oe o f p b bp):(∃a,o=ap a/\f a)\/o=ay/\p:=by cases o with|none=>exact .inr #[rfl,h]|some a=>exact .inl #[a,rfl,h]
theorem one.inv(h:one ds f b):∃a,ds=[a]/\f a:=by rcases ds with _|⟨a,_|_⟩;exact h.elim;exact#[a,rfl,h];trivial
theorem two.inv(h:two ds f2 b2):∃a c,ds=[a,c]/\f2 a c:=by rcases ds with _|⟨a,_|⟨c,_|_⟩⟩;exact h.elim;exact h.elim;exact#[a,c,rfl,h];trivial
theorem nil0.inv(h:nil0 ds p bp):ds=[]/\p:=by cases ds with|nil=>exact#[rfl,h]|cons=>trivial
theorem cns.inv(h:cns ds fl bl):∃a r,ds=a::r/\fl a r:=by cases ds with|nil=>exact h.elim|cons a r=>exact#[a,r,rfl,h]
theorem nilOr.inv(h:nilOr ds p f bp b):ds=[]/\p\/∃a,ds=[a]/\f a:=by rcases ds with _|⟨a,_|_⟩;exact .inl #[rfl,h];exact .inr #[a,rfl,h];trivial
end
section
variable{p:Prop}
theorem RJ:onR (.ref a) fA bA=fA a:=rfl
theorem onI_i:onI (.int i) fI bI=fI i:=rfl
theorem Me:onB (.bl k) fB bB=fB k:=rfl
theorem onS_s:onS (.str s) fS bS=fS s:=rfl
theorem onTy_t:onTy (.ty t) fY bY=fY t:=rfl
theorem onT_t:onT (.tup l) fL bL=fL l:=rfl
theorem SK:onN .non p bp=p:=rfl
theorem QX:OC (.bl true) p q bp bq=p:=rfl
theorem Rh:OC (.bl eC) p q bp bq=q:=rfl
theorem onIST_i:onIST (.int i) fI fS fL p bI bS bL bp=fI i:=rfl
theorem onIST_s:onIST (.str s) fI fS fL p bI bS bL bp=fS s:=rfl
theorem onIST_t:onIST (.tup l) fI fS fL p bI bS bL bp=fL l:=rfl
theorem onIST_r:onIST (.ref a) fI fS fL p bI bS bL bp=p:=rfl
theorem onIST_l:onIST (.lst l) fI fS fL p bI bS bL bp=p:=rfl
theorem onSR_s:onSR (.str s) fS fA bS bA=fS s:=rfl
theorem onSR_r:onSR (.ref a) fS fA bS bA=fA a:=rfl
theorem onLR_l:Ra (.lst l) fL fA bL bA=fL l:=rfl
theorem onLR_r:Ra (.ref a) fL fA bL bA=fA a:=rfl
theorem onTM_t:onTM (.tup l) fL gL p bL cL bp=fL l:=rfl
theorem onTM_m:onTM (.ml l) fL gL p bL cL bp=gL l:=rfl
theorem onTM_r:onTM (.ref a) fL gL p bL cL bp=p:=rfl
theorem onTM_l:onTM (.lst l) fL gL p bL cL bp=p:=rfl
theorem onTe_t:onTe (.tup l) fL p bL bp=fL l:=rfl
theorem onTe_r:onTe (.ref a) fL p bL bp=p:=rfl
theorem onTe_l:onTe (.lst l) fL p bL bp=p:=rfl
theorem onRe_r:onRe (.ref a) fA p bA bp=fA a:=rfl
theorem onRe_n:onRe .non fA p bA bp=p:=rfl
theorem onRe_b:onRe (.bl k) fA p bA bp=p:=rfl
theorem onRe_i:onRe (.int i) fA p bA bp=p:=rfl
theorem onRe_s:onRe (.str s) fA p bA bp=p:=rfl
theorem onRe_t:onRe (.tup l) fA p bA bp=p:=rfl
theorem onRe_l:onRe (.lst l) fA p bA bp=p:=rfl
theorem onRe_f:onRe (.fd ks l) fA p bA bp=p:=rfl
theorem onRe_m:onRe (.mt l) fA p bA bp=p:=rfl
theorem onRe_ml:onRe (.ml l) fA p bA bp=p:=rfl
theorem onR.inv(h:onR d fA bA):∃a,d=.ref a/\fA a:=by cases d<;>first|exact#[_,rfl,h]|exact h.elim
theorem onI.inv(h:onI d fI bI):∃a,d=.int a/\fI a:=by cases d<;>first|exact#[_,rfl,h]|exact h.elim
theorem onB.inv(h:onB d fB bB):∃a,d=.bl a/\fB a:=by cases d<;>first|exact#[_,rfl,h]|exact h.elim
theorem onS.inv(h:onS d fS bS):∃a,d=.str a/\fS a:=by cases d<;>first|exact#[_,rfl,h]|exact h.elim
theorem onTy.inv(h:onTy d fY bY):∃a,d=.ty a/\fY a:=by cases d<;>first|exact#[_,rfl,h]|exact h.elim
theorem onT.inv(h:onT d fL bL):∃a,d=.tup a/\fL a:=by cases d<;>first|exact#[_,rfl,h]|exact h.elim
theorem onRe.inv(h:onRe d fA p bA bp):(∃a,d=.ref a/\fA a)\/p:=by cases d<;>first|exact .inl #[_,rfl,h]|exact .inr h
theorem onTe.inv(h:onTe d fL p bL bp):(∃a,d=.tup a/\fL a)\/p:=by cases d<;>first|exact .inl #[_,rfl,h]|exact .inr h
theorem onTM.inv(h:onTM d fL gL p bL cL bp):(∃a,d=.tup a/\fL a)\/(∃a,d=.ml a/\gL a)\/p:=by cases d<;>first|exact .inl #[_,rfl,h]|exact .inr (.inl #[_,rfl,h])|exact .inr (.inr h)
theorem onIST.inv(h:onIST d fI fS fL p bI bS bL bp):(∃a,d=.int a/\fI a)\/(∃a,d=.str a/\fS a)\/(∃a,d=.tup a/\fL a)\/p:=by cases d<;>first|exact .inl #[_,rfl,h]|exact .inr (.inl #[_,rfl,h])|exact .inr (.inr<|.inl #[_,rfl,h])|exact .inr (.inr<|.inr h)
theorem onSR.inv(h:onSR d fS fA bS bA):(∃a,d=.str a/\fS a)\/∃a,d=.ref a/\fA a:=by cases d<;>first|exact .inl #[_,rfl,h]|exact .inr #[_,rfl,h]|exact h.elim
theorem onN.inv(h:onN d p bp):d=.non/\p:=by cases d<;>first|exact#[rfl,h]|exact h.elim
end
section
variable{p:Prop}
theorem mL_l:mL (ap<|.lst l) fL bL=fL l:=rfl
theorem mK_k:mK (ap<|.dK ab4) gK bK=gK ab4:=rfl
theorem mN_n:mN (ap<|.ins a fs) fN bN=fN a fs:=rfl
theorem mLe_l:mLe (ap<|.lst l) fL p bL bp=fL l:=rfl
theorem mLe_k:mLe (ap<|.dK ab4) fL p bL bp=p:=rfl
theorem mLe_t:mLe (ap<|.dT tvs) fL p bL bp=p:=rfl
theorem mLe_n:mLe (ap<|.ins a fs) fL p bL bp=p:=rfl
theorem mLe_0:mLe ay fL p bL bp=p:=rfl
theorem mSet_l:mSet (ap<|.lst l) fL gK hT bL bK bT=fL l:=rfl
theorem mSet_k:mSet (ap<|.dK ab4) fL gK hT bL bK bT=gK ab4:=rfl
theorem mSet_t:mSet (ap<|.dT tvs) fL gK hT bL bK bT=hT tvs:=rfl
theorem mL.inv(h:mL m fL bL):∃a,m=ap (.lst a)/\fL a:=by rcases m with _|⟨_⟩|_|_|_<;>first|exact#[_,rfl,h]|trivial
theorem mK.inv(h:mK m gK bK):∃a,m=ap (.dK a)/\gK a:=by rcases m with _|⟨_⟩|_|_|_<;>first|exact#[_,rfl,h]|trivial
theorem mLe.inv(h:mLe m fL p bL bp):(∃a,m=ap (.lst a)/\fL a)\/p:=by rcases m with _|⟨_⟩|_|_|_<;>first|exact .inl #[_,rfl,h]|exact .inr h
theorem mSet.inv(h:mSet m fL gK hT bL bK bT):(∃a,m=ap (.lst a)/\fL a)\/(∃a,m=ap (.dK a)/\gK a)\/∃a,m=ap (.dT a)/\hT a:=by rcases m with _|⟨_⟩|_|_|_<;>first|exact .inl #[_,rfl,h]|exact .inr (.inl #[_,rfl,h])|exact .inr (.inr #[_,rfl,h])|trivial
theorem mN.inv(h:mN m fN bN):∃a b,m=ap (.ins a b)/\fN a b:=by rcases m with _|⟨_⟩|_|_|_<;>first|exact#[_,_,rfl,h]|trivial
end
end
def Rkv{κ:Type}(K:UE)(H:Hp):List (κ×D)->List (κ×V)->Prop:=X_ λp q=>p.1=q.1/\Rp K H p.2 q.2
def RepO(K:UE)(H:Hp)(a:eg):MO->Prop
 |.lst xs=>∃vs,H a=ap (.lst vs)/\Rps K H xs vs
 |.dK ab4=>∃ws,H a=ap (.dK ws)/\Rkv K H ab4 ws
 |.dT ab4=>∃ws,H a=ap (.dT ws)/\Rkv K H ab4 ws
 |.ins C fs=>∃dx ws,H a=ap (.ins C dx ws)/\Rkv K H fs ws
def RepH(K:UE)(H:Hp)(M:Mem):Prop:=∀a o,M a=ap o->RepO K H a o
section
variable{u:HO}
@[simp] theorem Mem.upd_same:(M.upd a o) a=ap o:=by simp[Mem.upd]
theorem ae(h:b≠a):(M.upd a o) b=M b:=by simp[Mem.upd,h]
@[simp] theorem Mem.upd_upd:(M.upd a o).upd a o'=M.upd a o':=by funext c;simp[Mem.upd];split<;>rfl
@[simp] theorem Mem.upd_del:(M.upd a o).del a=M.del a:=by funext c;simp[Mem.upd,Mem.del];split<;>rfl
theorem au(h:M a=ay):M.del a=M:=by
 funext c;simp[Mem.del];simp_all
theorem aA(h:a≠b):(M.upd a o).upd b f=(M.upd b f).upd a o:=by
 funext c;simp[Mem.upd];split
 .rename_i e;rw[e,if_neg (Vb h)]
 rfl
theorem Mem.ne(h:M a=ap o)(h':M b=ay):a≠b:=by intro e;simp_all
theorem Rkv.mono(i:Imm H H')(h:Rkv K H ab4 g):Rkv K H' ab4 g:=ir h λ_ _ z=>#[z.1,z.2.mono i]
theorem RepO.obj(r:RepO K H a o):∃u,H a=ap u:=by
 cases o with
 |ins C fs=>obtain⟨g,f,e,_⟩:=r;exact#[_,e]
 |_=>obtain⟨f,e,_⟩:=r;exact#[_,e]
theorem RepO.keep(r:RepO K H a o)(i:Imm H H')(e:H' a=H a):RepO K H' a o:=by
 cases o with
 |ins C fs=>obtain⟨g,f,q,z⟩:=r;exact#[g,f,e.trans q,z.mono i]
 |_=>obtain⟨f,q,z⟩:=r;exact#[f,e.trans q,z.mono i]
theorem RepH.fresh(r:RepH K H M)(h:H a=ay):M a=none:=by
 cases e:M a with
 |none=>rfl
 |some o=>obtain⟨u,q⟩:=(r a o e).obj;simp_all
def Bk:Option HO->Prop
 |some (.tup _)=>False
 |some (.frz _ _)=>False
 |_=>True
theorem Imm.upd(h:Bk (H a)):Imm H (upd H a u):=by
 refine#[λp f e=>?_,λp o v e=>?_]
 .rw[aM];exact e
  rintro rfl;rw[e]at h;exact h
 rw[aM];exact e
 rintro rfl;rw[e]at h;exact h
theorem Imm.new(h:H a=ay):Imm H (_2.upd H a u):=Imm.upd (by rw[h];trivial)
theorem RepO.loose(r:RepO K H a o):Bk (H a):=by
 cases o with
 |ins C fs=>obtain⟨g,f,e,_⟩:=r;rw[e];trivial
 |_=>obtain⟨f,e,_⟩:=r;rw[e];trivial
theorem RepH.new(r:RepH K H M)(h:H a=ay):RepH K (_2.upd H a u) M:=λb o e=>by
 obtain⟨v,q⟩:=(r b o e).obj;exact(r b o e).keep (Imm.new h) (aM<|bo q h)
theorem RepH.put(r:RepH K H M)(h:Bk (H a))(n:RepO K (_2.upd H a u) a o):RepH K (_2.upd H a u) (M.upd a o):=λb p e=>by
 by_cases f:b=a
 .subst f;rw[Mem.upd_same]at e;cases e;exact n
 .rw[ae f]at e
  exact(r b p e).keep (Imm.upd h) (aM f)
theorem RepH.keep(r:RepH K H M)(i:Imm H H')(e:∀b o,M b=ap o->H' b=H b):RepH K H' M:=λb o q=>(r b o q).keep i (e b o q)
structure Frm(M:Mem)(H:Hp)(M':Mem)(H':Hp):Prop where
 keep:∀b u,H b=ap u->M b=ay->H' b=ap u/\M' b=ay
theorem Frm.refl:Frm M H M H:=#[by lia]
theorem Frm.trans{M1 M2:Mem}(x:Frm M H M1 H1)(y:Frm M1 H1 M2 H2):Frm M H M2 H2:=#[λb u e n=>let ⟨e1,n1⟩:=x.keep b u e n;y.keep b u e1 n1]
theorem Frm.imm(f:Frm M H M' H')(r:RepH K H M):Imm H H':=by
 have g:∀b u,H b=ap u->¬Bk (ap u)->H' b=ap u:=λb u e n=>(f.keep b u e (by
  cases q:M b with
  |none=>rfl
  |some o=>exact absurd (by rw[<- e];exact(r b o q).loose) n)).1
 exact#[λp h e=>g p _ e (λz=>z),λp o u e=>g p _ e (λz=>z)]
theorem Frm.new(h:H a=ay):Frm M H M (_2.upd H a u):=#[λb v e n=>#[by rw[aM (by lia)];exact e,n]]
theorem Frm.put(h:H a=ay\/∃o,M a=ap o):Frm M H (M.upd a o) (_2.upd H a u):=#[λb v e n=>by
 have f:b≠a:=by
  rintro rfl
  simp_all
 exact#[by rw[_2.aM f];exact e,by rw[ae f];exact n]]
theorem Frm.del(h:∃o,M a=ap o):Frm M H (M.del a) (_2.upd H a u):=#[λb v e n=>by
 have f:b≠a:=by
  rintro rfl
  simp_all
 refine#[by rw[_2.aM f];exact e,?_]
 unfold Mem.del
 simp_all]
theorem Rp.mf(x:Rp K H d v)(r:RepH K H M)(f:Frm M H M' H'):Rp K H' d v:=x.mono (f.imm r)
theorem Rps.mf(x:Rps K H d v)(r:RepH K H M)(f:Frm M H M' H'):Rps K H' d v:=x.mono (f.imm r)
end
abbrev Dl:=List (Option D)
abbrev DK:=D->Mem->Prop
abbrev bh:=Dl->Mem->DK->Prop
abbrev fZ:=Dl->Mem->(Bool->Mem->Prop)->Prop
abbrev dG:=Dl->Mem->(List D->Mem->Prop)->Prop
structure RepS(K:UE)(H:Hp)(Y:Dl)(U:St):Prop where
 len:Y.length=U.length
 get:∀(i:Nat)(d:D),Y[i]?=ap (ap d)->∃v,U[i]?=ap (ap v)/\Rp K H d v
theorem RepS.mono(r:RepS K H Y U)(i:Imm H H'):RepS K H' Y U:=
 #[r.len,λj d e=>by obtain⟨v,b,f⟩:=r.get j d e;exact#[v,b,f.mono i]]
theorem RepS.set(r:RepS K H Y U)(h:Rp K H d v):RepS K H (Y.set i<|some d) (U.set i<|some v):=by
 refine#[by simp[r.len],λj e q=>?_]
 rw[Xr]at q ⊢
 by_cases b:i=j
 .rw[if_pos b]at q ⊢
  by_cases f:i<Y.length
  .rw[if_pos (by rw[<- r.len];assumption)]
   simp_all
  simp_all
 rw[if_neg b]at q ⊢;exact r.get j e q
structure Bd where
 p:Mem->Hp->Prop
 go:∀{M M':Mem}{H H':Hp},p M H->Frm M H M' H'->p M' H'
noncomputable def Bd.of(M:Mem)(H:Hp):Bd:=#[λM' H'=>Frm M H M' H',λa b=>a.trans b]
structure SR(X:Cx)(B:Bd)(Y:Dl)(M:Mem)(U:St)(H:Hp):Prop where
 i0:B.p M H
 rh:RepH X.K H M
 rs:RepS X.K H Y U
theorem SR.go(s:SR X B Y M U H)(rh:RepH X.K H' M')(i:Frm M H M' H'):SR X B Y M' U H':=#[B.go s.i0 i,rh,s.rs.mono<|i.imm s.rh]
def Up(K:UE)(M:Mem)(H:Hp)(QQ:DK)(Q:VK):Prop:=∀d M',QQ d M'->∀v H',RepH K H' M'->Frm M H M' H'->Rp K H' d v->Q v H'
def UpT(K:UE)(M:Mem)(H:Hp)(QQ:Bool->Mem->Prop)(Q:Bool->Hp->Prop):Prop:=∀b M',QQ b M'->∀H',RepH K H' M'->Frm M H M' H'->Q b H'
def UpA(K:UE)(M:Mem)(H:Hp)(QQ:List D->Mem->Prop)(Q:List V->Hp->Prop):Prop:=∀ds M',QQ ds M'->∀vs H',RepH K H' M'->Frm M H M' H'->Rps K H' ds vs->Q vs H'
theorem Up.go{M1:Mem}(u:Up K M H QQ Q)(i:Frm M H M1 H1):Up K M1 H1 QQ Q:=λd M' q v H' a b=>u d M' q v H' a (i.trans b)
theorem UpT.go{M1:Mem}(u:UpT K M H QQ Q)(i:Frm M H M1 H1):UpT K M1 H1 QQ Q:=λd M' q H' a b=>u d M' q H' a (i.trans b)
inductive liftE(X:Cx)(B:Bd)(T:bh)(U:St)(H:Hp)(Q:VK):Prop
 |mk (Y:Dl) (M:Mem) (QQ:DK) (s:SR X B Y M U H) (h:T Y M QQ) (u:Up X.K M H QQ Q):liftE X B T U H Q
inductive liftT(X:Cx)(B:Bd)(T:fZ)(U:St)(H:Hp)(Q:Bool->Hp->Prop):Prop
 |mk (Y:Dl) (M:Mem) (QQ:Bool->Mem->Prop) (s:SR X B Y M U H) (h:T Y M QQ) (u:UpT X.K M H QQ Q):liftT X B T U H Q
inductive liftA(X:Cx)(B:Bd)(T:dG)(U:St)(H:Hp)(Q:List V->Hp->Prop):Prop
 |mk (Y:Dl) (M:Mem) (QQ:List D->Mem->Prop) (s:SR X B Y M U H) (h:T Y M QQ) (u:UpA X.K M H QQ Q):liftA X B T U H Q
def DE(X:Cx)(B:Bd)(e:f')(T:bh):Prop:=PE X e (liftE X B T)
def DT(X:Cx)(B:Bd)(e:f')(T:fZ):Prop:=PT X e (liftT X B T)
def DA(X:Cx)(B:Bd)(es:acd)(T:dG):Prop:=PA X es (liftA X B T)
theorem aT(h:PE X e t)(w:∀U H Q,t' U H Q->t U H Q):PE X e t':=λb s U H Q I q=>h _ s U H Q I (w U H Q q)
theorem uW(h:PT X e t)(w:∀U H Q,t' U H Q->t U H Q):PT X e t':=λb s U H Q I q=>h _ s U H Q I (w U H Q q)
theorem zZ{e:acd}(h:PA X e t)(w:∀U H Q,t' U H Q->t U H Q):PA X e t':=λpos b s U H Q I q=>h _ _ s U H Q I (w U H Q q)
theorem bR{e:om}(h:PS X e t)(w:∀D U H,t' D U H->t D U H):PS X e t':=λb s U H D I q=>h _ s U H D I (w D U H q)
theorem oN{e:ace}(h:wk X e t)(w:∀D U H,t' D U H->t D U H):wk X e t':=λb s U H D I q=>h _ s U H D I (w D U H q)
def ac(i:Nat):bh:=λY M Q=>s2 (Y[i]?) λd=>Q d M
def dC(d:D):bh:=λ_ M Q=>Q d M
section
variable{a:f'}
theorem Ru(m:X.N[i]?=ap x)(j:RG X.env.scope x)(l:(x==("__debug__":Str))=false:=by decide)(hcd:(x==("__classdict__":Str))=false:=by decide):DE X B (.Name x pos) (ac i):=by
 refine aT (G_ m j l hcd) ?_
 rintro U H Q ⟨Y,M,QQ,s,h,u⟩
 unfold ac at h;obtain⟨d,e,h⟩:=h.inv;obtain⟨v,f,g⟩:=s.rs.get i d e;exact#[v,f,u d M h v H s.rh Frm.refl g]
theorem DQ(h:PE X e (tC v))(r:∀H,Rp X.K H d v):DE X B e (dC d):=by
 refine aT h ?_
 rintro U H Q ⟨Y,M,QQ,s,h,u⟩
 exact u d M h v H s.rh Frm.refl (r H)
theorem OU{i j pos}:DE X B (.Constant (.int i) j pos) (dC<|.int i):=DQ (λ_ _ _ H _ I h=>wpAny_Constant_int #[.int i,H,I.tok _,#[_,rfl],h]) λ_=>rfl
theorem S5{i j pos}:DE X B (.Constant (.bool i) j pos) (dC<|.bl i):=DQ Tv λ_=>rfl
theorem Ro{j pos}:DE X B (.Constant .none j pos) (dC .non):=DQ QT λ_=>rfl
theorem Qq{i j pos}:DE X B (.Constant (.str i) j pos) (dC<|.str i):=DQ I_ λ_=>rfl
theorem Jh(f:Gl X x)(h:X.mg x=ap u)(r:RelV v u)(q:∀H,Rp X.K H d v)(g:(x==("__debug__":Str))=false:=by decide):DE X B (.Name x pos) (dC d):=DQ (Lu f h r g) q
abbrev g9:=D->D->Mem->DK->Prop
inductive liftR2(X:Cx)(r:g9)(x y:V)(H:Hp)(Q:VK):Prop
 |mk (d1 d2:D) (M:Mem) (QQ:DK) (rh:RepH X.K H M) (r1:Rp X.K H d1 x) (r2:Rp X.K H d2 y) (h:r d1 d2 M QQ) (u:Up X.K M H QQ Q):liftR2 X r x y H Q
def ai(r:g9)(ta tb:bh):bh:=λY M Q=>ta Y M λx M1=>tb Y M1 λy M2=>r x y M2 Q
theorem nL(h:liftE X B (ai r ta tb) U H Q):Ua (liftR2 X r) (liftE X B ta) (liftE X B tb) U H Q:=by
 obtain⟨Y,M,QQ,s,h,u⟩:=h;exact#[Y,M,_,s,h,λx M1 i v1 H1 f i1 l=>#[Y,M1,_,s.go f i1,i,λy M2 m v2 H2 g i2 j=>#[x,y,M2,QQ,g,l.mf f i2,j,m,u.go<|i1.trans i2]]]
theorem hW(i:cQ X (kc f) (liftR2 X r))(j:DE X B a ta)(g:DE X B b tb):DE X B (.BinOp a f b pos) (ai r ta tb):=aT ((λz B l=>by
   intro ab2 s U H Q I h;exact wpAny_BinOp (Oi B l I h λv u s2 x y H2 I2 g j q=>z _ s2 U H2 x y v u Q I2 g j q)) i j g) λ_ _ _ h=>nL h
theorem sG(l:cQ X (kl f) (liftR2 X r))(j:DE X B a ta)(g:DE X B b tb)(i:aa' f b=eC):DE X B (.Compare a [f] [b] pos) (ai r ta tb):=aT ((λB F l z=>by
   intro ab2 s U H Q I h;exact wpAny_Compare1 (Oi F l I h λv u s2 x y H2 I2 g j q=>B ab2 s2 U H2 x y v u Q I2 g j q) z) l j g i) λ_ _ _ h=>nL h
theorem T0(f:IxR X (liftR2 X r))(j:DE X B a ta)(i:DE X B b tb)(g:BO b):DE X B (.Subscript a b pos) (ai r ta tb):=aT (TJ f j i g) λ_ _ _ h=>nL h
def ao(t:bh):fZ:=λY M Q=>t Y M λd M'=>onB d λk=>Q k M'
theorem dO(y:cQ X (kl f) (liftR2 X r))(w:DE X B a ta)(m:DE X B b tb)(o:aa' f b=eC):DT X B (.Compare a [f] [b] pos) (ao<|ai r ta tb):=by
 refine uW (Lg y w m o) ?_
 rintro U H Q ⟨Y,M,QQ,s,h,u⟩
 have j:liftE X B (ai r ta tb) U H (λx H'=>∃k,x=.bl k/\Q k H'):=by
  refine#[Y,M,_,s,h,λd M' q v H' l i g=>?_];cases d with
  |bl k=>exact#[k,g,u k M' q H' l i]
  |_=>exact q.elim
 exact nL j
def EY(M:Mem):D->Option Bool
 |.non=>ap eC
 |.bl b=>ap b
 |.int i=>ap (i != 0)
 |.str y=>if y.length<=sizeLine then ap ((y.length:Int) != 0) else ay
 |.tup xs=>ap (!xs.isEmpty)
 |.lst xs=>ap (!xs.isEmpty)
 |.ref a=>match M a with
  |some (.lst xs)=>ap (!xs.isEmpty)
  |some (.dK xs)=>ap (!xs.isEmpty)
  |_=>ay
 |_=>ay
def cz(t:bh):fZ:=λY M Q=>t Y M λd M'=>so (EY M' d) λk=>Q k M'
theorem h_(r:Rps K H ds vs):vs.isEmpty=ds.isEmpty:=by
 have:=r.length;cases ds<;>cases vs<;>simp_all
theorem Rf(h:DE X B e ta)(l:∀f,isTrue e X.env f=(do let v <- f;R' e.pos;py [v] (truthy v)):=by intro _;rfl):DT X B e (cz ta):=by
 refine uW (HV h l) ?_
 rintro U H Q ⟨Y,M,QQ,s,h,u⟩
 refine#[Y,M,_,s,h,λd M' q v H' g i j=>?_];obtain⟨k,e,q⟩:=q.inv;exact#[k,(λl r e=>by
    cases d with
    |non=>cases r;cases e;rfl
    |bl b=>cases r;cases e;rfl
    |int i=>cases r;cases e;rfl
    |str y=>
     cases r;simp only[EY]at e
     split at e
     .cases e;trivial
     cases e
    |tup h=>
     obtain⟨p,f,rfl,t,r⟩:=r;cases e;exact .inr (.inl #[f,t.sq,by rw[h_ r]])
    |lst h=>
     obtain⟨p,f,rfl,t,r⟩:=r;cases e;exact .inl #[f,t.sq,by rw[h_ r]]
    |ref a=>
     cases r;simp[EY]at e
     split at e
     .rename_i h q
      obtain⟨f,j,g⟩:=l _ _ q;cases e;exact .inl #[f,SqL.of j,by rw[h_ g]]
     .rename_i h q
      obtain⟨f,j,g⟩:=l _ _ q;cases e;refine .inr (.inr #[f,j,?_]);cases g<;>rfl
     cases e
    |_=>cases e) g j e,u k M' q H' g i]
def gs(t:fZ):fZ:=λY M Q=>t Y M λc M1=>Q (!c) M1
theorem Q3(g:DT X B a f):DT X B (.UnaryOp .Not a pos) (gs f):=by
 refine uW (NY g) ?_
 rintro U H Q ⟨Y,M,QQ,s,h,u⟩
 exact#[Y,M,_,s,h,λc=>u _]
end
section
variable{a:f'}
def DW(X:Cx)(B:Bd)(e:f')(T:fZ):Prop:=PW X e (liftT X B T)
theorem Uv(h:DW X B e T):DT X B e T:=(λh=>h _) h
theorem Ci(h:PW X e t)(w:∀U H Q,t' U H Q->t U H Q):PW X e t':=λg f s U H Q I q=>h g _ s U H Q I (w U H Q q)
def va(t u:fZ):fZ:=λY M Q=>t Y M λc M1=>if c=true then u Y M1 Q else Q eC M1
def yQ(t u:fZ):fZ:=λY M Q=>t Y M λc M1=>if c=true then Q true M1 else u Y M1 Q
theorem JG(f:DT X B a tA):DW X B (.BoolOp .And [a] pos) tA:=Ld f
theorem QW(f:DT X B a tA):DW X B (.BoolOp .Or [a] pos) tA:=Rx f
theorem Q7(j:DT X B a tA)(g:DW X B (.BoolOp .And (b::rest) pos) tB'):DW X B (.BoolOp .And (a::b::rest) pos) (va tA tB'):=by
 refine Ci (QG j g) ?_
 rintro U H Q ⟨Y,M,QQ,s,h,u⟩
 refine#[Y,M,_,s,h,λc M' q H' f i=>?_];cases c with
 |true=>exact#[Y,M',QQ,s.go f i,q,u.go i]
 |false=>exact u _ M' q H' f i
theorem SN(j:DT X B a tA)(g:DW X B (.BoolOp .Or (b::rest) pos) tB'):DW X B (.BoolOp .Or (a::b::rest) pos) (yQ tA tB'):=by
 refine Ci (RO j g) ?_
 rintro U H Q ⟨Y,M,QQ,s,h,u⟩
 refine#[Y,M,_,s,h,λc M' q H' f i=>?_];cases c with
 |false=>exact#[Y,M',QQ,s.go f i,q,u.go i]
 |true=>exact u _ M' q H' f i
def fJ(ta tb:bh):bh:=λY M Q=>ta Y M λx M1=>OC x (tb Y M1 Q) (Q (.bl eC) M1)
def My(ta:bh):bh:=λY M Q=>ta Y M λx M1=>onB x λc=>Q (.bl<|!c) M1
theorem Os{op}(h:DE X B a t):DE X B (.BoolOp op [a] pos) t:=OD h
theorem Q1(j:DE X B a ta)(g:DE X B (.BoolOp .And (b::rest) pos) tb):DE X B (.BoolOp .And (a::b::rest) pos) (fJ ta tb):=by
 refine aT (PK j g) ?_
 rintro U H Q ⟨Y,M,QQ,s,h,u⟩
 refine#[Y,M,_,s,h,λd M' q v H' f i r=>?_];cases d with
 |bl c=>
  cases c with
  |true=>exact#[_,r,by exact#[Y,M',QQ,s.go f i,q,u.go i]]
  |false=>exact#[_,r,by exact u _ M' q _ H' f i rfl]
 |_=>exact q.elim
theorem Ox(g:DE X B a ta):DE X B (.UnaryOp .Not a pos) (My ta):=by
 refine aT (Q6 g) ?_
 rintro U H Q ⟨Y,M,QQ,s,h,u⟩
 refine#[Y,M,_,s,h,λd M' q v H' f i r=>?_];cases d with
 |bl c=>exact#[c,r,u _ M' q _ H' f i rfl]
 |_=>exact q.elim
def qz(t:fZ)(ta tb:bh):bh:=λY M Q=>t Y M λc M1=>if c=true then ta Y M1 Q else tb Y M1 Q
theorem F7(g:DT X B c tA)(l:DE X B a ta)(j:DE X B b tb):DE X B (.IfExp c a b pos) (qz tA ta tb):=by
 refine aT (IH g l j) ?_
 rintro U H Q ⟨Y,M,QQ,s,h,u⟩
 refine#[Y,M,_,s,h,λc M' q H' f i=>?_];cases c with
 |_=>exact#[Y,M',QQ,s.go f i,q,u.go i]
def ag:dG:=λ_ M Q=>Q [] M
def aa(ta:bh)(tr:dG):dG:=λY M Q=>ta Y M λx M1=>tr Y M1 λf M2=>Q (x::f) M2
theorem Ri:DA X B [] ag:=by
 refine zZ y9 ?_
 rintro U H Q ⟨Y,M,QQ,s,h,u⟩
 exact u [] M h [] H s.rh Frm.refl .nil
theorem LB(v:DE X B e te)(o:DA X B es t)(q:eH (e::es) X.env=(eC,g3 e X.env)::eH es X.env:=by rfl):DA X B (e::es) (aa te t):=by
 refine zZ (tB v o q) ?_
 rintro U H Q ⟨Y,M,QQ,s,h,u⟩
 exact#[Y,M,_,s,h,λx M1 i v1 H1 f i1 l=>#[Y,M1,_,s.go f i1,i,λw M2 m v2 H2 g i2 j=>u _ M2 m _ H2 g (i1.trans i2) (.cons (l.mf f i2) j)]]
def aQ(t:dG):bh:=λY M Q=>t Y M λf M1=>f.length<=sizeLine/\Q (.tup f) M1
def bP(t:dG):bh:=λY M Q=>t Y M λf M1=>f.length<=sizeLine/\∀p,M1 p=ay->Q (.ref p) (M1.upd p<|.lst f)
theorem QI{x1}(h:DA X B es t):DE X B (.Tuple es x1 pos) (aQ t):=by
 refine aT (OB h) ?_
 rintro U H Q ⟨Y,M,QQ,s,h,u⟩
 exact#[Y,M,_,s,h,λl M1 j v1 H1 f i1 i=>#[by rw[<- i.length];exact j.1,λp g=>u _ M1 j.2 _ _ (f.new g) (i1.trans<|Frm.new g) #[p,v1,rfl,upd_same,i.mono<|Imm.new g]]]
theorem Rr(h:DA X B es t):DE X B (.List es pos) (bP t):=by
 refine aT (O5 h) ?_
 rintro U H Q ⟨Y,M,QQ,s,h,u⟩
 exact#[Y,M,_,s,h,λxs M1 h1 v1 H1 rh1 i1 r1=>#[by rw[<- r1.length];exact h1.1,λp hp=>u _ _ (h1.2 p<|rh1.fresh hp) _ _ (rh1.put (by rw[hp];trivial) #[v1,upd_same,r1.mono<|Imm.new hp]) (i1.trans<|Frm.put<|.inl hp) rfl]]
theorem Inv.freeze(I:Inv X g U H s)(h:H p=ap (.lst vs)):∃o,Inv X g U (upd H p<|.frz o<|.lst vs) s:=by
 obtain⟨i,n,r,e,z⟩:=I.lst h;have ne:∀{b:eg}{u:Option HO},H b=u->u≠ap (.lst vs)->b≠p:=λ{b u} q J z=>by subst z;rw[h]at q;exact J q.symm
 refine#[{ cls:=.type "list",data:=.seq i.toArray n },I.ok,I.os,I.bare,#[I.base.keep,I.base.slot,λb o q F E=>?_,I.base.there,λb m q=>?_,λb o u q=>?_,λb A q=>?_],I.loc,I.cell,?_,λx c q=>?_,λC G=>?_,λb o q=>?_,I.len]
 .have f:=I.base.free b o q F E
  rw[aM (ne f<|by simp)];exact f
 .have f:=I.base.tups b m q
  rw[aM (ne f<|by simp)];exact f
 .have f:=I.base.frzs b o u q
  rw[aM (ne f<|by simp)];exact f
 .obtain⟨more,f⟩:=I.base.tbls b A q
  exact#[more,by rw[aM (ne f<|by simp)];exact f]
 .rw[aM (ne I.free<|by simp)];exact I.free
 .have f:=I.freeC x c q
  rw[aM (ne f<|by simp)];exact f
 .obtain⟨v,l,w⟩:=I.pin C G
  exact#[v,by rw[aM (ne l<|by simp)];exact l,w]
 .by_cases j:b=p
  .subst j
   rw[upd_same]at q;cases q;refine#[e,?_];exact#[z,i,n,r,e]
  .rw[aM j]at q
   refine (I.hok b o q).stay (λ_ _ _ y=>y) (λc y=>?_) λc m y=>?_
   .rw[aM (ne y<|by simp)];exact y
   .rw[aM (ne y<|by simp)];exact y
def frz(d:D)(M:Mem)(Q:DK):Prop:=onRe d (λa=>mLe (M a) (λf=>Q (.lst f) (M.del a)) (Q d M)) (Q d M)
def aq(t:bh):bh:=λY M Q=>t Y M λd M'=>frz d M' Q
theorem RepH.freeze(r:RepH K H M)(h:H p=ap (.lst vs)):RepH K (upd H p<|.frz o<|.lst vs) (M.del p):=λb u e=>by
 unfold Mem.del at e
 split at e
 .cases e
 rename_i hb
 exact(r b u e).keep (Imm.upd<|by rw[h];trivial) (aM hb)
theorem Qu(h:DE X B e te):DE X B e (aq te):=by
 rintro l s U H Q I ⟨Y,M,QQ,m,y,u⟩
 refine bE (h _ s U H (λv H'=>∃d M',RepH _ H' M'/\Frm M H M' H'/\Rp _ H' d v/\frz d M' QQ) I #[Y,M,_,m,y,λd M' q v H' f i r=>#[d,M',f,i,r,q]]) ?_
 rintro w A ⟨v,H',I',j,d,M',f,i,r,q⟩
 unfold frz at q;rcases q.inv with⟨a,rfl,q⟩|q
 .rcases q.inv with⟨C,e,q⟩|q
  .obtain⟨x,g,z⟩:=f _ _ e
   obtain⟨o,I2⟩:=Inv.freeze I' g;exact#[v,_,I2,j,u _ _ q v _ (f.freeze g) (i.trans<|Frm.del #[_,e]) #[a,x,r,#[o,upd_same],z.mono<|Imm.upd<|by rw[g];trivial]]
  exact#[v,H',I',j,u _ _ q v H' f i r]
 exact#[v,H',I',j,u _ _ q v H' f i r]
end
def dI(M:Mem):D->Option (List D)
 |.lst xs=>ap xs
 |.ref a=>match M a with
  |some (.lst xs)=>ap xs
  |_=>ay
 |_=>ay
def aO(M:Mem):D->Option (List D)
 |.tup xs=>ap xs
 |.lst xs=>ap xs
 |.mt xs=>ap xs
 |.ml xs=>ap xs
 |.ref a=>match M a with
  |some (.lst xs)=>ap xs
  |_=>ay
 |_=>ay
theorem eJ(i:RepH K H M)(r:Rp K H d v)(e:dI M d=ap xs):∃p vs,v=.ref p/\Rd H p (.lst vs)/\Rps K H xs vs:=by
 cases d with
 |lst f=>
  cases e;obtain⟨p,vs,rfl,⟨o,h⟩,r⟩:=r;exact#[p,vs,rfl,.inr #[o,h],r]
 |ref a=>
  simp[dI]at e
  split at e
  .rename_i f q
   cases e;obtain⟨vs,g,b⟩:=i _ _ q;exact#[a,vs,r,.inl g,b]
  cases e
 |_=>cases e
theorem j_(i:RepH K H M)(r:Rp K H d v)(e:aO M d=ap xs):∃p vs,v=.ref p/\(SqL K H p vs\/lW K H p vs)/\Rps K H xs vs:=by
 cases d with
 |tup b=>
  cases e;obtain⟨p,vs,rfl,h,r⟩:=r;exact#[p,vs,rfl,.inr h.sq,r]
 |lst b=>
  cases e;obtain⟨p,vs,rfl,h,r⟩:=r;exact#[p,vs,rfl,.inl h.sq,r]
 |mt b=>
  cases e;obtain⟨p,vs,rfl,h,r⟩:=r;exact#[p,vs,rfl,.inr h.sq,r]
 |ml b=>
  cases e;obtain⟨p,vs,rfl,h,r⟩:=r;exact#[p,vs,rfl,.inl h.sq,r]
 |ref a=>
  simp[aO]at e
  split at e
  .rename_i b q
   cases e;obtain⟨vs,g,f⟩:=i _ _ q;exact#[a,vs,r,.inl (SqL.of g),f]
  cases e
 |_=>cases e
theorem Kf:cQ X (kc .Add) (λx y H Q=>∃l b xs zs,x=.ref l/\y=.ref b/\Rd H l (.lst xs)/\Rd H b (.lst zs)/\xs.length+zs.length<=sizeLine/\∀p,H p=ay->Q (.ref p) (upd H p<|.lst (xs++zs))):=by
 rintro h s U H x y v u Q I m o ⟨l,b,xs,zs,rfl,rfl,w,E,J,q⟩
 cases m;cases o;obtain⟨z,g,n,r,e⟩:=w.ok I.hok;obtain⟨L,f,G,i,A⟩:=E.ok I.hok;have F:=r.length;have j:=i.length;refine PySem.P.add_list e A ?_ (by simp_all)
 have C:g.toArray++f.toArray=(g++f).toArray:=by simp
 rw[C];exact#[.ref _,_,I.lnew (r.append i) (by rw[UU];lia),rfl,q _ I.fresh]
def aU:g9:=λx y M Q=>onIST x (λi=>onI y λj=>Q (.int (i+j)) M) (λa=>onS y λb=>a.length+b.length<=sizeLine/\Q (.str (a++b)) M) (λxs=>onT y λf=>xs.length+f.length<=sizeLine/\Q (.tup (xs++f)) M) (so (dI M x) λxs=>so (dI M y) λf=>xs.length+f.length<=sizeLine/\∀p,M p=ay->Q (.ref p) (M.upd p<|.lst (xs++f)))
theorem Lb:cQ X (kc .Add) (liftR2 X aU):=by
 rintro ab2 s U H x y v u Q I rx ry ⟨d1,d2,M,QQ,rh,r1,r2,h,up⟩
 unfold aU at h
 replace h:=h.inv
 rcases h with⟨i,rfl,h⟩|⟨a,rfl,h⟩|⟨xs,rfl,h⟩|h
 .obtain⟨_,rfl,h⟩:=h.inv
  cases r1;cases r2;exact Oc _ s U H _ _ v u Q I rx ry #[_,_,rfl,rfl,up _ M h _ H rh Frm.refl rfl]
 .obtain⟨_,rfl,h⟩:=h.inv
  cases r1;cases r2;exact yZ _ s U H _ _ v u Q I rx ry #[_,_,rfl,rfl,h.1,up _ M h.2 _ H rh Frm.refl rfl]
 .obtain⟨_,rfl,h⟩:=h.inv
  obtain⟨p,vs,rfl,t1,r1⟩:=r1;obtain⟨p',vs',rfl,t2,r2⟩:=r2;have l1:=r1.length;have l2:=r2.length;have r12:=r1.append r2
  by_cases hx:vs=[]
  .subst hx
   exact Hs _ s U H _ _ v u Q I rx ry #[p,p',_,rfl,rfl,t1.sq,t2.sq,(up _ M h.2 _ H rh Frm.refl #[p',_,rfl,t2,r12])]
  refine LJ _ s U H _ _ v u Q I rx ry #[p,p',vs,_,rfl,rfl,t1.sq,t2.sq,hx,by lia,λe=>?_,λ_ q hq=>?_]
  .subst e
   rw[Vl]at r12;exact up _ M h.2 _ H rh Frm.refl #[p,vs,rfl,t1,r12]
  exact up _ M h.2 _ _ (rh.new hq) (Frm.new hq) #[q,_,rfl,upd_same,r12.mono<|Imm.new hq]
 obtain⟨xs,e1,h⟩:=h.inv;obtain⟨ys,e2,h⟩:=h.inv;obtain⟨p,vs,rfl,t1,r1⟩:=eJ rh r1 e1;obtain⟨p',vs',rfl,t2,r2⟩:=eJ rh r2 e2;have l1:=r1.length;have l2:=r2.length;exact Kf _ s U H _ _ v u Q I rx ry #[p,p',vs,_,rfl,rfl,t1,t2,by lia,λq hq=>up _ _ (h.2 q<|rh.fresh hq) _ _ (rh.put (by rw[hq];trivial) #[_,upd_same,(r1.append r2).mono<|Imm.new hq]) (Frm.put<|.inl hq) rfl]
def oI(C:Int->Int->Prop)(g:Int->Int->D):g9:=λx y M Q=>onI x λi=>onI y λj=>C i j/\Q (g i j) M
theorem GE(h:cQ X f (rI C g))(e:∀i j K H,Rp K H (g' i j) (g i j)):cQ X f (liftR2 X<|oI C g'):=by
 rintro l s U H x y v u Q I o w ⟨E,F,M,QQ,A,z,q,b,m⟩
 unfold oI at b
 replace b:=b.inv;obtain⟨_,rfl,b⟩:=b
 replace b:=b.inv;obtain⟨_,rfl,b⟩:=b
 cases z;cases q;exact h _ s U H _ _ v u Q I o w #[_,_,rfl,rfl,b.1,m _ M b.2 _ H A Frm.refl<|e _ _ _ _]
def md(g:Int->Int->D):g9:=λx y M Q=>onI x λi=>onI y λj=>Q (g i j) M
theorem m3(h:cQ X f (F1 g))(e:∀i j K H,Rp K H (g' i j) (g i j)):cQ X f (liftR2 X<|md g'):=by
 rintro l s U H x y v u Q I o w ⟨C,E,M,QQ,A,z,q,b,m⟩
 unfold md at b
 replace b:=b.inv;obtain⟨_,rfl,b⟩:=b
 replace b:=b.inv;obtain⟨_,rfl,b⟩:=b
 cases z;cases q;exact h _ s U H _ _ v u Q I o w #[_,_,rfl,rfl,m _ M b _ H A Frm.refl<|e _ _ _ _]
abbrev gu:g9:=md λi j=>.int (i-j)
theorem KU:cQ X (kc .Sub) (liftR2 X gu):=m3 Qk λ_ _ _ _=>rfl
abbrev dR:g9:=oI (λ_ j=>0<j) λi j=>.int (i % j)
theorem Jw:cQ X (kc .Mod) (liftR2 X dR):=GE P4 λ_ _ _ _=>rfl
def IQ(_ j:Int):Prop:=0<j/\j<2 ^ 200
abbrev gR:g9:=oI IQ λi j=>.int (i / j)
theorem GP:cQ X (kc .FloorDiv) (liftR2 X gR):=GE (by
   rintro f s U H x y v u Q I g h ⟨i,j,rfl,rfl,l,q⟩
   obtain⟨o,w⟩:=l;have m:j.toNat=j:=by lia
   refine I0 ?_ (by lia) _ s U H _ _ v u Q I g h #[i,j,rfl,rfl,m.symm,q]
   have b:j.toNat<2 ^ 200:=by
    simp_all
   have:=(Zu<|by lia).mpr b
   lia) λ_ _ _ _=>rfl
abbrev OI:g9:=oI KR λi j=>.int (i ^ j.toNat)
theorem JY:cQ X (kc .Pow) (liftR2 X OI):=GE Rs λ_ _ _ _=>rfl
abbrev Tz:g9:=md λi j=>.int (Builtin.bitXor i j)
theorem Lq:cQ X (kc .BitXor) (liftR2 X Tz):=m3 Rk λ_ _ _ _=>rfl
abbrev PN:g9:=md λi j=>.int (W7 i j)
theorem Ka:cQ X (kc .BitAnd) (liftR2 X PN):=m3 OZ λ_ _ _ _=>rfl
abbrev oOr:g9:=md λi j=>.int (XT i j)
theorem Qp:cQ X (kc .BitOr) (liftR2 X oOr):=m3 Sy λ_ _ _ _=>rfl
abbrev Se:g9:=oI KR λi j=>.int (i*2 ^ j.toNat)
theorem JH:cQ X (kc .LShift) (liftR2 X Se):=GE Qv λ_ _ _ _=>rfl
abbrev S_:g9:=oI (λ_ j=>0<=j) λi j=>.int (i / 2 ^ j.toNat)
theorem LW:cQ X (kc .RShift) (liftR2 X S_):=GE OV λ_ _ _ _=>rfl
abbrev EW:g9:=md λi j=>.bl (decide (i<j))
theorem OJ:cQ X (kl .Lt) (liftR2 X EW):=m3 SS λ_ _ _ _=>rfl
abbrev oLe:g9:=md λi j=>.bl (decide (i<=j))
theorem QZ:cQ X (kl .LtE) (liftR2 X oLe):=m3 RP λ_ _ _ _=>rfl
abbrev Ef:g9:=md λi j=>.bl (decide (j<i))
theorem PR:cQ X (kl .Gt) (liftR2 X Ef):=m3 RZ λ_ _ _ _=>rfl
abbrev oGe:g9:=md λi j=>.bl (decide (j<=i))
theorem OQ:cQ X (kl .GtE) (liftR2 X oGe):=m3 Tl λ_ _ _ _=>rfl
theorem Gq:∀(k:Nat)(ab5:Array Nat),(UX k (tX [c])).foldl (·++·) ab5=ab5++V6 k c
 |0,ab5=>by simp
 |k+1,ab5=>by
  rw[Wa,V1,Gq k _];apply Array.ext';simp[Wa]
theorem Fi:cQ X (kc .Mult) (λx y H Q=>∃c k,x=.str #[(tX [c])]/\y=.int k/\1<=k/\k<=1000/\Q (.str #[V6 k.toNat c]) H):=by
 intro f s U H x y v u Q I j l h;obtain⟨c,k,rfl,rfl,A,z,q⟩:=h;obtain⟨t,rfl⟩:=j;obtain⟨w,rfl⟩:=l;have b:(#[(tX [c])]:Str).length=1:=rfl;have o:sizeLine=16777216:=rfl;refine PySem.P.mul_str ?_ ?_ ?_ ?_
 .rw[decide_eq_false (by lia),decide_eq_false (by lia)];rfl
 .intro _ _ m
  rw[b]at m;have:(1:Int)<=(2 ^ 63-1) / k:=Int.le_ediv_of_mul_le (by lia) (by lia)
  lia
 .intro _ _
  rw[b];exact decide_eq_false (by lia)
 .rw[if_neg (by lia)]
  by_cases i:k=1
  .subst i
   exact#[.str #[(tX [c])],H,I,#[_,rfl],q]
  .rw[if_neg (by simp[b,i])]
   have g:(UX k.toNat (tX [c])).foldl (·++·) (tX [])=V6 k.toNat c:=by rw[Gq];simp
   refine#[?_,.str _,H,I.tok _,#[_,rfl],by rw[g];exact q]
   show ((UX k.toNat (tX [c])).foldl (·++·) (tX [])).size<=sizeLine;rw[g];simp;lia
def cB:g9:=λx y M Q=>onI y λk=>onIST x (λi=>CMul i k/\Q (.int (i*k)) M) (λz=>one z.cps.toList λc=>1<=k/\k<=1000/\Q (.str #[V6 k.toNat c]) M) (λxs=>xs≠[]/\0<=k/\k<=1000/\xs.length<=1000/\Q (.tup (UX k.toNat xs).flatten) M) False
theorem Rps.rep(h:Rps K H ds vs):∀k:Nat,Rps K H (UX k ds).flatten (UX k vs).flatten
 |0=>rfl
 |k+1=>by
  exact h.append (Rps.rep h k)
theorem KQ:cQ X (kc .Mult) (liftR2 X cB):=by
 rintro F s U H x y v u Q I m q ⟨N,d2,M,QQ,j,f,C,h,g⟩
 unfold cB at h;obtain⟨k,rfl,h⟩:=h.inv;cases N with
 |int i=>
  cases f;cases C;exact Oy _ s U H _ _ v u Q I m q #[_,_,rfl,rfl,h.1,g _ M h.2 _ H j Frm.refl rfl]
 |str z=>
   cases f;cases C
   replace h:one _ _:=h
   obtain⟨c,e,h⟩:=h.inv;have O:z=#[(tX [c])]:=by
    obtain⟨⟨l⟩⟩:=z
    simp_all
   subst O;exact Fi _ s U H _ _ v u Q I m q #[_,_,rfl,rfl,h.1,h.2.1,g _ M h.2.2 _ H j Frm.refl rfl]
 |tup xs=>
   obtain⟨p,E,rfl,t1,f⟩:=f;cases C;obtain⟨A,R,L,h4,G⟩:=h;have l1:=f.length;obtain⟨t,rfl⟩:=q;cases m;obtain⟨J,r,S,_⟩:=I.tuple t1.sq;have Z:=r.length;refine Ds S (λz=>A ?_) R L (by lia) (λe=>?_) λe=>?_
   .simp_all
   .refine#[.ref p,H,I,rfl,g _ M G _ H j Frm.refl #[p,E,rfl,t1,?_]]
    simp_all
   have w:=I.hok.fresh (UQ _);have P:(UX k.toNat E).flatten.length<=sizeLine:=by
    rw[Le];have A:k.toNat*E.length<=1000*1000:=Xj (by lia) (by lia)
    exact UL A (by decide)
   exact#[.ref _,_,I.laid (o:=.tup _) (λb W=>UB _) (by lia) #[P,_,r.rep _,#[_,UI _ rfl,by lia,rfl]],rfl,
    g _ M G _ _ (j.new w) (Frm.new w) #[_,_,rfl,upd_same,(f.rep _).mono<|Imm.new w]]
 |_=>exact h.elim
def lY:D->Bool
 |.non=>true
 |_=>eC
def ji:g9:=λx y M Q=>onN y (Q (.bl<|lY x) M)
def eq:g9:=λx y M Q=>onN y (Q (.bl<|!lY x) M)
theorem HW(r:Rp K H d v):decide (v=V.non)=lY d:=by
 cases d with
 |non=>cases r;rfl
 |tup xs=>obtain⟨p,b,rfl,_⟩:=r;rfl
 |lst xs=>obtain⟨p,b,rfl,_⟩:=r;rfl
 |mt xs=>obtain⟨p,b,rfl,_⟩:=r;rfl
 |ml xs=>obtain⟨p,b,rfl,_⟩:=r;rfl
 |fd ks xs=>obtain⟨p,b,rfl,_⟩:=r;rfl
 |_=>cases r;rfl
theorem BJ:cQ X (kl .Is) (liftR2 X ji):=by
 rintro b s U H x y v u Q I g j ⟨o,q,M,QQ,m,l,i,h,f⟩
 unfold ji at h;obtain⟨rfl,h⟩:=h.inv;cases i;exact Pw _ s U H _ _ v u Q I g j #[rfl,by rw[HW l];exact f _ M h _ H m Frm.refl rfl]
theorem vY:cQ X (kl .IsNot) (liftR2 X eq):=by
 rintro b s U H x y v u Q I g j ⟨o,q,M,QQ,m,l,i,h,f⟩
 unfold eq at h;obtain⟨rfl,h⟩:=h.inv;cases i;refine KJ _ s U H _ _ v u Q I g j #[rfl,f _ M h _ H m Frm.refl ?_];show _=V.bl _;rw[HW l]
section
variable{κ:Type}[DecidableEq κ]
noncomputable def dm(ab4:List (κ×D))(k:κ):Option D:=(ab4.find? λb=>decide (b.1=k)).map (·.2)
noncomputable def fU(ab4:List (κ×D))(k:κ)(v:D):List (κ×D):=
 if (ab4.any λb=>decide (b.1=k))=true then ab4.map (λb=>if b.1=k then (b.1,v) else b) else ab4++[(k,v)]
noncomputable def qF(ab4:List (κ×D))(k:κ):List (κ×D):=ab4.filter λb=>decide (b.1≠k)
theorem Rkv.val{ab4:List (κ×D)}{f:List (κ×V)}(h:Rkv K H ab4 f)(k:κ):(dm ab4 k=ay/\eF f k=ay)\/∃d v,dm ab4 k=ap d/\eF f k=ap v/\Rp K H d v:=by
 induction h with
 |nil=>exact .inl #[rfl,rfl]
 |@cons p q ps qs r t ih=>
  obtain⟨g,d⟩:=p;obtain⟨i,v⟩:=q;obtain⟨e,r⟩:=r;dsimp only at e r;subst e
  by_cases b:g=k
  .exact .inr #[d,v,by simp[dm,b],by simp[eF,b],r]
  simpa [dm,eF,b] using ih
theorem Rkv.any{ab4:List (κ×D)}{b:List (κ×V)}(h:Rkv K H ab4 b)(k:κ):(ab4.any λkv=>decide (kv.1=k))=(b.any λkv=>decide (kv.1=k)):=by
 induction h<;>simp_all
theorem Rkv.put{ab4:List (κ×D)}{f:List (κ×V)}(h:Rkv K H ab4 f)(k:κ){d:D}{v:V}(r:Rp K H d v):Rkv K H (fU ab4 k d) (fT f k v):=by
 unfold fU fT;rw[h.any k]
 split
 .rename_i q;clear q
  induction h with
  |nil=>exact .nil
  |@cons p q ps qs rr t ih=>
   obtain⟨i,m⟩:=p;obtain⟨j,l⟩:=q;obtain⟨e,g⟩:=rr;dsimp only at e g;subst e;rw[UG,UG];refine .cons ?_ ih
   by_cases b:i=k
   .rw[if_pos b,if_pos b];trivial
   rw[if_neg b,if_neg b];trivial
 rename_i q;clear q
 induction h with
 |nil=>exact .cons #[rfl,r] .nil
 |cons rr t ih=>exact .cons rr ih
theorem Rkv.drop{ab4:List (κ×D)}{b:List (κ×V)}(h:Rkv K H ab4 b)(k:κ):Rkv K H (qF ab4 k) (j5 b k):=by
 unfold qF j5
 induction h with
 |nil=>exact .nil
 |@cons p q ps qs rr t ih=>
  obtain⟨i,m⟩:=p;obtain⟨j,l⟩:=q;obtain⟨e,f⟩:=rr;subst e
  by_cases g:i=k
  .simp_all
  simp only[UZ,ne_eq,g];exact .cons #[rfl,f] ih
theorem Rkv.length{ab4:List (κ×D)}{b:List (κ×V)}(h:Rkv K H ab4 b):ab4.length=b.length:=WA h
end
def cW:D->Option aI
 |.int i=>ap (.inl i)
 |.str x=>ap (.inr x)
 |_=>ay
def jh:List D->Option (List aI)
 |[]=>ap []
 |d::ds=>match cW d,jh ds with
  |some k,ap ks=>ap (k::ks)
  |_,_=>ay
def Q4:D->Option (List aI)
 |.tup xs=>jh xs
 |_=>ay
theorem iF(r:Rp K H d v)(e:cW d=ap k):v=kV k:=by
 cases d with
 |int i=>cases e;exact r
 |str x=>cases e;exact r
 |_=>cases e
theorem oU:∀{ds:List D}{vs:List V}{ks:List aI},Rps K H ds vs->jh ds=ap ks->vs=ks.map kV
 |[],vs,ks,r,e=>by cases e;exact r
 |d::ds,vs,ks,r,e=>by
  obtain⟨v,i,rfl,a,b⟩:=r;simp[jh]at e
  split at e
  .rename_i k f g h
   cases e;rw[iF a g,oU b h];rfl
  cases e
def uF(M:Mem)(a:eg)(y:D):Option (Option D):=match M a with
 |some (.dK ab4)=>match cW y with
  |some k=>ap (dm ab4 k)
  |none=>ay
 |some (.dT ab4)=>match Q4 y with
  |some k=>ap (dm ab4 k)
  |none=>ay
 |_=>ay
theorem xp(r:Rp K H d v)(e:Q4 d=ap ks):∃b,v=.ref b/\H b=ap (.tup<|ks.map kV):=by
 cases d with
 |tup xs=>
  obtain⟨p,f,rfl,t,r⟩:=r;exact#[p,rfl,by rw[<- oU r e];exact t]
 |_=>cases e
theorem nC(s:RepH K H M)(r:Rp K H y v)(e:uF M a y=ap o):
  (o=ay/\DGet H a v ay)\/∃d w,o=ap d/\DGet H a v (ap w)/\Rp K H d w:=by
 unfold uF at e
 split at e
 .rename_i m j
  obtain⟨x,h,i⟩:=s _ _ j
  split at e
  .rename_i k l
   cases e;have u:=iF r l;subst u;rcases i.val k with⟨f,g⟩|⟨d,w,f,g,r'⟩
   .exact .inl #[f,by rw[<- g];exact DGet.k h]
   exact .inr #[d,w,f,by rw[<- g];exact DGet.k h,r']
  cases e
 .rename_i m j
  obtain⟨x,h,i⟩:=s _ _ j
  split at e
  .rename_i k l
   cases e;obtain⟨b,rfl,q⟩:=xp r l;rcases i.val k with⟨f,g⟩|⟨d,w,f,g,r'⟩
   .exact .inl #[f,by rw[<- g];exact DGet.t h q]
   exact .inr #[d,w,f,by rw[<- g];exact DGet.t h q,r']
  cases e
 cases e
end _3
namespace HT
open PySem PyProof.Rows
theorem iU(e:IsTup s.heap t a)(l:s.heap.IsSliceOf m o j .none)(pl:aa7 o b)(r:aa7 j f)
  (u:sIx a.size 0 b=0/\sIx a.size a.size f=a.size) (h:Q (.ref t) s):eS (fv prog w) A (W' (.ref t)<|.ref m) Q E s:=by
 obtain⟨q,i,g,p⟩:=id l;unfold W'
 try with_reducible refine ol ?_
 refine cT (wpAny_sequenceKey e.typeIs (by decide) ?_)
 refine cT (wpAny_callSpecial?_slot e.typeIs Vz
  (l' Vz e.typeIs entry_tuple_getitem ?_<|args_tuple_getitem _ _))
 show eS _ _ (X5 _ >>= _) _ _ s;refine cT (tupleItemsOf_ e ?_);refine cT (abd #[q,i,g] ?_);refine cT (fG l pl r ?_);have c:((((sIx a.size 0 b):Int)==0&&(1:Int)==1&&(sIx a.size a.size f-sIx a.size 0 b)==a.size)=true):=by
  simp_all
 show eS _ _ (if (((sIx _ 0 b:Nat):Int)==0&&1==1&&(sIx _ _ f-sIx _ 0 b)==a.size)=true then _ else _) _ _ s
 rw[if_pos c];refine cT (cT<|wpAny_typeOf e.typeIs<|wpAny_pure ?_)
 first
  |exact cT _
  |exact cT (WP<|wpAny_pure #[_,rfl,eX h])
  |rfl
  |trace_state
end HT
namespace _3
open PySem _2
variable{p p':eg}{a b:aci}{X:Cx}{c e:f'}{H:Hp}{U:_2.St}{es:acd}{ab8 its':aca}{i:Nat}{s:ez}{x:Str}{K:UE}{u:ax}{g:lD}{r:qr}
def fm{α:Type}(xs:List α):Int->Option α
 |.ofNat k=>xs[k]?
 |.negSucc k=>_2.atI xs (.negSucc k)
theorem yu:∀{i:Int},fm xs i=_2.atI xs i
 |.negSucc _=>rfl
 |.ofNat k=>by
  unfold _2.atI ve;rw[if_pos (by lia)]
  by_cases f:k<xs.length
  .rw[if_pos (by simp_all)];rfl
  rw[if_neg (by simp_all)];exact VT (by lia)
def aw:g9:=λx y M Q=>oe (aO M x) (λf=>onI y λi=>so (fm f i) λd=>Q d M) (onSR x (λz=>onI y λi=>z.length<=sizeLine/\so (fm z.cps.toList i) λc=>Q (.str #[(tX [c])]) M) λa=>s2 (uF M a y) λd=>Q d M)
theorem Rps.atI{i:Int}(r:Rps K H ds vs)(e:fm ds i=ap d):∃v,_2.atI vs i=ap v/\Rp K H d v:=by
 rw[yu]at e;unfold _2.atI at e ⊢;rw[<- r.length];cases q:ve _ i with
 |none=>simp_all
 |some j=>
  rw[q]at e;exact r.get e
theorem LC(E:X.A.units+1<n7):IxR X (λx y H Q=>∃a v,x=.ref a/\DGet H a y (ap v)/\Q v H):=by
 intro f l m s U H x y v u Q I o z h C;obtain⟨a,w,rfl,g,q⟩:=h;cases o;exact PyProof.Rows.tail_any ((λI g=>by
    rcases g with⟨f,k,e,_,_⟩|⟨f,k,b,e,_,_,_⟩
    .obtain⟨_,_,h,_,c⟩:=kh I.hok e
     exact c.typeIs
    obtain⟨_,_,xs,_,c⟩:=rE I.hok e;exact c.typeIs) I g) rfl (rF E I g z λG F I3 j=>#[w,H,I3,j,q]) C
theorem Qx(Y:X.A.units+1<n7):IxR X (liftR2 X aw):=by
 intro f l m s U H x y v u Q I E F h L;obtain⟨Z,d2,M,QQ,q,J,N,h,C⟩:=h;unfold aw at h
 replace h:=h.inv;rcases h with⟨xs,e,h⟩|⟨_,h⟩
 .replace h:=h.inv;obtain⟨i,rfl,h⟩:=h
  obtain⟨d,G,h⟩:=h.inv;cases N;obtain⟨p,R,rfl,hq,r⟩:=j_ q J e;obtain⟨w,P,j⟩:=r.atI G;refine (ix_list.or (ix_tup.or HS)) _ _ _ s U H _ _ v u Q I E F ?_ L;have o:=C _ M h _ H q Frm.refl j;rcases hq with hq|hq
  .exact .inl #[p,R,i,w,rfl,rfl,hq,P,o]
  exact .inr (.inl #[p,R,i,w,rfl,rfl,hq,P,o])
 replace h:=h.inv;rcases h with⟨z,rfl,h⟩|⟨a,rfl,h⟩
 .replace h:=h.inv;obtain⟨i,rfl,W,h⟩:=h
  obtain⟨S,O,h⟩:=h.inv;rw[yu]at O;cases J;cases N;exact HS _ _ _ s U H _ _ v u Q I E F #[_,_,S,rfl,rfl,W,O,C _ M h _ H q Frm.refl rfl] L
 obtain⟨d,G,h⟩:=h.inv;cases J;rcases nC q N G with⟨z,_⟩|⟨d',w,z,g,j⟩
 .cases z
 cases z;exact LC Y f l m s U H _ _ v u Q I E F #[_,w,rfl,g,C _ M h _ H q Frm.refl j] L
abbrev Mw:=Dl->Mem->(Option Int->Mem->Prop)->Prop
inductive liftO(X:Cx)(B:Bd)(T:Mw)(U:St)(H:Hp)(Q:Option Int->Hp->Prop):Prop
 |mk (Y:Dl) (M:Mem) (QQ:Option Int->Mem->Prop) (s:SR X B Y M U H) (h:T Y M QQ) (u:∀o M',QQ o M'->∀H',RepH X.K H' M'->Frm M H M' H'->Q o H'):liftO X B T U H Q
def DO(X:Cx)(B:Bd)(e:Option f')(T:Mw):Prop:=PO X e (liftO X B T)
theorem Ch{e:Option f'}(h:PO X e t)(w:∀U H Q,t' U H Q->t U H Q):PO X e t':=λf s U H Q I q=>h _ s U H Q I (w U H Q q)
def bu:Mw:=λ_ M Q=>Q ay M
def cC(t:bh):Mw:=λY M Q=>t Y M λx M1=>onI x λi=>Q (ap i) M1
theorem K_:DO X B ay bu:=Ch (by
   intro ab2 s U H Q I h;exact eX #[_,H,I,.none,h]) (by rintro U H Q ⟨Y,M,QQ,s,h,u⟩;exact u _ M h H s.rh Frm.refl)
theorem Kd(h:DE X B e te):DO X B (ap e) (cC te):=by
 refine Ch (KN h) ?_
 rintro U H Q ⟨Y,M,QQ,s,h,u⟩
 refine#[Y,M,_,s,h,λd M' q v H' f i r=>?_];cases d with
 |int j=>exact#[j,r,u _ M' q H' f i]
 |_=>exact q.elim
def iS(xs:List D)(lo hi:Option Int):List D:=(xs.drop<|HT.sIx xs.length 0 lo).take (HT.sIx xs.length xs.length hi-HT.sIx xs.length 0 lo)
theorem Rps.cut(r:Rps K H ds vs)(h f:Option Int):Rps K H (iS ds h f) (qu vs h f):=by
 unfold iS qu;rw[<- r.length];exact(r.drop _).take _
def PL(x:D)(lo hi:Option Int)(M:Mem)(Q:DK):Prop:=onTM x (λf=>Q (.tup<|iS f lo hi) M) (λf=>∀p,M p=ay->Q (.ref p) (M.upd p<|.lst<|iS f lo hi)) (so (dI M x) λf=>∀p,M p=ay->Q (.ref p) (M.upd p<|.lst<|iS f lo hi))
inductive liftSl(X:Cx)(x:V)(lo hi:Option Int)(H:Hp)(Q:VK):Prop
 |mk (d:D) (M:Mem) (QQ:DK) (rh:RepH X.K H M) (r:Rp X.K H d x) (h:PL d lo hi M QQ) (u:Up X.K M H QQ Q):liftSl X x lo hi H Q
theorem xV(h:HT.sIx vs.length 0 f=0/\HT.sIx vs.length vs.length j=vs.length):qu vs f j=vs:=by
 unfold qu
 simp_all
theorem Kx:Ug X (λx lo hi H Q=>∃a xs,x=.ref a/\lW X.K H a xs/\(qu xs lo hi=xs->Q (.ref a) H)/\∀p,H p=ay->Q (.ref p) (upd H p<|.tup<|qu xs lo hi)):=by
 intro f s U H x v F C lo hi G Q I o z pl m h;obtain⟨a,xs,rfl,w,E,q⟩:=h
 by_cases l:HT.sIx xs.length 0 lo=0/\HT.sIx xs.length xs.length hi=xs.length
 .cases o
  obtain⟨ab8,r,y,J⟩:=I.tuple w;have j:ab8.toArray.size=xs.length:=by rw[US];exact r.length.symm
  refine#["tuple",_,Vz.lookup,y.typeIs,?_];exact HT.iU y z pl m (by rw[j];exact l) #[.ref a,H,I,rfl,E<|xV l]
 .exact O3 f s U H _ v F C lo hi G Q I o z pl m #[a,xs,rfl,w,l,q]
section
variable{p:Pos}{t:dG}
theorem QN:Ug X (liftSl X):=by
 rintro ab2 s U H x v vl vu lo hi sl Q I rx hs pl pu ⟨d,M,QQ,rh,r,h,up⟩
 unfold PL at h
 replace h:=h.inv;rcases h with⟨xs,rfl,h⟩|⟨xs,rfl,h⟩|h
 .obtain⟨a,vs,rfl,ht,r⟩:=r
  exact Kx _ s U H _ v vl vu lo hi sl Q I rx hs pl pu #[a,vs,rfl,ht.sq,λe=>up _ M h _ H rh Frm.refl #[a,vs,rfl,ht,by rw[<- e];exact r.cut lo hi],λp hp=>up _ M h _ _ (rh.new hp) (Frm.new hp) #[p,_,rfl,upd_same,(r.cut lo hi).mono<|Imm.new hp]]
 .obtain⟨a,vs,rfl,hq,r⟩:=r
  exact AV _ s U H _ v vl vu lo hi sl Q I rx hs pl pu #[a,vs,rfl,hq.sq,λp hp=>up _ _ (h p<|rh.fresh hp) _ _ (rh.put (by rw[hp];trivial) #[_,upd_same,(r.cut lo hi).mono<|Imm.new hp]) (Frm.put<|.inl hp) rfl]
 obtain⟨xs,e,h⟩:=h.inv;obtain⟨a,vs,rfl,hq,r⟩:=eJ rh r e;exact AV _ s U H _ v vl vu lo hi sl Q I rx hs pl pu #[a,vs,rfl,.inl hq,λp hp=>up _ _ (h p<|rh.fresh hp) _ _ (rh.put (by rw[hp];trivial) #[_,upd_same,(r.cut lo hi).mono<|Imm.new hp]) (Frm.put<|.inl hp) rfl]
def qS(te:bh)(tl th:Mw):bh:=λY M Q=>te Y M λx M1=>tl Y M1 λl M2=>th Y M2 λu M3=>PL x l u M3 Q
theorem Gu(z:DE X B e te)(C:DO X B lo tl)(E:DO X B hi th):DE X B (.Subscript e (.Slice lo hi ay p2) pos) (qS te tl th):=by
 refine aT (Iy QN z C E) ?_
 rintro U H Q ⟨Y,M,QQ,s,h,u⟩
 exact#[Y,M,_,s,h,λx M1 o v1 H1 f i1 v=>#[Y,M1,_,s.go f i1,o,λl M2 y H2 m i2=>#[Y,M2,_,s.go m (i1.trans i2),y,λw M3 q H3 j i3=>#[x,M3,QQ,j,v.mf f (i2.trans i3),q,u.go<|(i1.trans i2).trans i3]]]]
abbrev qr:=List D->Mem->DK->Prop
inductive liftC(X:Cx)(r:qr)(xs:List V)(H:Hp)(Q:VK):Prop
 |mk (ds:List D) (M:Mem) (QQ:DK) (rh:RepH X.K H M) (rp:Rps X.K H ds xs) (h:r ds M QQ) (u:Up X.K M H QQ Q):liftC X r xs H Q
def bc(r:qr)(t:dG):bh:=λY M Q=>t Y M λf M1=>r f M1 Q
theorem B4(h:liftE X B (bc r t) U H Q):tCB (liftC X r) (liftA X B t) U H Q:=by
 obtain⟨Y,M,QQ,s,h,u⟩:=h;exact#[Y,M,_,s,h,λj M1 m o H1 f i1 l=>#[j,M1,QQ,f,l,m,u.go i1]]
theorem HI{id:String}(q:bH X (.builtin id) (liftC X r))(f:Gl X x)(l:X.mg x=ay)(j:fy x=ap (.builtin id))(m:DA X B (e::es) t)(o:x≠"__name__":=by decide)(hdb:(x==("__debug__":Str))=false:=by decide)(he:eH (e::es) X.env=(eC,g3 e X.env)::eH es X.env:=by rfl)(hpl:(j0 pos<|starEach es X.env).any (·.1)=false:=by rfl):DE X B (.Call (.Name x p) (e::es) [] pos) (bc r t):=
 aT (vB q f l j m o hdb he hpl) λ_ _ _ h=>B4 h
theorem DU(q:bH X (.type T) (liftC X r))(f:Gl X x)(l:X.mg x=ay)(j:fy x=ap (.type T))(m:DA X B (e::es) t)(o:x≠"__name__":=by decide)(hdb:(x==("__debug__":Str))=false:=by decide)(he:eH (e::es) X.env=(eC,g3 e X.env)::eH es X.env:=by rfl)(hpl:(j0 pos<|starEach es X.env).any (·.1)=false:=by rfl):DE X B (.Call (.Name x p) (e::es) [] pos) (bc r t):=
 aT (Eu q f l j m o hdb he hpl) λ_ _ _ h=>B4 h
theorem gy{ds:List D}{vs:List V}{d:D}(r:Rps K H [d] vs):∃v,vs=[v]/\Rp K H d v:=by
 obtain⟨v,w,rfl,a,b⟩:=r;cases b;exact#[v,rfl,a]
theorem Hm{e:D}(r:Rps K H [d,e] vs):∃v w,vs=[v,w]/\Rp K H d v/\Rp K H e w:=by
 obtain⟨v,w,rfl,a,b⟩:=r;obtain⟨f,j,rfl,h,b⟩:=b;cases b;exact#[v,f,rfl,a,h]
def bj:qr:=λj M Q=>one j λd=>oe (aO M d) (λh=>Q (.int h.length) M) (onSR d (λz=>z.length<=sizeLine/\Q (.int z.length) M) λa=>mK (M a) λf=>Q (.int f.length) M)
theorem Dq:bH X (.builtin "len") (liftC X bj):=by
 rintro m s U H N us Q I r ⟨ds,M,QQ,f,o,h,j⟩
 unfold bj at h
 replace h:=h.inv;obtain⟨d,rfl,h⟩:=h
 obtain⟨v,rfl,l⟩:=gy (ds:=[]) o
 replace h:=h.inv;rcases h with⟨L,e,h⟩|⟨_,h⟩
 .obtain⟨q,C,rfl,y,E⟩:=j_ f l e
  exact uI _ s U H _ us Q I r #[q,C,rfl,y,by rw[<- E.length];exact j _ M h _ H f Frm.refl rfl]
 replace h:=h.inv;rcases h with⟨z,rfl,h⟩|⟨a,rfl,h⟩
 .cases l
  exact tM _ s U H _ us Q I r #[_,rfl,h.1,j _ M h.2 _ H f Frm.refl rfl]
 obtain⟨w,e,h⟩:=h.inv;cases l;obtain⟨G,J,F⟩:=f _ _ e;exact E9 _ s U H _ us Q I r #[_,G,rfl,J,by rw[<- F.length];exact j _ M h _ H f Frm.refl rfl]
def eL:qr:=λh M Q=>one h λd=>so (aO M d) λf=>∀p,M p=ay->Q (.ref p) (M.upd p<|.lst f)
theorem yP:bH X (.type "list") (liftC X eL):=by
 rintro ab2 s U H xs us Q I r ⟨ds,M,QQ,rh,rp,h,up⟩
 unfold eL at h
 replace h:=h.inv;obtain⟨_,rfl,h⟩:=h
 obtain⟨v,rfl,rv⟩:=gy (ds:=[]) rp;obtain⟨ys,e,h⟩:=h.inv;obtain⟨q,vs,rfl,hq,rr⟩:=j_ rh rv e;exact sx _ s U H _ us Q I r #[q,vs,rfl,hq,λp hp=>up _ _ (h p<|rh.fresh hp) _ _ (rh.put (by rw[hp];trivial) #[_,upd_same,rr.mono<|Imm.new hp]) (Frm.put<|.inl hp) rfl]
def ci:qr:=λh M Q=>one h λd=>onTe d (λf=>Q (.tup f) M) (so (dI M d) λf=>Q (.tup f) M)
theorem vw:bH X (.type "tuple") (liftC X ci):=by
 rintro w s U H F us Q I r ⟨ds,M,QQ,l,C,h,o⟩
 unfold ci at h
 replace h:=h.inv;obtain⟨d,rfl,h⟩:=h
 obtain⟨v,rfl,y⟩:=gy (ds:=[]) C
 replace h:=h.inv;rcases h with⟨F,rfl,h⟩|h
 .obtain⟨q,f,rfl,z,j⟩:=y
  exact iY _ s U H _ us Q I r #[q,f,rfl,.inr #[z.sq,o _ M h _ H l Frm.refl #[q,f,rfl,z,j]]]
 obtain⟨G,e,h⟩:=h.inv;obtain⟨q,f,rfl,E,j⟩:=eJ l y e;exact iY _ s U H _ us Q I r #[q,f,rfl,.inl #[.inl E,λp m=>o _ M h _ _ (l.new m) (Frm.new m) #[p,_,rfl,upd_same,j.mono<|Imm.new m]]]
def cy(M:Mem):D->Option String
 |.non=>ap "NoneType"
 |.bl _=>ap "bool"
 |.int _=>ap "int"
 |.str _=>ap "str"
 |.tup _=>ap "tuple"
 |.lst _=>ap "list"
 |.ref a=>match M a with
  |some (.lst _)=>ap "list"
  |some (.dK _)=>ap "dict"
  |some (.dT _)=>ap "dict"
  |_=>ay
 |_=>ay
noncomputable def bQ(t T:String):Bool:=t==T||(t=="bool"&&T=="int")
noncomputable def m5(T:String):Bool:=T=="bool"||T=="int"||T=="str"||T=="tuple"||T=="list"||T=="dict"
theorem Jm:(∀K:UE,∀t∈["NoneType","bool","int","str","tuple","list","dict"],∀T∈["bool","int","str","tuple","list","dict"],XJ K (.type t) (.type T)=ap (bQ t T)):=by
 intro K t h T f;simp at h f;rcases h with rfl|rfl|rfl|rfl|rfl|rfl|rfl<;>rcases f with rfl|rfl|rfl|rfl|rfl|rfl<;>kernel_rfl
theorem JL{t:String}(j:RepH K H M)(r:Rp K H d v)(e:cy M d=ap t):TyOf K H v (.type t)/\t∈["NoneType","bool","int","str","tuple","list","dict"]:=by
 cases d with
 |non=>cases r;cases e;exact#[.non,by simp]
 |bl b=>cases r;cases e;exact#[.bl b,by simp]
 |int i=>cases r;cases e;exact#[.int i,by simp]
 |str x=>cases r;cases e;exact#[.str x,by simp]
 |tup xs=>
  cases e;obtain⟨q,w,rfl,h,y⟩:=r;exact#[.tup h,by simp]
 |lst xs=>
  cases e;obtain⟨q,w,rfl,⟨o,h⟩,y⟩:=r;exact#[.frz h,by simp]
 |ref a=>
  cases r;simp[cy]at e
  split at e
  .rename_i q;cases e;obtain⟨m,f,l⟩:=j _ _ q;exact#[.lst f,by simp]
  .rename_i q;cases e;obtain⟨m,f,l⟩:=j _ _ q;exact#[.dK f,by simp]
  .rename_i q;cases e;obtain⟨m,f,l⟩:=j _ _ q;exact#[.dT f,by simp]
  cases e
 |_=>cases e
def cX:qr:=λf M Q=>two f λd e=>onTy e λT=>m5 T=true/\so (cy M d) λt=>Q (.bl<|bQ t T) M
theorem uH:bH X (.builtin "isinstance") (liftC X cX):=by
 rintro j s U H E us Q I r ⟨C,M,QQ,m,q,h,o⟩
 unfold cX at h
 replace h:=h.inv;obtain⟨d,T',rfl,h⟩:=h
 replace h:=h.inv;obtain⟨T,rfl,l,h⟩:=h
 obtain⟨v,w,rfl,y,f⟩:=Hm q;cases f;obtain⟨t,e,h⟩:=h.inv;obtain⟨ty,z⟩:=JL m y e;refine wV _ s U H _ us Q I r #[v,T,_,_,rfl,ty,Jm _ t z T ?_,o _ M h _ H m Frm.refl rfl];simp[m5]at l;simp;rcases l with ((((h|h)|h)|h)|h)|h<;>simp[h]
def ke:List D->Option (List Bool)
 |[]=>ap []
 |.bl b::ds=>match ke ds with
  |some bs=>ap (b::bs)
  |none=>ay
 |_=>ay
theorem iG:∀{ds:List D}{vs:List V}{bs:List Bool},Rps K H ds vs->ke ds=ap bs->vs=bs.map V.bl
 |[],vs,bs,r,e=>by cases e;exact r
 |d::ds,vs,bs,r,e=>by
  obtain⟨v,j,rfl,a,b⟩:=r;cases d with
  |bl c=>
   simp[ke]at e
   split at e
   .rename_i h f
    cases e;cases a;rw[iG b f];rfl
   cases e
  |_=>cases e
def QO:qr:=λh M Q=>one h λd=>so (dI M d) λf=>so (ke f) λbs=>Q (.bl<|bs.all id) M
theorem Ee(E:X.calm=true):bH X (.builtin "all") (liftC X QO):=by
 rintro f s U H J us Q I r ⟨ds,M,QQ,j,m,h,l⟩
 unfold QO at h
 replace h:=h.inv;obtain⟨_,rfl,h⟩:=h
 obtain⟨v,rfl,C⟩:=gy (ds:=[]) m;obtain⟨F,e,h⟩:=h.inv;obtain⟨bs,o,h⟩:=h.inv;obtain⟨q,G,rfl,w,z⟩:=eJ j C e;have y:=iG z o;subst y;exact Gf E _ s U H _ us Q I r #[q,bs,rfl,.inl w,l _ M h _ H j Frm.refl rfl]
def FR:qr:=λl M Q=>two l λh f=>onI h λi=>onI f λj=>Q (.int (if j<i then j else i)) M
theorem EG(y:X.calm=true):bH X (.builtin "min") (liftC X FR):=by
 rintro j s U H F us Q I r ⟨z,M,QQ,q,m,h,l⟩
 unfold FR at h
 replace h:=h.inv;obtain⟨E,C,rfl,h⟩:=h
 replace h:=h.inv;obtain⟨_,rfl,h⟩:=h
 replace h:=h.inv;obtain⟨_,rfl,h⟩:=h
 obtain⟨v,w,rfl,o,f⟩:=Hm m;cases o;cases f;exact DF y _ s U H _ us Q I r #[_,_,rfl,l _ M h _ H q Frm.refl rfl]
def DR:qr:=λl M Q=>two l λf h=>onI f λi=>onI h λj=>Q (.int (if j>i then j else i)) M
theorem Eo(y:X.calm=true):bH X (.builtin "max") (liftC X DR):=by
 rintro j s U H F us Q I r ⟨C,M,QQ,q,m,h,l⟩
 unfold DR at h
 replace h:=h.inv;obtain⟨z,E,rfl,h⟩:=h
 replace h:=h.inv;obtain⟨_,rfl,h⟩:=h
 replace h:=h.inv;obtain⟨_,rfl,h⟩:=h
 obtain⟨v,w,rfl,o,f⟩:=Hm m;cases o;cases f;exact E4 y _ s U H _ us Q I r #[_,_,rfl,l _ M h _ H q Frm.refl rfl]
end
mutual
def aR:D->D->Bool
 |.non,.non=>true
 |.bl a,.bl b=>a==b
 |.bl a,.int b=>(if a then 1 else 0)==b
 |.int a,.bl b=>a==(if b then 1 else 0)
 |.int a,.int b=>decide (a=b)
 |.str a,.str b=>decide (a=b)
 |.tup xs,.tup ys=>eW xs ys
 |.lst xs,.lst ys=>eW xs ys
 |_,_=>eC
def eW:List D->List D->Bool
 |[],[]=>true
 |x::xs,y::ys=>aR x y&&eW xs ys
 |_,_=>eC
end
mutual
def br:Nat->D->Bool
 |_,.non=>true
 |_,.bl _=>true
 |_,.int _=>true
 |_,.str _=>true
 |n+1,.tup xs=>fits n xs
 |n+1,.lst xs=>fits n xs
 |_,_=>eC
def fits:Nat->List D->Bool
 |_,[]=>true
 |n,x::xs=>br n x&&fits n xs
end
mutual
def Hr(h:h9):D->ax->Prop
 |.non,u=>u=.none
 |.bl b,u=>u=.bool b
 |.int i,u=>∃t,u=.int i t
 |.str x,u=>∃t,u=.str x t
 |.tup xs,u=>∃p ab8,u=.ref p/\h.IsTuple p (List.toArray ab8)/\Hrs h xs ab8
 |.lst xs,u=>∃p ab8,u=.ref p/\h.IsList p (List.toArray ab8)/\Hrs h xs ab8
 |_,_=>False
def Hrs(h:h9):List D->List ax->Prop
 |[],us=>us=[]
 |x::xs,us=>∃u r,us=u::r/\Hr h x u/\Hrs h xs r
end
section
variable{h:h9}
theorem Hrs.length:∀{ds:List D}{us:aca},Hrs h ds us->ds.length=us.length
 |[],_,q=>by cases q;rfl
 |_::_,_,q=>by obtain⟨v,r,rfl,_,b⟩:=q;simp[b.length]
theorem Hrs.get:∀{ds:List D}{us:aca},Hrs h ds us->∀(i:Nat)(h1:i<ds.length)(h2:i<us.length),Hr h ds[i] us[i]
 |[],_,_,i,h1,_=>absurd h1 (by trivial)
 |x::xs,_,q,i,h1,h2=>by
  obtain⟨v,r,rfl,a,b⟩:=q;cases i with
  |zero=>exact a
  |succ i=>exact b.get i _ _
theorem CO(x:h.IsTuple p a)(y:h.IsTuple p b):a=b:=by
 obtain⟨o,v,_,n,m⟩:=x;obtain⟨l,f,_,q,j⟩:=y
 simp_all
theorem zI(x:h.IsList p a)(y:h.IsList p b):a=b:=by
 obtain⟨o,v,_,n,m⟩:=x;obtain⟨l,f,_,q,j⟩:=y
 simp_all
theorem Sr(x:h.IsList p a)(y:h.IsTuple p b):False:=by
 obtain⟨o,m,c,_⟩:=x;obtain⟨j,f,l,_⟩:=y
 simp_all
mutual
theorem IS:∀{d e:D}{u:ax},Hr h d u->Hr h e u->d=e
 |.non,e,u,a,b=>by
  cases a;cases e with
  |non=>rfl
  |bl _=>cases b
  |int _=>obtain⟨t,q⟩:=b;cases q
  |str _=>obtain⟨t,q⟩:=b;cases q
  |tup _=>obtain⟨p,i,q,_⟩:=b;cases q
  |lst _=>obtain⟨p,i,q,_⟩:=b;cases q
  |_=>exact(show False from b).elim
 |.bl c,e,u,a,b=>by
  cases a;cases e with
  |non=>cases b
  |bl _=>cases b;rfl
  |int _=>obtain⟨t,q⟩:=b;cases q
  |str _=>obtain⟨t,q⟩:=b;cases q
  |tup _=>obtain⟨p,i,q,_⟩:=b;cases q
  |lst _=>obtain⟨p,i,q,_⟩:=b;cases q
  |_=>exact(show False from b).elim
 |.int c,e,u,a,b=>by
  obtain⟨t,rfl⟩:=a;cases e with
  |non=>cases b
  |bl _=>cases b
  |int _=>obtain⟨t,q⟩:=b;cases q;rfl
  |str _=>obtain⟨t,q⟩:=b;cases q
  |tup _=>obtain⟨p,i,q,_⟩:=b;cases q
  |lst _=>obtain⟨p,i,q,_⟩:=b;cases q
  |_=>exact(show False from b).elim
 |.str c,e,u,a,b=>by
  obtain⟨t,rfl⟩:=a;cases e with
  |non=>cases b
  |bl _=>cases b
  |int _=>obtain⟨t,q⟩:=b;cases q
  |str _=>obtain⟨t,q⟩:=b;cases q;rfl
  |tup _=>obtain⟨p,i,q,_⟩:=b;cases q
  |lst _=>obtain⟨p,i,q,_⟩:=b;cases q
  |_=>exact(show False from b).elim
 |.tup xs,e,u,a,b=>by
  obtain⟨p,ab8,rfl,t1,l⟩:=a;cases e with
  |non=>cases b
  |bl _=>cases b
  |int _=>obtain⟨t,q⟩:=b;cases q
  |str _=>obtain⟨t,q⟩:=b;cases q
  |tup ys=>
   obtain⟨p',its',q,t2,f⟩:=b;cases q;have e:=CO t1 t2;have j:ab8=its':=by simpa using congrArg W9 e
   subst j;rw[km l f]
  |lst ys=>obtain⟨p',its',q,t2,f⟩:=b;cases q;exact(Sr t2 t1).elim
  |_=>exact(show False from b).elim
 |.lst xs,e,u,a,b=>by
  obtain⟨p,ab8,rfl,t1,l⟩:=a;cases e with
  |non=>cases b
  |bl _=>cases b
  |int _=>obtain⟨t,q⟩:=b;cases q
  |str _=>obtain⟨t,q⟩:=b;cases q
  |lst ys=>
   obtain⟨p',its',q,t2,f⟩:=b;cases q;have e:=zI t1 t2;have j:ab8=its':=by simpa using congrArg W9 e
   subst j;rw[km l f]
  |tup ys=>obtain⟨p',its',q,t2,f⟩:=b;cases q;exact(Sr t1 t2).elim
  |_=>exact(show False from b).elim
 |.ty _,_,_,a,_=>(show False from a).elim
 |.ref _,_,_,a,_=>(show False from a).elim
 |.mt _,_,_,a,_=>(show False from a).elim
 |.ml _,_,_,a,_=>(show False from a).elim
 |.fd _ _,_,_,a,_=>(show False from a).elim
theorem km:∀{ds es:List D}{us:aca},Hrs h ds us->Hrs h es us->ds=es
 |[],es,us,a,b=>by
  cases a;cases es with
  |nil=>rfl
  |cons _ _=>obtain⟨v,r,q,_⟩:=b;cases q
 |d::ds,es,us,a,b=>by
  obtain⟨v,r,rfl,l,j⟩:=a;cases es with
  |nil=>cases b
  |cons e es=>
   obtain⟨o,w,q,f,m⟩:=b;cases q;rw[IS l f,km j m]
end
mutual
theorem G8:∀{n:Nat}{d:D},br n d=true->aR d d=true
 |_,.non,_=>by simp[aR]
 |_,.bl _,_=>by simp[aR]
 |_,.int _,_=>by simp[aR]
 |_,.str _,_=>by simp[aR]
 |0,.tup _,f=>by simp[br]at f
 |0,.lst _,f=>by simp[br]at f
 |n+1,.tup xs,f=>by rw[aR];exact fR (n:=n) f
 |n+1,.lst xs,f=>by rw[aR];exact fR (n:=n) f
 |_,.ty _,f=>by simp[br]at f
 |_,.ref _,f=>by simp[br]at f
 |_,.mt _,f=>by simp[br]at f
 |_,.ml _,f=>by simp[br]at f
 |_,.fd _ _,f=>by simp[br]at f
theorem fR:∀{n:Nat}{ds:List D},fits n ds=true->eW ds ds=true
 |_,[],_=>by simp[eW]
 |n,x::xs,f=>by
  rw[fits,VU]at f;rw[eW,G8 f.1,fR f.2];rfl
end
theorem eA:∀{xs ys:List D},xs.length≠ys.length->eW xs ys=eC
 |[],[],h=>absurd rfl h
 |[],_::_,_=>by simp[eW]
 |_::_,[],_=>by simp[eW]
 |x::xs,y::ys,h=>by rw[eW,eA (by simpa using h),XZ]
theorem kb:∀(xs ys:List D)(f:Nat->Bool),xs.length=ys.length->(∀j (h1:j<xs.length)(h2:j<ys.length),f j=aR xs[j] ys[j])->(Vu xs.length).all f=eW xs ys
 |[],[],f,_,_=>by simp[eW]
 |[],_::_,_,h,_=>by simp at h
 |_::_,[],_,h,_=>by simp at h
 |x::xs,y::ys,f,h,hf=>by
  rw[UO,Ze,List.all_cons,List.all_map,eW,<- (kb xs ys (λj=>f (j+1)) (by simpa using h)<|by simp_all)]
  rw[(hf 0 (by simp)<|by simp)]
  rfl
theorem eB:∀{n:Nat}{xs:List D},fits n xs=true->∀(j:Nat)(h1:j<xs.length),br n xs[j]=true
 |_,[],_,j,h1=>absurd h1 (by trivial)
 |n,x::xs,f,j,h1=>by
  rw[fits,VU]at f;cases j with
  |zero=>exact f.1
  |succ j=>exact eB f.2 j _
noncomputable def pK:D->Option V
 |.non=>ap .non
 |.bl b=>ap (.bl b)
 |.int i=>ap (.int i)
 |.str x=>ap (.str x)
 |_=>ay
theorem mq(e:pK d=ap v)(r:Hr h d u):RelV v u/\FH v=true:=by
 cases d with
 |non=>cases e;trivial
 |bl b=>cases e;trivial
 |int b=>cases e;trivial
 |str b=>cases e;trivial
 |_=>cases e
theorem xf{e:D}(j:pK d=ap v)(f:pK e=ap w):xG v w=aR d e:=by
 cases d with
 |non=>cases j;cases e with|non=>cases f;simp[xG,aR]|bl b=>cases f;simp[xG,aR]|int b=>cases f;simp[xG,aR]|str b=>cases f;simp[xG,aR]|_=>cases f
 |bl a=>cases j;cases e with|non=>cases f;simp[xG,aR]|bl b=>cases f;simp[xG,aR]|int b=>cases f;simp[xG,aR]|str b=>cases f;simp[xG,aR]|_=>cases f
 |int a=>cases j;cases e with|non=>cases f;simp[xG,aR]|bl b=>cases f;simp[xG,aR]|int b=>cases f;rfl|str b=>cases f;simp[xG,aR]|_=>cases f
 |str a=>cases j;cases e with|non=>cases f;simp[xG,aR]|bl b=>cases f;simp[xG,aR]|int b=>cases f;simp[xG,aR]|str b=>cases f;rfl|_=>cases f
 |_=>cases j
end
theorem MY:∀(n:Nat){A:gx}{s:ez}{d e:D}{u w:ax},Hr s.heap d u->Hr s.heap e w->br n d=true->br n e=true->A.units+n<n7->XD A s u w (aR d e):=by
 intro n
 induction n with
 |zero=>
  intro A s d e u w l h fd N hu;have W:∃v,pK d=ap v:=by cases d<;>first|exact#[_,rfl]|(simp[br]at fd)
  have S:∃v,pK e=ap v:=by cases e<;>first|exact#[_,rfl]|(simp[br]at N)
  obtain⟨v1,J⟩:=W;obtain⟨v2,Q⟩:=S;obtain⟨a1,b1⟩:=mq J l;obtain⟨Y,b2⟩:=mq Q h;rw[<- xf J Q];exact FF a1 Y b1 b2
 |succ n ih=>
  intro A s d e u w l h fd N hu;have f:A.units<cLine:=by lia
  have R:A.in1.units+n<cLine:=by show A.units+1+n<n7;lia
  by_cases W:∃v,pK d=ap v
  .obtain⟨v1,J⟩:=W
   obtain⟨a1,b1⟩:=mq J l
   by_cases S:∃v,pK e=ap v
   .obtain⟨v2,Q⟩:=S
    obtain⟨Y,b2⟩:=mq Q h;rw[<- xf J Q];exact FF a1 Y b1 b2
   .cases e with
    |tup ys=>
     obtain⟨p,ab8,rfl,t,_⟩:=h;cases d with
     |non=>cases l;simp only[aR];exact .none_tuple t f
     |bl b=>cases l;simp only[aR];exact .bool_tuple b t f
     |int b=>obtain⟨o,rfl⟩:=l;simp only[aR];exact .int_tuple b o t f
     |str b=>obtain⟨o,rfl⟩:=l;simp only[aR];exact .str_tuple b o t f
     |_=>cases J
    |lst ys=>
     obtain⟨p,ab8,rfl,t,_⟩:=h;cases d with
     |non=>cases l;simp only[aR];exact .none_list t f
     |bl b=>cases l;simp only[aR];exact .bool_list b t f
     |int b=>obtain⟨o,rfl⟩:=l;simp only[aR];exact .int_list b o t f
     |str b=>obtain⟨o,rfl⟩:=l;simp only[aR];exact .str_list b o t f
     |_=>cases J
    |ty _=>exact(show False from h).elim
    |ref _=>exact(show False from h).elim
    |mt _=>exact(show False from h).elim
    |ml _=>exact(show False from h).elim
    |fd _ _=>exact(show False from h).elim
    |_=>exact absurd #[_,rfl] S
  .cases d with
   |tup xs=>
    obtain⟨p,ab8,rfl,t1,G⟩:=l;cases e with
    |non=>cases h;simp only[aR];exact .tuple_none t1 f
    |bl b=>cases h;simp only[aR];exact .tuple_bool b t1 f
    |int b=>obtain⟨o,rfl⟩:=h;simp only[aR];exact .tuple_int b o t1 f
    |str b=>obtain⟨o,rfl⟩:=h;simp only[aR];exact .tuple_str b o t1 f
    |tup ys=>
     obtain⟨p',its',rfl,t2,E⟩:=h;rw[aR]
     by_cases P:p=p'
     .subst P
      have Z:ab8=its':=by simpa using congrArg W9 (CO t1 t2)
      subst Z;rw[km G E,fR (n:=n) N];exact .same _
     .refine .of_refs P ?_
      have l1:=G.length;have l2:=E.length;have L:∀j (z:j<ab8.toArray.size)(C:j<its'.toArray.size),XD A.in1 s ab8.toArray[j] its'.toArray[j] (match xs[j]?,ys[j]? with|some x,ap y=>aR x y|_,_=>eC):=λj z C=>by
       have m:j<xs.length:=by rw[l1];simpa using z
       have q:j<ys.length:=by rw[l2];simpa using C
       rw[UC m,UC q];exact ih (G.get j m<|by simpa using z) (E.get j q<|by simpa using C) (eB fd j m) (eB N j q) R
      have:=Y4 (e:=λj=>match xs[j]?,ys[j]? with|some x,ap y=>aR x y|_,_=>eC) t1 t2 f L
      by_cases O:xs.length=ys.length
      .have I:ab8.toArray.size=its'.toArray.size:=by simp;lia
       rw[I]at this;simp only[Zj,beq_self_eq_true,Y1]at this;have F:its'.toArray.size=xs.length:=by simp;lia
       rw[F,kb xs ys _ O (λj z C=>by rw[UC z,UC C])]at this
       exact this
      .have I:(ab8.toArray.size==its'.toArray.size)=false:=by simp;lia
       rw[I,XZ]at this;rw[eA O];exact this
    |lst ys=>obtain⟨p',its',rfl,t2,E⟩:=h;simp only[aR];exact .tuple_list t1 t2 f
    |_=>exact(show False from h).elim
   |lst xs=>
    obtain⟨p,ab8,rfl,t1,G⟩:=l;cases e with
    |non=>cases h;simp only[aR];exact .list_none t1 f
    |bl b=>cases h;simp only[aR];exact .list_bool b t1 f
    |int b=>obtain⟨o,rfl⟩:=h;simp only[aR];exact .list_int b o t1 f
    |str b=>obtain⟨o,rfl⟩:=h;simp only[aR];exact .list_str b o t1 f
    |lst ys=>
     obtain⟨p',its',rfl,t2,E⟩:=h;rw[aR]
     by_cases P:p=p'
     .subst P
      have Z:ab8=its':=by simpa using congrArg W9 (zI t1 t2)
      subst Z;rw[km G E,fR (n:=n) N];exact .same _
     .refine .of_refs P ?_
      have l1:=G.length;have l2:=E.length
      by_cases O:xs.length=ys.length
      .have L:∀j (z:j<ab8.toArray.size)(C:j<its'.toArray.size),XD A.in1 s ab8.toArray[j] its'.toArray[j] (match xs[j]?,ys[j]? with|some x,ap y=>aR x y|_,_=>eC):=λj z C=>by
        have m:j<xs.length:=by rw[l1];simpa using z
        have q:j<ys.length:=by rw[l2];simpa using C
        rw[UC m,UC q];exact ih (G.get j m<|by simpa using z) (E.get j q<|by simpa using C) (eB fd j m) (eB N j q) R
       have:=Za (e:=λj=>match xs[j]?,ys[j]? with|some x,ap y=>aR x y|_,_=>eC) t1 t2 (by simp;lia) f L
       have F:ab8.toArray.size=xs.length:=by simp;lia
       rw[F,kb xs ys _ O (λj z C=>by rw[UC z,UC C])]at this
       exact this
      .rw[eA O]
       exact Yn t1 t2 (by simp;lia) f
    |tup ys=>obtain⟨p',its',rfl,t2,E⟩:=h;simp only[aR];exact .list_tuple t1 t2 f
    |_=>exact(show False from h).elim
   |ty _=>exact(show False from l).elim
   |ref _=>exact(show False from l).elim
   |mt _=>exact(show False from l).elim
   |ml _=>exact(show False from l).elim
   |fd _ _=>exact(show False from l).elim
   |_=>exact absurd #[_,rfl] W
theorem mY(r1:Hrs s.heap xs ab8)(r2:Hrs s.heap ys its')(fd:fits n xs=true)(fe:fits n ys=true)(hu:A.units+n<n7):
  ∀j (h1:j<ab8.toArray.size)(h2:j<its'.toArray.size),XD A s ab8.toArray[j] its'.toArray[j] (match xs[j]?,ys[j]? with|some x,ap y=>aR x y|_,_=>eC):=λj h1 h2=>by
 rw[UC (by rw[r1.length];trivial),UC (by rw[r2.length];trivial)]
 exact MY n (r1.get j _ _) (r2.get j _ _) (eB fd j _) (eB fe j _) hu
theorem nA(l:xs.length=ys.length):(Vu xs.length).all (λj=>match xs[j]?,ys[j]? with|some x,ap y=>aR x y|_,_=>eC)=eW xs ys:=
 kb xs ys _ l (λj f h=>by rw[UC f,UC h])
theorem QU(t1:s.heap.IsTuple p ab8.toArray)(t2:s.heap.IsTuple p' its'.toArray)(m:Hrs s.heap xs ab8)(l:Hrs s.heap ys its')(fd:br n (.tup xs)=true)(o:br n (.tup ys)=true)(w:A.units+n<n7):
  Zs A s (.ref p) (.ref p') (aR (.tup xs)<|.tup ys):=by
 cases n with
 |zero=>trivial
 |succ n=>
  have v:=m.length;have q:=l.length;have:=Y4 (A:=A) t1 t2 (by lia) (mY m l fd o<|by show A.units+1+n<n7;lia)
  rw[aR]
  by_cases j:xs.length=ys.length
  .have f:ab8.toArray.size=its'.toArray.size:=by simp;lia
   rw[f]at this;simp only[Zj,beq_self_eq_true,Y1]at this;have h:its'.toArray.size=xs.length:=by simp;lia
   rw[h,nA j]at this;exact this
  have f:(ab8.toArray.size==its'.toArray.size)=false:=by simp;lia
  rw[f,XZ]at this;rw[eA j];exact this
theorem O0(t1:s.heap.IsList p ab8.toArray)(t2:s.heap.IsList p' its'.toArray)(l:Hrs s.heap xs ab8)(j:Hrs s.heap ys its')(fd:br n (.lst xs)=true)(m:br n (.lst ys)=true)(v:A.units+n<n7):
  Zs A s (.ref p) (.ref p') (aR (.lst xs)<|.lst ys):=by
 cases n with
 |zero=>trivial
 |succ n=>
  have q:=l.length;have o:=j.length;rw[aR]
  by_cases h:xs.length=ys.length
  .have:=Za (A:=A) t1 t2 (by simp;lia) (by lia) (mY l j fd m<|by show A.units+1+n<n7;lia)
   have f:ab8.toArray.size=xs.length:=by simp;lia
   rw[f,nA h]at this;exact this
  rw[eA h];exact Yn t1 t2 (by simp;lia) (by lia)
theorem HH(t1:s.heap.IsTuple p ab8.toArray)(t2:s.heap.IsTuple p' its'.toArray)(m:Hrs s.heap xs ab8)(l:Hrs s.heap ys its')(fd:br n (.tup xs)=true)(o:br n (.tup ys)=true)(w:A.units+n<n7):
  Y3 A s (.ref p) (.ref p') (!aR (.tup xs) (.tup ys)):=by
 cases n with
 |zero=>trivial
 |succ n=>
  have v:=m.length;have q:=l.length;have:=SeqAt.RcNeAt.tuples (A:=A) t1 t2 (by lia) (mY m l fd o<|by show A.units+1+n<n7;lia)
  rw[aR]
  by_cases j:xs.length=ys.length
  .have f:ab8.toArray.size=its'.toArray.size:=by simp;lia
   rw[f]at this;simp only[Zj,beq_self_eq_true,Y1]at this;have h:its'.toArray.size=xs.length:=by simp;lia
   rw[h,nA j]at this;exact this
  have f:(ab8.toArray.size==its'.toArray.size)=false:=by simp;lia
  rw[f,XZ]at this;rw[eA j];exact this
theorem HF(t1:s.heap.IsList p ab8.toArray)(t2:s.heap.IsList p' its'.toArray)(l:Hrs s.heap xs ab8)(j:Hrs s.heap ys its')(fd:br n (.lst xs)=true)(m:br n (.lst ys)=true)(v:A.units+n<n7):
  Y3 A s (.ref p) (.ref p') (!aR (.lst xs) (.lst ys)):=by
 cases n with
 |zero=>trivial
 |succ n=>
  have q:=l.length;have o:=j.length;rw[aR]
  by_cases h:xs.length=ys.length
  .have:=SeqAt.RcNeAt.lists (A:=A) t1 t2 (by simp;lia) (by lia) (mY l j fd m<|by show A.units+1+n<n7;lia)
   have f:ab8.toArray.size=xs.length:=by simp;lia
   rw[f,nA h]at this;exact this
  rw[eA h];exact SeqAt.RcNeAt.lists_lengths t1 t2 (by simp;lia) (by lia)
theorem Uh{e:D}(z:Hr s.heap d u)(h:Hr s.heap e w)(fd:br n d=true)(F:br n e=true)(G:A.units+n<n7):Zs A s u w (aR d e):=by
 have j:A.units<cLine:=by lia
 cases d with
 |non=>
  cases z;cases e with
  |non=>
   cases h;simpa [aR,Vh] using SeqAt.RcAt.none_none
  |bl y=>
   cases h;simpa [aR] using SeqAt.RcAt.none_bool y
  |int y=>
   obtain⟨f,rfl⟩:=h;simpa [aR] using SeqAt.RcAt.none_int y f
  |str y=>
   obtain⟨f,rfl⟩:=h;simpa [aR] using SeqAt.RcAt.none_str y f
  |tup y=>
   obtain⟨v,l,rfl,ty,o⟩:=h;simpa [aR] using SeqAt.RcAt.none_tuple ty j
  |lst y=>
   obtain⟨v,l,rfl,ty,o⟩:=h;simpa [aR] using SeqAt.RcAt.none_list ty j
  |_=>exact(show False from h).elim
 |bl x=>
  cases z;cases e with
  |non=>
   cases h;simpa [aR] using SeqAt.RcAt.bool_none x
  |bl y=>
   cases h;simpa [aR,Vh] using SeqAt.RcAt.bool_bool x y
  |int y=>
   obtain⟨f,rfl⟩:=h;simpa [aR,Vh] using SeqAt.RcAt.bool_int x y f
  |str y=>
   obtain⟨f,rfl⟩:=h;simpa [aR] using SeqAt.RcAt.bool_str x y f
  |tup y=>
   obtain⟨v,l,rfl,ty,o⟩:=h;simpa [aR] using SeqAt.RcAt.bool_tuple x ty j
  |lst y=>
   obtain⟨v,l,rfl,ty,o⟩:=h;simpa [aR] using SeqAt.RcAt.bool_list x ty j
  |_=>exact(show False from h).elim
 |int x=>
  obtain⟨m,rfl⟩:=z;cases e with
  |non=>
   cases h;simpa [aR] using SeqAt.RcAt.int_none x m
  |bl y=>
   cases h;simpa [aR,Vh] using SeqAt.RcAt.int_bool x m y
  |int y=>
   obtain⟨f,rfl⟩:=h;simpa [aR,Vh] using SeqAt.RcAt.int_int x m y f
  |str y=>
   obtain⟨f,rfl⟩:=h;simpa [aR] using SeqAt.RcAt.int_str x m y f
  |tup y=>
   obtain⟨v,l,rfl,ty,o⟩:=h;simpa [aR] using SeqAt.RcAt.int_tuple x m ty j
  |lst y=>
   obtain⟨v,l,rfl,ty,o⟩:=h;simpa [aR] using SeqAt.RcAt.int_list x m ty j
  |_=>exact(show False from h).elim
 |str x=>
  obtain⟨m,rfl⟩:=z;cases e with
  |non=>
   cases h;simpa [aR] using SeqAt.RcAt.str_none x m
  |bl y=>
   cases h;simpa [aR] using SeqAt.RcAt.str_bool x m y
  |int y=>
   obtain⟨f,rfl⟩:=h;simpa [aR] using SeqAt.RcAt.str_int x m y f
  |str y=>
   obtain⟨f,rfl⟩:=h;simpa [aR,Vh] using SeqAt.RcAt.str_str x m y f
  |tup y=>
   obtain⟨v,l,rfl,ty,o⟩:=h;simpa [aR] using SeqAt.RcAt.str_tuple x m ty j
  |lst y=>
   obtain⟨v,l,rfl,ty,o⟩:=h;simpa [aR] using SeqAt.RcAt.str_list x m ty j
  |_=>exact(show False from h).elim
 |tup x=>
  obtain⟨I,C,rfl,q,E⟩:=z;cases e with
  |non=>
   cases h;simpa [aR] using SeqAt.RcAt.tuple_none q j
  |bl y=>
   cases h;simpa [aR] using SeqAt.RcAt.tuple_bool y q j
  |int y=>
   obtain⟨f,rfl⟩:=h;simpa [aR] using SeqAt.RcAt.tuple_int y f q j
  |str y=>
   obtain⟨f,rfl⟩:=h;simpa [aR] using SeqAt.RcAt.tuple_str y f q j
  |tup y=>
   obtain⟨v,l,rfl,ty,o⟩:=h;exact QU q ty E o fd F G
  |lst y=>
   obtain⟨v,l,rfl,ty,o⟩:=h;simpa [aR] using SeqAt.RcAt.tuple_list q ty j
  |_=>exact(show False from h).elim
 |lst x=>
  obtain⟨I,C,rfl,q,E⟩:=z;cases e with
  |non=>
   cases h;simpa [aR] using SeqAt.RcAt.list_none q j
  |bl y=>
   cases h;simpa [aR] using SeqAt.RcAt.list_bool y q j
  |int y=>
   obtain⟨f,rfl⟩:=h;simpa [aR] using SeqAt.RcAt.list_int y f q j
  |str y=>
   obtain⟨f,rfl⟩:=h;simpa [aR] using SeqAt.RcAt.list_str y f q j
  |tup y=>
   obtain⟨v,l,rfl,ty,o⟩:=h;simpa [aR] using SeqAt.RcAt.list_tuple q ty j
  |lst y=>
   obtain⟨v,l,rfl,ty,o⟩:=h;exact O0 q ty E o fd F G
  |_=>exact(show False from h).elim
 |_=>exact(show False from z).elim
theorem Kb{e:D}(z:Hr s.heap d u)(h:Hr s.heap e w)(fd:br n d=true)(F:br n e=true)(G:A.units+n<n7):Y3 A s u w (!aR d e):=by
 have j:A.units<cLine:=by lia
 cases d with
 |non=>
  cases z;cases e with
  |non=>
   cases h;simpa [aR,Vh] using SeqAt.RcNeAt.none_none
  |bl y=>
   cases h;simpa [aR] using SeqAt.RcNeAt.none_bool y
  |int y=>
   obtain⟨f,rfl⟩:=h;simpa [aR] using SeqAt.RcNeAt.none_int y f
  |str y=>
   obtain⟨f,rfl⟩:=h;simpa [aR] using SeqAt.RcNeAt.none_str y f
  |tup y=>
   obtain⟨v,l,rfl,ty,o⟩:=h;simpa [aR] using SeqAt.RcNeAt.none_tuple ty j
  |lst y=>
   obtain⟨v,l,rfl,ty,o⟩:=h;simpa [aR] using SeqAt.RcNeAt.none_list ty j
  |_=>exact(show False from h).elim
 |bl x=>
  cases z;cases e with
  |non=>
   cases h;simpa [aR] using SeqAt.RcNeAt.bool_none x
  |bl y=>
   cases h;simpa [aR,Vh] using SeqAt.RcNeAt.bool_bool x y
  |int y=>
   obtain⟨f,rfl⟩:=h;simpa [aR,Vh] using SeqAt.RcNeAt.bool_int x y f
  |str y=>
   obtain⟨f,rfl⟩:=h;simpa [aR] using SeqAt.RcNeAt.bool_str x y f
  |tup y=>
   obtain⟨v,l,rfl,ty,o⟩:=h;simpa [aR] using SeqAt.RcNeAt.bool_tuple x ty j
  |lst y=>
   obtain⟨v,l,rfl,ty,o⟩:=h;simpa [aR] using SeqAt.RcNeAt.bool_list x ty j
  |_=>exact(show False from h).elim
 |int x=>
  obtain⟨m,rfl⟩:=z;cases e with
  |non=>
   cases h;simpa [aR] using SeqAt.RcNeAt.int_none x m
  |bl y=>
   cases h;simpa [aR,Vh] using SeqAt.RcNeAt.int_bool x m y
  |int y=>
   obtain⟨f,rfl⟩:=h;simpa [aR,Vh] using SeqAt.RcNeAt.int_int x m y f
  |str y=>
   obtain⟨f,rfl⟩:=h;simpa [aR] using SeqAt.RcNeAt.int_str x m y f
  |tup y=>
   obtain⟨v,l,rfl,ty,o⟩:=h;simpa [aR] using SeqAt.RcNeAt.int_tuple x m ty j
  |lst y=>
   obtain⟨v,l,rfl,ty,o⟩:=h;simpa [aR] using SeqAt.RcNeAt.int_list x m ty j
  |_=>exact(show False from h).elim
 |str x=>
  obtain⟨m,rfl⟩:=z;cases e with
  |non=>
   cases h;simpa [aR] using SeqAt.RcNeAt.str_none x m
  |bl y=>
   cases h;simpa [aR] using SeqAt.RcNeAt.str_bool x m y
  |int y=>
   obtain⟨f,rfl⟩:=h;simpa [aR] using SeqAt.RcNeAt.str_int x m y f
  |str y=>
   obtain⟨f,rfl⟩:=h;simpa [aR,Vh] using SeqAt.RcNeAt.str_str x m y f
  |tup y=>
   obtain⟨v,l,rfl,ty,o⟩:=h;simpa [aR] using SeqAt.RcNeAt.str_tuple x m ty j
  |lst y=>
   obtain⟨v,l,rfl,ty,o⟩:=h;simpa [aR] using SeqAt.RcNeAt.str_list x m ty j
  |_=>exact(show False from h).elim
 |tup x=>
  obtain⟨I,C,rfl,q,E⟩:=z;cases e with
  |non=>
   cases h;simpa [aR] using SeqAt.RcNeAt.tuple_none q j
  |bl y=>
   cases h;simpa [aR] using SeqAt.RcNeAt.tuple_bool y q j
  |int y=>
   obtain⟨f,rfl⟩:=h;simpa [aR] using SeqAt.RcNeAt.tuple_int y f q j
  |str y=>
   obtain⟨f,rfl⟩:=h;simpa [aR] using SeqAt.RcNeAt.tuple_str y f q j
  |tup y=>
   obtain⟨v,l,rfl,ty,o⟩:=h;exact HH q ty E o fd F G
  |lst y=>
   obtain⟨v,l,rfl,ty,o⟩:=h;simpa [aR] using SeqAt.RcNeAt.tuple_list q ty j
  |_=>exact(show False from h).elim
 |lst x=>
  obtain⟨I,C,rfl,q,E⟩:=z;cases e with
  |non=>
   cases h;simpa [aR] using SeqAt.RcNeAt.list_none q j
  |bl y=>
   cases h;simpa [aR] using SeqAt.RcNeAt.list_bool y q j
  |int y=>
   obtain⟨f,rfl⟩:=h;simpa [aR] using SeqAt.RcNeAt.list_int y f q j
  |str y=>
   obtain⟨f,rfl⟩:=h;simpa [aR] using SeqAt.RcNeAt.list_str y f q j
  |tup y=>
   obtain⟨v,l,rfl,ty,o⟩:=h;simpa [aR] using SeqAt.RcNeAt.list_tuple q ty j
  |lst y=>
   obtain⟨v,l,rfl,ty,o⟩:=h;exact HF q ty E o fd F G
  |_=>exact(show False from h).elim
 |_=>exact(show False from z).elim
section
variable{ab2:acg}
mutual
theorem Md(I:Inv X ab2 U H s):∀{n:Nat}{d:D}{v:V}{u:ax},br n d=true->Rp X.K H d v->RelV v u->Hr s.heap d u
 |_,.non,v,u,_,r,q=>by cases r;exact q
 |_,.bl _,v,u,_,r,q=>by cases r;exact q
 |_,.int _,v,u,_,r,q=>by cases r;exact q
 |_,.str _,v,u,_,r,q=>by cases r;exact q
 |n+1,.tup xs,v,u,f,r,q=>by
  obtain⟨p,l,rfl,t,r⟩:=r;cases q;obtain⟨ab8,h,j,_⟩:=I.tuple t.sq;exact#[p,ab8,rfl,j,g_ I (n:=n) f r h]
 |n+1,.lst xs,v,u,f,r,q=>by
  obtain⟨p,l,rfl,t,r⟩:=r;cases q;obtain⟨ab8,h,j,_⟩:=I.list t.sq;exact#[p,ab8,rfl,j.isList,g_ I (n:=n) f r h]
 |0,.tup _,_,_,f,_,_=>by simp[br]at f
 |0,.lst _,_,_,f,_,_=>by simp[br]at f
 |_,.ty _,_,_,f,_,_=>by simp[br]at f
 |_,.ref _,_,_,f,_,_=>by simp[br]at f
 |_,.mt _,_,_,f,_,_=>by simp[br]at f
 |_,.ml _,_,_,f,_,_=>by simp[br]at f
 |_,.fd _ _,_,_,f,_,_=>by simp[br]at f
theorem g_(I:Inv X ab2 U H s):∀{n:Nat}{ds:List D}{vs:List V}{us:aca},fits n ds=true->Rps X.K H ds vs->Vals vs us->Hrs s.heap ds us
 |_,[],vs,us,_,r,q=>by cases r;cases q;rfl
 |n,d::ds,vs,us,f,r,q=>by
  obtain⟨v,h,rfl,a,b⟩:=r;rw[fits,VU]at f;cases q with
  |cons q1 q2=>exact#[_,_,rfl,Md I f.1 a q1,g_ I f.2 b q2]
end
def dv(M:Mem):D->D
 |.ref a=>match M a with
  |some (.lst xs)=>.lst xs
  |_=>.ref a
 |d=>d
theorem pj(I:Inv X ab2 U H s)(o:RepH X.K H M)(f:br n (dv M d)=true)(r:Rp X.K H d v)(q:RelV v u):Hr s.heap (dv M d) u:=by
 cases d with
 |ref a=>
  cases r;simp[dv]at f ⊢
  split at f
  .rename_i y e
   obtain⟨w,m,h⟩:=o _ _ e;obtain⟨ab8,j,l,_⟩:=I.list (SqL.of m);cases q;cases n with
   |zero=>trivial
   |succ n=>exact#[a,_,rfl,l.isList,g_ I f h j]
  trivial
 |_=>exact Md I f r q
def bX:g9:=λx y M Q=>br 60 (dv M x)=true/\br 60 (dv M y)=true/\Q (.bl<|aR (dv M x)<|dv M y) M
def fX:g9:=λx y M Q=>br 60 (dv M x)=true/\br 60 (dv M y)=true/\Q (.bl<|!aR (dv M x) (dv M y)) M
theorem Fk(F:X.A.units+64<n7):cQ X (kl .Eq) (liftR2 X bX):=by
 rintro ab2 s U H x y v u Q I o w ⟨C,E,M,QQ,f,z,q,⟨l,j,h⟩,m⟩
 exact Uh (pj I f l z o) (pj I f j q w) l j (by lia) _ _ _ _ #[.bl _,H,I,rfl,m _ M h _ H f Frm.refl rfl]
theorem IV(F:X.A.units+64<n7):cQ X (kl .NotEq) (liftR2 X fX):=by
 rintro ab2 s U H x y v u Q I o w ⟨C,E,M,QQ,f,z,q,⟨l,j,h⟩,m⟩
 exact Kb (pj I f l z o) (pj I f j q w) l j (by lia) _ _ _ _ #[.bl _,H,I,rfl,m _ M h _ H f Frm.refl rfl]
open Classical in
noncomputable def MJ(h:h9)(x:D)(u:ax):Bool:=if q:∃d,Hr h d u then aR q.choose x else eC
theorem IP{x:D}(r:Hr h d u):MJ h x u=aR d x:=by
 have q:∃d,Hr h d u:=#[d,r];unfold MJ;rw[dif_pos q,IS q.choose_spec r]
theorem kz{x:D}:∀{ds:List D}{us:aca},Hrs h ds us->us.any (MJ h x)=ds.any λd=>aR d x
 |[],_,r=>by cases r;rfl
 |d::ds,_,r=>by
  obtain⟨v,f,rfl,a,b⟩:=r;rw[X6,X6,IP a,kz b]
theorem jU{x:D}(m:Hr s.heap x w)(l:br n x=true)(j:A.units+n<n7):∀{ds:List D}{us:aca},Hrs s.heap ds us->fits n ds=true->∀u∈us,XD A s u w (MJ s.heap x u)
 |[],_,r,_,u,j=>by cases r;cases j
 |d::ds,_,r,f,u,h=>by
  obtain⟨v,o,rfl,a,b⟩:=r;rw[fits,VU]at f;rcases UK.mp h with rfl|h
  .rw[IP a];exact MY n a m f.1 l j
  exact jU m l j b f.2 u h
def sH(M:Mem)(x y:D):Option Bool:=match aO M y with
 |some xs=>if br 60 (dv M x)=true/\fits 60 xs=true then ap (xs.any λd=>aR d (dv M x)) else ay
 |none=>match y with
  |.ref a=>match uF M a x with
   |some o=>ap o.isSome
   |none=>ay
  |_=>ay
def FX:g9:=λx y M Q=>so (sH M x y) λk=>Q (.bl k) M
def yd:g9:=λx y M Q=>so (sH M x y) λk=>Q (.bl<|!k) M
theorem IR(Y:X.A.units+64<n7):cQ X (kl .In) (liftR2 X FX):=by
 rintro ab2 s U H x y v u Q I m z ⟨E,S,M,QQ,l,C,F,h,L⟩
 unfold FX at h;obtain⟨k,e,h⟩:=h.inv;have fin:=L _ M h _ H l Frm.refl rfl;unfold sH at e
 split at e
 .rename_i R J
  split at e
  .rename_i f
   cases e;obtain⟨p,W,rfl,hq,r⟩:=j_ l F J;cases z;have G:=pj I l f.1 C m;rcases hq with hq|hq
   .obtain⟨ab8,q,pl,_⟩:=I.list hq
    have j:=g_ I f.2 r q;refine SeqAt.in_listAt _ pl.isList (λw N=>jU G f.1 (by show X.A.units+1+60<n7;lia) j f.2 w (by simp_all)) #[.bl _,H,I,rfl,?_]
    rw[show ab8.toArray.any _=ab8.any (MJ s.heap<|dv M E) by simp,kz j]
    exact fin
   obtain⟨ab8,q,pl,_⟩:=I.tuple hq;have j:=g_ I f.2 r q;refine SeqAt.in_tupleAt _ pl (λw N=>jU G f.1 (by show X.A.units+1+60<n7;lia) j f.2 w (by simp_all)) #[.bl _,H,I,rfl,?_]
   rw[show ab8.toArray.any _=ab8.any (MJ s.heap<|dv M E) by simp,kz j]
   exact fin
  cases e
 split at e
 .split at e
  .rename_i o O
   cases e;cases F;cases z;rcases nC l C O with⟨rfl,g⟩|⟨d,w,rfl,g,_⟩
   .exact Ti (by lia) I g m λP I'=>#[.bl _,H,I',rfl,fin]
   exact Ti (by lia) I g m λP I'=>#[.bl _,H,I',rfl,fin]
  cases e
 cases e
theorem DV(Y:X.A.units+64<n7):cQ X (kl .NotIn) (liftR2 X yd):=by
 rintro ab2 s U H x y v u Q I m z ⟨E,S,M,QQ,l,C,F,h,L⟩
 unfold yd at h;obtain⟨k,e,h⟩:=h.inv;have fin:=L _ M h _ H l Frm.refl rfl;unfold sH at e
 split at e
 .rename_i R J
  split at e
  .rename_i f
   cases e;obtain⟨p,W,rfl,hq,r⟩:=j_ l F J;cases z;have G:=pj I l f.1 C m;rcases hq with hq|hq
   .obtain⟨ab8,q,pl,_⟩:=I.list hq
    have j:=g_ I f.2 r q;refine SeqAt.notIn_listAt _ pl.isList (λw N=>jU G f.1 (by show X.A.units+1+60<n7;lia) j f.2 w (by simp_all)) #[.bl _,H,I,rfl,?_]
    rw[show ab8.toArray.any _=ab8.any (MJ s.heap<|dv M E) by simp,kz j]
    exact fin
   obtain⟨ab8,q,pl,_⟩:=I.tuple hq;have j:=g_ I f.2 r q;refine SeqAt.notIn_tupleAt _ pl (λw N=>jU G f.1 (by show X.A.units+1+60<n7;lia) j f.2 w (by simp_all)) #[.bl _,H,I,rfl,?_]
   rw[show ab8.toArray.any _=ab8.any (MJ s.heap<|dv M E) by simp,kz j]
   exact fin
  cases e
 split at e
 .split at e
  .rename_i o O
   cases e;cases F;cases z;rcases nC l C O with⟨rfl,g⟩|⟨d,w,rfl,g,_⟩
   .exact BU (by lia) I g m λP I'=>#[.bl _,H,I',rfl,fin]
   exact BU (by lia) I g m λP I'=>#[.bl _,H,I',rfl,fin]
  cases e
 cases e
end
structure DEnds where
 nx:Dl->Mem->Prop
 rt:DK
 bk:Dl->Mem->Prop:=λ_ _=>False
 ct:Dl->Mem->Prop:=λ_ _=>False
abbrev av:=DEnds->Dl->Mem->Prop
def UpN(X:Cx)(B:Bd)(M:Mem)(H:Hp)(QQ:Dl->Mem->Prop)(Q:_2.St->Hp->Prop):Prop:=∀Y M',QQ Y M'->∀U H',Frm M H M' H'->SR X B Y M' U H'->Q U H'
theorem UpN.go{M1:Mem}(u:UpN X B M H QQ Q)(i:Frm M H M1 H1):UpN X B M1 H1 QQ Q:=λY M q U H' a=>u Y M q U H' (i.trans a)
structure UpD(X:Cx)(B:Bd)(M:Mem)(H:Hp)(DD:DEnds)(D:Ends):Prop where
 nx:UpN X B M H DD.nx D.nx
 rt:Up X.K M H DD.rt D.rt
 bk:UpN X B M H DD.bk D.bk
 ct:UpN X B M H DD.ct D.ct
theorem UpD.go{M1:Mem}{D:Ends}(u:UpD X B M H DD D)(i:Frm M H M1 H1):UpD X B M1 H1 DD D:=#[u.nx.go i,u.rt.go i,u.bk.go i,u.ct.go i]
inductive liftS(X:Cx)(B:Bd)(T:av)(D:Ends)(U:St)(H:Hp):Prop
 |mk (Y:Dl) (M:Mem) (DD:DEnds) (s:SR X B Y M U H) (h:T DD Y M) (u:UpD X B M H DD D):liftS X B T D U H
def DS(X:Cx)(B:Bd)(st:om)(T:av):Prop:=PS X st (liftS X B T)
def xI(X:Cx)(B:Bd)(st:ace)(T:av):Prop:=wk X st (liftS X B T)
section
variable{u:av}
def aB:av:=λD Y M=>D.nx Y M
def ah(t u:av):av:=λD Y M=>t { D with nx:=u D } Y M
theorem JK:xI X B [] aB:=oN (λ_ _ U H _ I h=>pa #[U,H,I,h]) (by rintro D U H ⟨Y,M,DD,s,h,f⟩;exact f.nx Y M h U H Frm.refl s)
theorem dg(v:DS X B st t)(o:xI X B rest u):xI X B (st::rest) (ah t u):=by
 refine oN (Ht v o) ?_
 rintro D U H ⟨Y,M,DD,s,h,f⟩
 exact#[Y,M,_,s,h,#[λl M' q j H' i m=>#[_,M',DD,m,q,f.go i],f.rt,f.bk,f.ct]]
theorem eI(f:DS X B st t):xI X B [st] t:=CV f
def b6(te:bh):av:=λD Y M=>te Y M λ_ M1=>D.nx Y M1
theorem Kl(l:DE X B e te)(m:mo e ay pos.line X.env=pure false:=by rfl):DS X B (.Expr e pos) (b6 te):=by
 refine bR (JV l m) ?_
 rintro D U H ⟨Y,M,DD,s,h,f⟩
 exact#[Y,M,_,s,h,λd M' q v H' j i r=>f.nx Y M' q U H' i (s.go j i)]
def az(te:bh):av:=λD Y M=>te Y M D.rt
theorem Pc(j:DE X B e te):DS X B (.Return (ap e) pos) (az te):=by
 refine bR ((λl=>by
    intro ab2 s U H D I h;exact wpAny_Return_some (bE (l _ s U H _ I h)<|by rintro v q ⟨x,H1,I1,j,g⟩;exact#[x,U,H1,I1,j,g])) j) ?_
 rintro D U H ⟨Y,M,DD,s,h,f⟩
 exact#[Y,M,_,s,h,f.rt]
def aC(c:fZ)(t u:av):av:=λD Y M=>c Y M λb M1=>if b=true then t D Y M1 else u D Y M1
theorem S6{a b:ace}(m:DT X B c f)(v:xI X B a t)(o:xI X B b u):DS X B (.If c a b pos) (aC f t u):=by
 refine bR (T9 m v o) ?_
 rintro D U H ⟨Y,M,DD,s,h,j⟩
 refine#[Y,M,_,s,h,λc M' q H' l i=>?_];cases c with
 |_=>exact#[Y,M',DD,s.go l i,q,j.go i]
abbrev lD:=D->Dl->Mem->(Dl->Mem->Prop)->Prop
abbrev qt:=List D->Dl->Mem->(Dl->Mem->Prop)->Prop
inductive liftG(X:Cx)(B:Bd)(g:lD)(v:V)(U:St)(H:Hp)(Q:St->Hp->Prop):Prop
 |mk (d:_3.D) (Y:Dl) (M:Mem) (QQ:Dl->Mem->Prop) (s:SR X B Y M U H) (r:Rp X.K H d v) (h:g d Y M QQ) (u:UpN X B M H QQ Q):liftG X B g v U H Q
inductive liftGs(X:Cx)(B:Bd)(g:qt)(vs:List V)(U:St)(H:Hp)(Q:St->Hp->Prop):Prop
 |mk (ds:List _3.D) (Y:Dl) (M:Mem) (QQ:Dl->Mem->Prop) (s:SR X B Y M U H) (r:Rps X.K H ds vs) (h:g ds Y M QQ) (u:UpN X B M H QQ Q):liftGs X B g vs U H Q
def DG(X:Cx)(B:Bd)(tg:f')(g:lD):Prop:=PG X tg (liftG X B g)
def TQ(X:Cx)(B:Bd)(tgs:acd)(g:qt):Prop:=Qo X tgs (liftGs X B g)
theorem nq(h:PG X tg t)(w:∀v U H Q,t' v U H Q->t v U H Q):PG X tg t':=λf s U H v u Q I r q=>h _ s U H v u Q I r (w v U H Q q)
theorem xc(h:Qo X tg t)(w:∀v U H Q,t' v U H Q->t v U H Q):Qo X tg t':=λf s U H v u Q I r q=>h _ s U H v u Q I r (w v U H Q q)
theorem SR.set(s:SR X B Y M U H)(r:Rp X.K H d v):SR X B (Y.set i<|some d) M (U.set i<|some v) H:=#[s.i0,s.rh,s.rs.set r]
def af(i:Nat):lD:=λd Y M Q=>Q (Y.set i<|some d) M
theorem Ky(m:X.N.Nodup)(l:X.N[i]?=ap x)(f:xH X.env.scope x)(j:X.fn x=true\/X.env.scope.names.lookup x=ap .local:=by and_intros):DG X B (.Name x pos) (af i):=by
 refine nq (Lm m l f j) ?_
 rintro v U H Q ⟨d,Y,M,QQ,s,r,h,u⟩
 exact u _ M h _ H Frm.refl (s.set r)
def dh:qt:=λf Y M Q=>nil0 f (Q Y M)
def aP(t:lD)(u:qt):qt:=λh Y M Q=>cns h λd r=>t d Y M λf M'=>u r f M' Q
theorem LM:TQ X B [] dh:=by
 refine xc LZ ?_
 rintro v U H Q ⟨f,Y,M,QQ,s,r,h,u⟩
 cases f with
 |nil=>exact#[r,u Y M h U H Frm.refl s]
 |cons _ _=>trivial
theorem Ie{u:qt}(F:DG X B e t)(E:TQ X B es u)(C:(mu (e::es) X.env).map (·.2)=abl e X.env::(mu es X.env).map (·.2):=by rfl):TQ X B (e::es) (aP t u):=by
 refine xc (Gx F E C) ?_
 rintro v U H Q ⟨f,Y,M,QQ,s,r,h,j⟩
 cases f with
 |nil=>trivial
 |cons d f=>
  obtain⟨v1,w,rfl,y,m⟩:=r;exact#[v1,w,rfl,d,Y,M,_,s,y,h,λo M' q l H' i z=>#[f,_,M',QQ,z,m.mf s.rh i,q,j.go i]]
def dE(n:Nat)(t:qt):lD:=λd Y M Q=>onT d λf=>f.length=n/\t f Y M Q
theorem Qy(o:X.calm=true)(h:TQ X B es t)(m:(mu es X.env).length=n:=by rfl)(hst:(mu es X.env).findIdx? (·.1)=none:=by rfl):DG X B (.Tuple es k pos) (dE n t):=by
 refine nq (OT o h m hst) ?_
 rintro v U H Q ⟨d,Y,M,QQ,s,r,h,f⟩
 cases d with
 |tup xs=>
  obtain⟨p,j,rfl,l,r⟩:=r;exact#[p,j,rfl,l.sq,by rw[<- r.length];exact h.1,xs,Y,M,QQ,s,r,h.2,f]
 |_=>exact h.elim
def ar(te:bh)(g:lD):av:=λD Y M=>te Y M λx M1=>g x Y M1 D.nx
theorem Py(m:DE X B e te)(l:DG X B tg g)(o:swapsWithSole [tg] e pos.line X.env=pure false:=by rfl)(hw:swappedStores [tg] e X.env=pure none:=by rfl)(h1:(mu [tg] X.env).map (·.2)=[abl tg X.env]:=by rfl):DS X B (.Assign [tg] e pos) (ar te g):=by
 refine bR (QA m l o hw h1) ?_
 rintro D U H ⟨Y,M,DD,s,h,f⟩
 exact#[Y,M,_,s,h,λd M' q v H' j i r=>#[d,Y,M',_,s.go j i,r,q,f.nx.go i]]
theorem Og(m:X.N.Nodup)(w:X.N[i]?=ap x)(y:xH X.env.scope x)(l:DE X B e te)(o:mo e (ap<|.Name x pos') pos.line X.env=pure false:=by rfl)(hf:X.fn x=true\/X.env.scope.names.lookup x=ap .local:=by and_intros):
  DS X B (.Assign [.Name x pos'] e pos) (ar te<|af i):=by
 refine bR (Hn m w y l o hf) ?_
 rintro D U H ⟨Y,M,DD,s,h,f⟩
 exact#[Y,M,_,s,h,λd M' q v H' j i r=>f.nx _ M' q _ H' i ((s.go j i).set r)]
def IJ(i:Nat)(te:bh)(r:g9):av:=λD Y M=>s2 (Y[i]?) λx=>te Y M λy M1=>r x y M1 λz M2=>D.nx (Y.set i<|some z) M2
theorem Qz{r:g9}(P:X.N.Nodup)(Q:X.N[i]?=ap x)(R:xH X.env.scope x)(L:DE X B e te)(S:Im X m (liftR2 X r))(O:X.fn x=true\/X.env.scope.names.lookup x=ap .local:=by and_intros):
  DS X B (.AugAssign (.Name x pos') m e pos) (IJ i te r):=by
 refine bR (P_ P Q R L S O) ?_
 rintro D U H ⟨Y,M,DD,s,h,C⟩
 unfold IJ at h;obtain⟨l,o,h⟩:=h.inv;obtain⟨v,I,J⟩:=s.rs.get i l o;exact#[v,I,Y,M,_,s,h,λy M1 q w H1 f i1 F=>#[l,y,M1,_,f,J.mf s.rh i1,F,q,λz M2 G W H2 j i2 E=>C.nx _ M2 G _ H2 (i1.trans i2) ((s.go j<|i1.trans i2).set E)]]
theorem ND{g:Int->Int->Int}(h:Im X m (ipI g)):Im X m (liftR2 X (md λi j=>.int (g i j))):=by
 rintro l s U H x y v u Q I q z ⟨F,G,M,QQ,E,C,w,f,o⟩
 unfold md at f
 replace f:=f.inv;obtain⟨_,rfl,f⟩:=f
 replace f:=f.inv;obtain⟨_,rfl,f⟩:=f
 cases C;cases w;exact h _ s U H _ _ v u Q I q z #[_,_,rfl,rfl,o _ M f _ H E Frm.refl rfl]
abbrev qG:g9:=md λi j=>.int (i+j)
theorem zO:Im X .Add (liftR2 X qG):=ND Rj
theorem Jb:Im X .Sub (liftR2 X gu):=ND Rb
def kL(o i v:D)(M:Mem)(Q:Mem->Prop):Prop:=onR o λa=>mSet (M a) (λxs=>onI i λk=>so (ve xs.length k) λj=>Q (M.upd a<|.lst<|xs.set j v)) (λf=>so (cW i) λk=>f.length<sizeLine/\Q (M.upd a<|.dK<|fU f k v)) λf=>so (Q4 i) λk=>f.length<sizeLine/\Q (M.upd a<|.dT<|fU f k v)
inductive liftSet(X:Cx)(o i v:V)(H:Hp)(Q:Hp->Prop):Prop
 |mk (d1 d2 d3:_3.D) (M:Mem) (QQ:Mem->Prop) (rh:RepH X.K H M) (r1:Rp X.K H d1 o) (r2:Rp X.K H d2 i) (r3:Rp X.K H d3 v) (h:kL d1 d2 d3 M QQ) (u:∀M',QQ M'->∀H',RepH X.K H' M'->Frm M H M' H'->Q H'):liftSet X o i v H Q
theorem zf(hu:X.A.units+1<n7):Ma X (liftSet X):=by
 rintro ab2 s U H o i v ov iv u Q I ro ri rv ⟨d1,d2,d3,M,QQ,rh,r1,r2,r3,h,up⟩
 unfold kL at h
 replace h:=h.inv;obtain⟨a,rfl,h⟩:=h
 cases r1;cases ro
 replace h:=h.inv;rcases h with⟨xs,hM,h⟩|⟨ab4,hM,h⟩|⟨ab4,hM,h⟩
 .replace h:=h.inv;obtain⟨k,rfl,h⟩:=h
  cases r2;obtain⟨vs,h1,h2⟩:=rh _ _ hM;obtain⟨j,ej,h⟩:=h.inv;exact Fo _ s U H (.ref a) _ v _ iv u Q I rfl ri rv #[a,vs,k,j,rfl,rfl,h1,by rw[<- h2.length];exact ej,up _ h _ (rh.put (by rw[h1];trivial) #[_,upd_same,(h2.set r3 j).mono<|Imm.upd<|by rw[h1];trivial])<|Frm.put<|.inr #[_,hM]]
 .obtain⟨ws,h1,h2⟩:=rh _ _ hM
  obtain⟨k,ek,h⟩:=h.inv;have ev:=iF r2 ek;subst ev;exact qK hu I (DPut.k h1<|by rw[<- h2.length];exact h.1) ri rv λs' I'=>#[_,I',up _ h.2 _ (rh.put (by rw[h1];trivial) #[_,upd_same,(h2.put k r3).mono<|Imm.upd<|by rw[h1];trivial])<|Frm.put<|.inr #[_,hM]]
 obtain⟨ws,h1,h2⟩:=rh _ _ hM;obtain⟨k,ek,h⟩:=h.inv;obtain⟨b,rfl,hb⟩:=xp r2 ek;exact qK hu I (DPut.t h1 hb<|by rw[<- h2.length];exact h.1) ri rv λs' I'=>#[_,I',up _ h.2 _ (rh.put (by rw[h1];trivial) #[_,upd_same,(h2.put k r3).mono<|Imm.upd<|by rw[h1];trivial])<|Frm.put<|.inr #[_,hM]]
def cM(to ti:bh):lD:=λv Y M Q=>to Y M λo M1=>ti Y M1 λi M2=>kL o i v M2 λM3=>Q Y M3
theorem Pl{i:f'}(I:X.A.units+1<n7)(F:DE X B o to)(G:DE X B i ti)(J:∀v,abl (.Subscript o i pos) X.env v=(do
   let ov <- py [v] (g3 o X.env)
   let iv <- py [v,ov] (g3 i X.env)
   R' pos
   py [v,ov,iv] (abq ov iv v)
   release [v,ov,iv] []):=by intro _;rfl):DG X B (.Subscript o i pos) (cM to ti):=by
 refine nq (OX F G (zf I) J) ?_
 rintro v U H Q ⟨d,Y,M,QQ,s,r,h,q⟩
 exact#[Y,M,_,s,h,λx M1 m v1 H1 f i1 C=>#[Y,M1,_,s.go f i1,m,λy M2 E v2 H2 l i2 z=>#[x,y,d,M2,_,l,C.mf f i2,z,r.mf s.rh (i1.trans i2),E,λM3 w H3 j i3=>q Y M3 w U H3 ((i1.trans i2).trans i3) (s.go j<|(i1.trans i2).trans i3)]]]
end
section
variable{f:Str}
def b_(f:Str)(v:D):List (Str×D)->List (Str×D)
 |[]=>[(f,v)]
 |(g,w)::r=>if g=f then (g,v)::r else (g,w)::b_ f v r
theorem Rkv.lookup(h:Rkv K H fs j)(f:Str):(fs.lookup f=ay/\j.lookup f=ay)\/∃d v,fs.lookup f=ap d/\j.lookup f=ap v/\Rp K H d v:=by
 induction h with
 |nil=>exact .inl #[rfl,rfl]
 |@cons p q ps qs r t ih=>
  obtain⟨l,d⟩:=p;obtain⟨m,v⟩:=q;obtain⟨e,r⟩:=r;subst e;rw[Ws,Ws];cases w:f==l with
  |true=>exact .inr (by lia)
  |false=>exact ih
theorem putF_eq(f:Str)(v:V):∀h:List (Str×V),dJ f v h=(match h with|[]=>[(f,v)]|(g,w)::r=>if g=f then (g,v)::r else (g,w)::dJ f v r)
 |[]=>rfl
 |(g,w)::r=>by rw[dJ]
theorem kG{K:UE}{H:Hp}{f:Str}(h:Rp K H d v):∀{fs:List (Str×D)}{ws:List (Str×V)},Rkv K H fs ws->Rkv K H (b_ f d fs) (_2.dJ f v ws)
 |_,_,.nil=>.cons #[rfl,h] .nil
 |(k1,d1)::fs,(k2,v1)::ws,.cons r t=>by
  obtain⟨e,r⟩:=r;subst e;show Rkv K H (if k1=f then (k1,d)::fs else (k1,d1)::b_ f d fs) (if k1=f then (k1,v)::ws else (k1,v1)::_2.dJ f v ws)
  split
  .exact .cons #[rfl,h] t
  exact .cons #[rfl,r] (kG h t)
def aW(C:eg)(ta:bh)(f:Str):bh:=λY M Q=>ta Y M λx M1=>onR x λa=>mN (M1 a) λC' fs=>C'=C/\so (fs.lookup f) λd=>Q d M1
theorem OO(c:Cls X.K C)(n:NoAttr X.K C f)(I:DE X B e ta)(J:kB e f X.env (g3 e X.env)=g3 e X.env:=by rfl):DE X B (.Attribute e f pos) (aW C ta f):=by
 refine aT (NT I J) ?_
 rintro U H Q ⟨Y,M,QQ,s,h,u⟩
 refine#[Y,M,_,s,h,λx M1 j v1 H1 l i1 q=>?_]
 replace j:=j.inv;obtain⟨a,rfl,j⟩:=j
 cases q
 replace j:=j.inv;obtain⟨C',fs,w,j⟩:=j
 obtain⟨rfl,j⟩:=j;obtain⟨E,y,F,G⟩:=l _ _ w
 replace j:=j.inv;obtain⟨d,m,j⟩:=j
 rcases G.lookup f with⟨z,_⟩|⟨d',v,z1,z2,z3⟩
 .simp_all
 rw[m]at z1;cases z1;exact#[a,_,E,y,v,rfl,F,c,n,z2,u _ M1 j _ H1 l i1 z3]
def cG(C:eg)(ta tv:bh)(f:Str):av:=λD Y M=>tv Y M λy M1=>ta Y M1 λx M2=>onR x λa=>mN (M2 a) λC' fs=>C'=C/\fs.length<1000/\D.nx Y (M2.upd a<|.ins C<|b_ f y fs)
theorem Pr(c:Cls X.K C)(n:NoAttr X.K C f)(ha:DE X B o ta)(hv:DE X B value tv)(hs:mo value (ap<|.Attribute o f pos') pos.line X.env=pure false:=by rfl):DS X B (.Assign [.Attribute o f pos'] value pos) (cG C ta tv f):=by
 refine bR (NW ha hv hs) ?_
 rintro D U H ⟨Y,M,DD,s,h,up⟩
 refine#[Y,M,_,s,h,λy M1 h1 v1 H1 rh1 i1 r1=>?_];refine#[Y,M1,_,s.go rh1 i1,h1,λx M2 h2 v2 H2 rh2 i2 r2=>?_]
 replace h2:=h2.inv;obtain⟨a,rfl,h2⟩:=h2
 cases r2;obtain⟨C',fs,hM,h2⟩:=h2.inv;obtain⟨rfl,hl,h2⟩:=h2;obtain⟨dx,ws,e1,e2⟩:=rh2 _ _ hM;have i3:Frm M2 H2 (M2.upd a<|.ins C'<|b_ f y fs) (upd H2 a<|.ins C' dx<|_2.dJ f v1 ws):=Frm.put (.inr #[_,hM]);exact#[a,C',dx,ws,rfl,e1,c,n,by rw[<- e2.length];exact hl,up.nx _ _ h2 U _ ((i1.trans i2).trans i3)<|s.go (rh2.put (by rw[e1];trivial) #[dx,_,upd_same,(kG (r1.mf rh1 i2) e2).mono<|i3.imm rh2])<|(i1.trans i2).trans i3]
structure BxW(c:fZ)(tb:av)(D:DEnds):Type
structure BxF(g:lD)(tb:av)(D:DEnds)(ok:Mem->Prop):Type
def cu(c:fZ)(tb:av)(D:DEnds)(bx:BxW c tb D):Nat->Dl->Mem->Prop
 |0,_,_=>False
 |n+1,Y,M=>c Y M λb M1=>if b=true then tb { D with nx:=cu c tb D bx n,ct:=cu c tb D bx n,bk:=D.nx } Y M1 else D.nx Y M1
def kN(c:fZ)(tb:av):av:=λD Y M=>∃n,cu c tb D #[] n Y M
theorem HQ(R:abG (fv X.prog X.w) X.A X.env X.xe)(S:DT X B c L)(Q:xI X B j tb):DS X B (.While c j [] pos) (kN L tb):=by
 refine bR (Gv R S Q) ?_
 rintro D U H ⟨Y,M,DD,s,⟨n,h⟩,y⟩
 refine#[λm l H'=>∃δ' M',SR X B δ' M' l H'/\Frm M H M' H'/\cu L tb DD _ m δ' M',#[n,Y,M,s,Frm.refl,h],?_]
 rintro m O H1 ⟨P,M1,F,i1,N⟩
 cases m with
 |zero=>trivial
 |succ m=>
  refine#[_,M1,_,F,N,λb M2 q H2 v i2=>?_];cases b with
  |false=>exact y.nx _ _ q _ H2 (i1.trans i2) (F.go v i2)
  |true=>
   exact#[_,λl H' z=>#[m,by lia,z],#[_,M2,_,F.go v i2,q,#[λI M3 J E H3 i3 G=>#[_,M3,G,(i1.trans i2).trans i3,J],(y.go<|i1.trans i2).rt,(y.go<|i1.trans i2).nx,λI M3 J E H3 i3 G=>#[_,M3,G,(i1.trans i2).trans i3,J]]]]
structure DIt where
 items:List D
 src:List (eg×List D)
def DIt.ok(I:DIt)(M:Mem):Prop:=∀p∈I.src,M p.1=ap (.lst p.2)
abbrev yM:=Dl->Mem->(DIt->Mem->Prop)->Prop
def SF(K:UE)(H0:Hp)(it:DIt)(J:It):Prop:=∀(i:Nat)(H:Hp)(M:Mem),Imm H0 H->RepH K H M->it.ok M->
 (∀d,it.items[i]?=ap d->J.go i H/\∀x H',J.yld i H x H'->Frm M H M H'/\RepH K H' M/\Rp K H' d x)/\(it.items.length<=i->J.stop i H)
inductive liftI(X:Cx)(B:Bd)(T:yM)(U:St)(H:Hp)(R:It->Hp->Prop):Prop
 |mk (Y:Dl) (M:Mem) (RR:DIt->Mem->Prop) (s:SR X B Y M U H) (h:T Y M RR) (u:∀it M',RR it M'->∀J H',RepH X.K H' M'->Frm M H M' H'->SF X.K H' it J->R J H'):liftI X B T U H R
def DI(X:Cx)(B:Bd)(tg iter:f')(T:yM):Prop:=PI X tg iter (liftI X B T)
theorem jV(h:PI X tg j t)(w:∀U H Q,t' U H Q->t U H Q):PI X tg j t':=λl s U H Q I q=>h _ s U H Q I (w U H Q q)
def eV(g:lD)(tb:av)(DD:DEnds)(ok:Mem->Prop)(b:BxF g tb DD ok):List D->Dl->Mem->Prop
 |[],Y,M=>ok M/\DD.nx Y M
 |x::xs,Y,M=>ok M/\g x Y M λh M2=>tb { DD with nx:=eV g tb DD ok b xs,ct:=eV g tb DD ok b xs,bk:=DD.nx } h M2
def cJ(wi:yM)(g:lD)(tb:av):av:=λD Y M=>wi Y M λh M1=>eV g tb D h.ok #[] h.items Y M1
theorem Kc{b:BxF g tb DD ok}(h:eV g tb DD ok b xs Y M):ok M:=by
 cases xs with
 |_=>exact h.1
theorem Oo(hp:abG (fv X.prog X.w) X.A X.env X.xe)(hc:X.calm=true)(hi:DI X B tg j S)(hg:DG X B tg g)(hb:xI X B l tb)(hs:∀x,re j X.env x=pure x:=by intro _;rfl):DS X B (.For tg j l [] pos) (cJ S g tb):=by
 refine bR (Rg hp hc hi hg hb hs) ?_
 rintro D U H ⟨Y,M,DD,s,h,G⟩
 refine#[Y,M,_,s,h,λF M1 h1 J H1 E i1 hJ=>?_];refine#[λi m q H'=>m=F.items.length-i/\i<=F.items.length/\∃δ' M',SR X B δ' M' q H'/\Frm M1 H1 M' H'/\eV g tb DD _ _ (F.items.drop i) δ' M',#[_,rfl,by lia,Y,M1,s.go E i1,Frm.refl,h1],?_]
 rintro i m σ2 H2 ⟨rfl,Z,δ2,M2,s2,i2,v⟩
 obtain⟨I,Q⟩:=hJ i H2 M2 (i2.imm E) s2.rh (Kc v)
 by_cases y:i<F.items.length
 .rw[Xn y]at v
  obtain⟨go,hy⟩:=I _ (UC _);refine .inr #[go,_,λq H' z=>#[_,by omega,rfl,y,z],λx H3 hx=>?_]
  obtain⟨i3,O,W⟩:=hy x H3 hx;refine#[_,_,M2,_,s2.go O i3,W,v.2,λδ4 M4 h4 σ4 H4 i4 s4=>?_];have i14:=(i2.trans i3).trans i4;exact#[_,M4,_,s4,h4,#[λP M5 R L H5 i5 N=>#[_,M5,N,i14.trans i5,R],(G.go<|i1.trans i14).rt,(G.go<|i1.trans i14).nx,λP M5 R L H5 i5 N=>#[_,M5,N,i14.trans i5,R]]]
 rw[XG (by omega)]at v
 exact .inl #[by lia,G.nx _ _ v.2 _ H2 (i1.trans i2) s2]
end
end _3
namespace _2
open PySem PySem.Spec PyProof.Rows
def Tf(K:UE)(tl:TE):TI:=λU H R=>tl U H λx H1=>∃a b xs,x=.ref a/\o_ K b H1 a xs/\R (if b=true then Itl K a else Itt K a) H1
theorem Ll(A:PE X l j):PI X tg l (Tf X.K j):=by
 intro f s U H R I h;refine bE (A _ s U H _ I h) λv g u=>?_;obtain⟨x,H1,I1,w,z⟩:=u;obtain⟨a,b,C,e,i,q⟩:=z;subst e;cases w;cases b with
 |true=>
  obtain⟨c,y,p,r⟩:=I1.list i;refine w6 p.isList ?_;refine#[_,_,_,_,H1,rfl,I1.kept λb o=>UB _,DH a _,#[_,UI _ rfl,rfl,rfl],λb m=>?_,q];have e:b=g.heap.objs.size:=by simp_all
  subst e;exact I1.fpOk (by lia) (I1.hok.fresh<|by lia)
 |false=>
  obtain⟨c,y,p,r⟩:=I1.tuple i;refine wpAny_pyIter_tuple p ?_;refine#[_,_,_,_,H1,rfl,I1.kept λb o=>UB _,yw a _,#[_,UI _ rfl,rfl,rfl],λb m=>?_,q];have e:b=g.heap.objs.size:=by simp_all
  subst e;exact I1.fpOk (by lia) (I1.hok.fresh<|by lia)
def P0(K:UE)(t:TA):TI:=λU H R=>t U H λa H1=>∃b l xs,a=[.ref l]/\o_ K b H1 l xs/\R (Ite K b l) H1
theorem HX(F:Gl X "enumerate")(G:X.mg "enumerate"=ay)(L:PA X [a] u)(J:eH [a] X.env=[(eC,g3 a X.env)]:=by rfl):
  PI X (.Tuple g N M) (.Call (.Name "enumerate" p) [a] [] pos) (P0 X.K u):=by
 intro m s U H R I h;refine Call_ (dZ I F G (by rfl:fy _=ap (.type "enumerate"))<|Vi (bE (L _ _ s U H _ I h) λus o x=>?_) J rfl)
 obtain⟨O,H1,I1,y,j⟩:=x;obtain⟨b,l,W,e,j,q⟩:=j;subst e;obtain⟨Q,rfl,i⟩:=y.one;cases i;obtain⟨v,S,sq,z⟩:=I1.src j;refine EB sq λP r E C A=>?_;have I2:Inv X _ U H1 _:=I1.kept (t':=o.toks) A;refine wpAny_pyIter_enum r ?_;refine#[_,_,_,_,H1,rfl,I2,EM b l _ _ (by lia),#[#[_,r],E],λc w=>?_,q]
 have f:o.heap.objs.size<=c:=by
  rcases (by simpa using w) with e|e<;>rw[e]<;>first|exact V4 _ _|exact UQ _
 exact I1.fpOk f (I1.hok.fresh f)
end _2
namespace _3
open PySem _2
variable{H H':Hp}{M M':Mem}{i:Nat}{x:Str}{K:UE}
def cH(d:D)(xs:List D):List (eg×List D):=match d with
 |.ref a=>[(a,xs)]
 |_=>[]
theorem yk(o:RepH K H M)(r:Rp K H d v)(e:aO M d=ap xs):∃p b,v=.ref p/\∀H' M',Imm H H'->RepH K H' M'->(∀q∈cH d xs,M' q.1=ap (.lst q.2))->∃vs,o_ K b H' p vs/\Rps K H' xs vs:=by
 cases d with
 |tup ys=>
  cases e;obtain⟨p,vs,rfl,h,r⟩:=r;exact#[p,eC,rfl,λH' M' i _ _=>#[vs,(h.mono i).sq,r.mono i]]
 |lst ys=>
  cases e;obtain⟨p,vs,rfl,h,r⟩:=r;exact#[p,true,rfl,λH' M' i _ _=>#[vs,(h.mono i).sq,r.mono i]]
 |mt ys=>
  cases e;obtain⟨p,vs,rfl,h,r⟩:=r;exact#[p,eC,rfl,λH' M' i _ _=>#[vs,h.sq,r.mono i]]
 |ml ys=>
  cases e;obtain⟨p,vs,rfl,h,r⟩:=r;exact#[p,true,rfl,λH' M' i _ _=>#[vs,(h.mono i).sq,r.mono i]]
 |ref a=>
  refine#[a,true,r,λH' M' i c l=>?_];obtain⟨vs,m,j⟩:=c _ _ (l (a,xs)<|by simp[cH])
  exact#[vs,SqL.of m,j]
 |_=>cases e
theorem yx(e:aO M d=ap xs):∀q∈cH d xs,M q.1=ap (.lst q.2):=by
 cases d with
 |ref a=>
  intro q b;have:q=(a,xs):=by simpa [cH] using b
  simp[aO]at e
  split at e
  .simp_all
  cases e
 |_=>intro q b;simp[cH]at b
def cg(te:bh):yM:=λY M R=>te Y M λd M1=>so (aO M1 d) λb=>R #[b,cH d b] M1
theorem Oz(hl:DE X B l G):DI X B tg l (cg G):=by
 refine jV (Ll hl) ?_
 rintro U H R ⟨Y,M,RR,s,h,I⟩
 refine#[Y,M,_,s,h,λd M1 u v H1 m i1 L=>?_];obtain⟨xs,e,u⟩:=u.inv;obtain⟨p,b,rfl,c⟩:=yk m L e;obtain⟨Z,O,_⟩:=c H1 M1 Imm.refl m (yx e);refine#[p,b,Z,rfl,O,I _ M1 u _ H1 m i1 λi H2 M2 i2 o q=>?_];obtain⟨S,j,F⟩:=c H2 M2 i2 o q;cases b with
 |_=>
  refine#[λd J=>?_,λy=>#[_,j,by rw[<- F.length];exact y]]
  obtain⟨w,A,z⟩:=F.get J;refine#[#[_,w,j,A],?_]
  rintro x H3 ⟨rfl,W⟩
  have:=W _ j;rw[A]at this;cases this;exact#[Frm.refl,o,z]
noncomputable def dD(lo:Int)(n:Nat):List D:=(Vu n).map λ(i:Nat)=>D.int (lo+i)
def fW(t:dG):yM:=λY M R=>t Y M λc M1=>one c λb=>onI b λj=>-(2 ^ 62)<=j/\j<2 ^ 62/\R #[dD 0 j.toNat,[]] M1
theorem O1:SF K H #[dD j n,[]] (Itr j n):=λi H2 M2 i2 l _=>by
 have c:(dD j n).length=n:=by simp[dD]
 refine#[λd o=>?_,λb=>by rw[c]at b;exact b]
 have m:i<n:=by
  rcases VX i n with h|h
  .exact h
  simp_all
 have q:d=.int (j+i):=by
  simp[dD,Wb m]at o
  simp_all
 subst q;refine#[m,?_]
 rintro x H3 ⟨rfl,rfl⟩
 exact#[Frm.refl,l,rfl]
theorem Ec(o:Gl X "range")(u:X.mg "range"=ay)(y:DA X B [a] ta)(q:eH [a] X.env=[(eC,g3 a X.env)]:=by rfl):DI X B tg (.Call (.Name "range" p) [a] [] pos) (fW ta):=by
 refine jV (Dp o u y q) ?_
 rintro U H R ⟨Y,M,RR,s,h,j⟩
 refine#[Y,M,_,s,h,λds M1 b A H1 c i1 l=>?_]
 replace b:=b.inv;obtain⟨z,rfl,b⟩:=b
 replace b:=b.inv;obtain⟨_,rfl,b⟩:=b
 obtain⟨v,rfl,m⟩:=gy (ds:=[]) l;cases m;exact#[_,rfl,b.1,b.2.1,j _ M1 b.2.2 _ H1 c i1 O1]
noncomputable def wl(xs:List D):List D:=(xs.zipIdx).map λp=>D.tup [.int (p.2:Nat),p.1]
theorem Ed:(wl xs)[i]?=(xs[i]?).map λd=>D.tup [.int (i:Nat),d]:=by
 simp[wl];rfl
def jy(t:dG):yM:=λY M R=>t Y M λc M1=>one c λd=>so (aO M1 d) λb=>R #[wl b,cH d b] M1
theorem Kt(hg:Gl X "enumerate")(hm:X.mg "enumerate"=ay)(ha:DA X B [a] ta)(hs:eH [a] X.env=[(eC,g3 a X.env)]:=by rfl):
  DI X B (.Tuple elts x1 tp) (.Call (.Name "enumerate" p) [a] [] pos) (jy ta):=by
 refine jV (HX hg hm ha hs) ?_
 rintro U H R ⟨Y,M,RR,s,h,L⟩
 refine#[Y,M,_,s,h,λds M1 l J H1 m i1 O=>?_]
 replace l:=l.inv;obtain⟨_,rfl,l⟩:=l
 obtain⟨v,rfl,rv⟩:=gy (ds:=[]) O;obtain⟨xs,e,l⟩:=l.inv;obtain⟨p,b,rfl,c⟩:=yk m rv e;obtain⟨J,S,_⟩:=c H1 M1 Imm.refl m (yx e);refine#[b,p,J,rfl,S,L _ M1 l _ H1 m i1 λi H2 M2 i2 o q=>?_];obtain⟨W,j,I⟩:=c H2 M2 i2 o q;refine#[λd G=>?_,λz=>#[_,j,by rw[<- I.length];simpa [wl] using z]]
 rw[Ed]at G;obtain⟨d0,y,rfl⟩:=VO.mp G;obtain⟨w,F,A⟩:=I.get y;refine#[#[_,w,j,F],?_]
 rintro x H3 ⟨T,x',u,rfl,rfl,Z⟩
 have:=Z _ j;rw[F]at this;cases this;exact#[Frm.new u,o.new u,T,_,rfl,upd_same,.cons rfl<|.cons (A.mono<|Imm.new u) .nil]
noncomputable def yv(xs ys:List D):List D:=(xs.zip ys).map λp=>D.tup [p.1,p.2]
theorem FK(h:(yv xs ys)[i]?=ap d):∃x y,xs[i]?=ap x/\ys[i]?=ap y/\d=.tup [x,y]:=by
 simp only[yv,UH,VO]at h;obtain⟨⟨x,y⟩,b,rfl⟩:=h;rw[Xl]at b;exact#[x,y,b.1,b.2,rfl]
def xL:List D->List (List D)->List (eg×List D)
 |d::ds,xs::xss=>cH d xs++xL ds xss
 |_,_=>[]
abbrev U9(M:Mem)(ds:List D)(xss:List (List D)):Prop:=X_ (λd xs=>aO M d=ap xs) ds xss
structure Zps(xss:List (List D))(zs:List D):Prop where
 get:∀(i:Nat)(d:D),zs[i]?=ap d->∃ys,d=.tup ys/\xss.map (·[i]?)=ys.map ap
 stop:∀i:Nat,zs.length<=i->∃xs∈xss,xs.length<=i
theorem Jn(u:RepH K H M)(h:U9 M ds c):∀{vs:List V},Rps K H ds vs->(∀q∈xL ds c,M q.1=ap (.lst q.2))/\
  ∃L:List (Bool×eg),vs=L.map (λp=>.ref p.2)/\L.length=c.length/\∀H' M',Imm H H'->RepH K H' M'->(∀q∈xL ds c,M' q.1=ap (.lst q.2))->
   X_ (λ(p:Bool×eg) xs=>∃us,o_ K p.1 H' p.2 us/\Rps K H' xs us) L c:=by
 induction h with
 |nil=>exact λr=>#[λq h=>by simp[xL]at h,[],r,rfl,λ_ _ _ _ _=>.nil]
 |cons h t ih=>
  rintro vs ⟨v,o,rfl,r,s⟩
  obtain⟨a,L,rfl,l,k⟩:=ih s;obtain⟨p,b,rfl,g⟩:=yk u r h;exact#[λq j=>(Vg.1 j).elim (yx h q) (a q),(b,p)::L,rfl,by simp[l],λH' M' i m ok=>.cons (g H' M' i m λq j=>ok q (W3 _ j)) (k H' M' i m λq j=>ok q (Vm _ j))]
theorem KO(im:Imm H H')(h:X_ (λ(p:Bool×eg) xs=>∃us,o_ K p.1 H p.2 us/\Rps K H xs us) L xss):∀{ys:List D}{zs:List V},xss.map (·[i]?)=ys.map ap->zs.length=L.length->
  (∀(j:Nat)(p:Bool×eg),L[j]?=ap p->∀us,o_ K p.1 H p.2 us->us[i]?=zs[j]?)->Rps K H' ys zs:=by
 induction h with
 |nil=>
  intro ys zs e l _;obtain rfl:=List.eq_nil_of_length_eq_zero l;cases ys<;>trivial
 |cons h t ih=>
  intro ys zs e l g;cases ys with
  |nil=>simp at e
  |cons y ys=>
   cases zs with
   |nil=>simp at l
   |cons z zs=>
    simp at e;obtain⟨us,sq,r⟩:=h;obtain⟨w,hw,rw'⟩:=r.get e.1;have:=g 0 _ rfl us sq;rw[hw]at this;cases this;exact .cons (rw'.mono im) (ih e.2 (by simpa using l) λj p ej=>g (j+1) p (by trivial))
theorem vW:∀{L:List (Bool×eg)}{xss:List (List D)},X_ P L xss->(∀p∈L,∃xs∈xss,P p xs)/\∀xs∈xss,∃p∈L,P p xs:=by
 intro L xss h
 induction h with
 |nil=>exact#[λp h=>by simp at h,λp h=>by simp at h]
 |cons h _ ih=>
  obtain⟨a,b⟩:=ih;refine#[λp c=>?_,λp c=>?_]
  .rcases UK.1 c with rfl|m
   .exact#[_,.head _,h]
   .obtain⟨x,y,z⟩:=a p m;exact#[x,.tail _ y,z]
  .rcases UK.1 c with rfl|m
   .exact#[_,.head _,h]
   .obtain⟨x,y,z⟩:=b p m;exact#[x,.tail _ y,z]
theorem AJ{f:List D->Mem->(DIt->Mem->Prop)->Prop}(hf:∀ds M1 R,f ds M1 R->∃b zs,(b.length=2\/b.length=3)/\U9 M1 ds b/\Zps b zs/\R #[zs,xL ds b] M1)(hg:Gl X "zip")(hm:X.mg "zip"=ay)(ha:DA X B (a::as) ta)(hs:eH (a::as) X.env=(eC,g3 a X.env)::eH as X.env)(J:(PySem.backTo pos<|starEach as X.env).any (·.1)=eC):
  DI X B (.Tuple elts x1 tp) (.Call (.Name "zip" p) (a::as) [] pos) (λY M R=>ta Y M λds M1=>f ds M1 R):=by
 refine jV (LK hg hm ha hs J) ?_
 rintro U H R ⟨Y,M,RR,s,h,W⟩
 refine#[Y,M,_,s,h,λds M1 G S H1 j i1 r1=>?_];obtain⟨b,zs,n,sq,z,G⟩:=hf _ _ _ G;obtain⟨ok,L,rfl,l,k⟩:=Jn j sq r1;refine#[L,by lia,rfl,λp c=>?_,W _ M1 G _ H1 j i1 λi H2 M2 i2 m A=>?_]
 .obtain⟨u,_,us,h,_⟩:=(vW<|k H1 M1 Imm.refl j ok).1 p c
  exact#[us,h]
 have q:=k H2 M2 i2 m A;obtain⟨O,qb⟩:=vW q;refine#[λd hd=>?_,λI=>#[λp c=>?_,?_]]
 .obtain⟨ys,rfl,e⟩:=z.get i d hd
  refine#[λp c=>?_,?_]
  .obtain⟨u,o,us,h,r⟩:=O p c
   obtain⟨y,_,e⟩:=UR.1 (e▸Va o);obtain⟨v,hv,_⟩:=r.get e.symm;exact#[us,v,h,hv]
  rintro x H3 ⟨T,S,F,rfl,rfl,Z,o⟩
  exact#[Frm.new F,m.new F,T,S,rfl,upd_same,KO (Imm.new F) q e Z o]
 .obtain⟨u,_,us,h,_⟩:=O p c
  exact#[us,h]
 obtain⟨u,o,le⟩:=z.stop i I;obtain⟨p,c,us,h,r⟩:=qb u o;exact#[p,c,us,h,by rw[<- r.length];exact le]
def SJ(t:dG):yM:=λY M R=>t Y M λh M1=>two h λd e=>so (aO M1 d) λc=>so (aO M1 e) λb=>R #[yv c b,cH d c++cH e b] M1
theorem Rz(v:Gl X "zip")(F:X.mg "zip"=ay)(G:DA X B [a,b] ta)(A:eH [a,b] X.env=[(eC,g3 a X.env),(eC,g3 b X.env)]:=by rfl)(hs2:eH [b] X.env=[(eC,g3 b X.env)]:=by rfl):
  DI X B (.Tuple elts x1 tp) (.Call (.Name "zip" p) [a,b] [] pos) (SJ ta):=by
 refine AJ (λI M1 R h=>?_) v F G (by rw[A,hs2]) (by rw[hs2];rfl)
 replace h:=h.inv;obtain⟨d,e,rfl,h⟩:=h
 obtain⟨j,m,h⟩:=h.inv;obtain⟨c,q,h⟩:=h.inv;refine#[_,_,.inl rfl,.cons m (.cons q .nil),#[λi z u=>?_,λi o=>?_],by simpa [xL] using h]
 .obtain⟨x,y,l,s,rfl⟩:=FK u
  exact#[_,rfl,by simp[l,s]]
 have:(yv j c).length=min j.length c.length:=by simp[yv]
 simp;lia
noncomputable def L8:Bd:=#[λ_ _=>True,λ_ _=>trivial]
inductive liftE0(K:UE)(T:bh)(U:_2.St)(H:Hp)(Q:VK):Prop
 |mk (Y:Dl) (M:Mem) (QQ:DK) (rh:RepH K H M) (rs:RepS K H Y U) (h:T Y M QQ) (u:Up K M H QQ Q):liftE0 K T U H Q
inductive liftT0(K:UE)(T:fZ)(U:_2.St)(H:Hp)(Q:Bool->Hp->Prop):Prop
 |mk (Y:Dl) (M:Mem) (QQ:Bool->Mem->Prop) (rh:RepH K H M) (rs:RepS K H Y U) (h:T Y M QQ) (u:UpT K M H QQ Q):liftT0 K T U H Q
inductive liftG0(K:UE)(g:lD)(v:V)(U:_2.St)(H:Hp)(Q:_2.St->Hp->Prop):Prop
 |mk (d:D) (Y:Dl) (M:Mem) (QQ:Dl->Mem->Prop) (rh:RepH K H M) (rs:RepS K H Y U) (r:Rp K H d v) (h:g d Y M QQ) (u:∀δ' M',QQ δ' M'->∀σ' H',Frm M H M' H'->RepH K H' M'->RepS K H' δ' σ'->Q σ' H'):liftG0 K g v U H Q
theorem Io(h:DE X L8 e T):PE X e (liftE0 X.K T):=aT h (by rintro U H Q ⟨Y,M,QQ,b,c,h,u⟩;exact#[Y,M,QQ,#[trivial,b,c],h,u])
theorem GS(h:DG X L8 e g):PG X e (liftG0 X.K g):=nq h (by rintro v U H Q ⟨d,Y,M,QQ,rh,rs,r,h,u⟩;exact#[d,Y,M,QQ,#[trivial,rh,rs],r,h,λc M' q b H' f s=>u _ M' q _ H' f s.rh s.rs])
theorem RepH.add(r:RepH K H M)(n:RepO K H a o):RepH K H (M.upd a o):=λb p e=>by
 by_cases c:b=a
 .simp_all
 rw[ae c]at e;exact r b p e
noncomputable def cN(ls:ab')(js:List Nat)(Y:Dl):Dl:=ls.map (λ_=>ay)++js.map λj=>(Y[j]?).join
theorem RepS.start(r:RepS K H Y U)(ls:ab')(b:List Nat):RepS K H (cN ls b Y) (dy ls b U):=by
 refine#[by simp[cN,dy],λi d e=>?_]
 unfold cN at e;unfold dy
 by_cases h:i<ls.length
 .grind
 rw[VP (by simp_all),UH]at e
 rw[VP (by simp_all)]
 cases m:b[i-ls.length]? with
 |none=>simp_all
 |some j=>
  have c:Y[j]?=ap (ap d):=by
   cases z:Y[j]?<;>simp_all
  obtain⟨v,o,l⟩:=r.get j d c
  simp_all
structure BxC(g:lD)(tt:fZ)(te:bh)(ok:Mem->Prop)(Q:List D->Mem->Prop):Type
def di(g:lD)(tt:fZ)(te:bh)(ok:Mem->Prop)(Q:List D->Mem->Prop)(b:BxC g tt te ok Q):List D->List D->Dl->Mem->Prop
 |[],ab5,_,M=>ok M/\Q ab5 M
 |x::xs,ab5,Y,M=>ok M/\g x Y M λh M2=>tt h M2 λc M3=>if c=true then te h M3 λy M4=>ab5.length<sizeLine/\di g tt te ok Q b xs (ab5++[y]) h M4 else di g tt te ok Q b xs ab5 h M3
def aZ(wi:yM)(ls:ab')(js:List Nat)(g:lD)(tt:fZ)(te:bh):bh:=λY M Q=>wi Y M λc M1=>di g tt te c.ok (λb M'=>∀p,M' p=ay->Q (.ref p) (M'.upd p<|.lst b)) #[] c.items [] (cN ls js Y) M1
theorem Fy(h:di g tt te ok Q b xs ab5 Y M):ok M:=by
 cases xs with
 |_=>exact h.1
theorem rR(h:liftE X B (aZ wi ls js g tt te) U H Q):Hb (liftI X B wi) ls js (liftG0 X.K g) (liftT0 X.K tt) (liftE0 X.K te) U H Q:=by
 obtain⟨Y,M,QQ,s,h,u⟩:=h;refine#[Y,M,_,s,h,λit M1 h1 J H1 rh1 f1 hJ p hp=>?_];have hMp:=rh1.fresh hp
 refine#[λi m σ' H'=>m=it.items.length-i/\i<=it.items.length/\∃δ' M' ab5 ys,RepH _ H' M'/\RepS _ H' δ' σ'/\H' p=ap (.lst ys)/\Rps X.K H' ab5 ys/\M' p=ay/\Frm M1 H1 M' H'/\
   di g tt te _ _ _ (it.items.drop i) ab5 δ' M',
  #[_,rfl,by lia,_,M1,[],[],rh1.new hp,((s.rs.mono<|f1.imm s.rh).mono<|Imm.new hp).start ls js,upd_same,.nil,hMp,Frm.new hp,h1],?_]
 rintro i m σ2 H2 ⟨rfl,hi,δ2,M2,ab5,ys,rh2,rs2,hp2,ra2,hm2,f2,h2⟩
 have hok:=Fy h2;obtain⟨hgo,hstop⟩:=hJ i H2 M2 (f2.imm rh1) rh2 hok
 by_cases hlt:i<it.items.length
 .rw[Xn hlt]at h2
  obtain⟨go,hy⟩:=hgo _ (UC hlt);refine .inr #[go,_,λσ' H' z=>#[_,by omega,rfl,hlt,z],λx H3 hx=>?_]
  obtain⟨f3,rh3,rx⟩:=hy x H3 hx;refine#[_,_,M2,_,rh3,rs2.mono (f3.imm rh2),rx,h2.2,λδ4 M4 h4 σ4 H4 f4 rh4 rs4=>?_];refine#[_,M4,_,rh4,rs4,h4,λc M5 h5 H5 rh5 f5=>?_];have f35:=(f3.trans f4).trans f5;obtain⟨hp5,hm5⟩:=f35.keep p _ hp2 hm2;cases c with
  |false=>
   exact#[_,M5,_,ys,rh5,rs4.mono (f5.imm rh4),hp5,ra2.mf rh2 f35,hm5,f2.trans f35,h5]
  |true=>
   refine#[_,M5,_,rh5,rs4.mono (f5.imm rh4),h5,λy M6 h6 v6 H6 rh6 f6 r6=>?_];obtain⟨hp6,hm6⟩:=f6.keep p _ hp5 hm5;have f26:=f35.trans f6;have ra6:=ra2.mf rh2 f26;refine#[ys,hp6,by rw[<- ra6.length];exact h6.1,?_]
   have im:Imm H6 (upd H6 p<|.lst (ys++[v6])):=Imm.upd (by rw[hp6];trivial)
   refine#[_,M6,_,_,rh6.keep im λb o hb=>aM (by lia),((rs4.mono<|f5.imm rh4).mono<|f6.imm rh5).mono im,upd_same,(ra6.append<|.cons r6 .nil).mono im,hm6,?_,h6.2]
   refine#[λb w e n=>?_];obtain⟨e2,n2⟩:=(f2.trans f26).keep b w e n;exact#[by rw[aM (by lia)];exact e2,n2]
 rw[XG (by omega)]at h2
 refine .inl #[hstop (by omega),u _ _ (h2.2 p hm2) _ H2 (rh2.add #[ys,hp2,ra2]) ?_ rfl]
 refine#[λb w e n=>?_];obtain⟨e1,n1⟩:=f1.keep b w e n;obtain⟨e2,n2⟩:=f2.keep b w e1 n1;exact#[e2,by rw[ae (bo e1 hp)];exact n2]
def RS(X:Cx)(B:Bd)(ifs:acd)(T:fZ):Prop:=Qb X ifs (liftT X B T)
def dL:fZ:=λ_ M Q=>Q true M
theorem Ki:RS X B [] dL:=(by rintro b s U H Q I ⟨Y,M,QQ,c,h,u⟩;exact KB _ s U H Q I (u _ M h H c.rh Frm.refl))
theorem KM(h:DT X B c t):RS X B [c] t:=Js h
theorem Dm(h:RS X L8 es T):Qb X es (liftT0 X.K T):=λb s U H Q I l=>by obtain⟨Y,M,QQ,j,m,c,u⟩:=l;exact h _ s U H Q I #[Y,M,QQ,#[trivial,j,m],c,u]
def eZ(i:Nat)(t:bh):av:=λD Y M=>t Y M λd M1=>D.nx (Y.set i<|some d) M1
def g5(i:Nat)(Y:Dl)(M:Mem)(Q:Dl->Mem->Prop):Prop:=s2e Y[i]? (λd=>onRe d (λa=>mLe (M a) (λb=>Q (Y.set i<|some<|.lst b) (M.del a)) (Q Y M)) (Q Y M)) (Q Y M)
def cO(t:av)(i:Nat):av:=λD Y M=>t { D with nx:=λb M'=>g5 i b M' D.nx } Y M
theorem xt{α:Type}:∀{l:List α}{i:Nat}{x:α},l[i]?=ap x->l.set i x=l
 |[],_,_,h=>by simp at h
 |_::_,0,_,h=>by simp_all
 |_::_,i+1,_,h=>by rw[List.set_cons_succ,xt (by simpa using h)]
theorem Ol(i:Nat)(h:DS X B st t):DS X B st (cO t i):=by
 intro ab2 s U H D I ⟨Y,M,DD,sr,hT,up⟩;refine bE (h _ s U H { D with nx:=λσ' H'=>∃δ' M',g5 i _ M' _/\Frm M H M' H'/\SR X B _ M' _ H' } I #[Y,M,_,sr,hT,#[λδ' M' q σ' H' f s'=>#[δ',M',q,f,s'],up.rt,up.bk,up.ct]]) λf s' q=>?_;cases f with
 |next=>
  obtain⟨σ',H',I',δ',M',q,f,s'⟩:=q;unfold g5 at q
  replace q:=q.inv;rcases q with⟨w,ea,q⟩|q
  .replace q:=q.inv;rcases q with⟨a,rfl,q⟩|q
   .replace q:=q.inv;rcases q with⟨xs,e,q⟩|q
    rotate_left
    .exact#[_,H',I',up.nx _ _ q _ H' f s']
    obtain⟨vs,h1,h2⟩:=s'.rh _ _ e;obtain⟨o,I2⟩:=Inv.freeze I' h1;have im:Imm H' (upd H' a<|.frz o<|.lst vs):=Imm.upd (by rw[h1];trivial)
    obtain⟨v,hv,rv⟩:=s'.rs.get i _ ea;cases rv;refine#[_,_,I2,up.nx _ _ q _ _ (f.trans<|Frm.del #[_,e]) #[B.go s'.i0 (Frm.del #[_,e]),s'.rh.freeze h1,?_]];have:=(s'.rs.mono im).set (i:=i) (d:=.lst xs) #[a,vs,rfl,#[o,upd_same],h2.mono im]
    rwa [xt hv]at this
   exact#[_,H',I',up.nx _ _ q _ H' f s']
  exact#[_,H',I',up.nx _ _ q _ H' f s']
 |_=>exact q
abbrev DX:=eg->Mem->Prop
abbrev Sd:=List D->Mem->DK->DX->Prop
def kI(P:fx)(w:hB):m4:=λb H s E e c=>∃C,Do P w C b H s E e c
def UpX(K:UE)(M:Mem)(H:Hp)(EE:DX)(E:XK):Prop:=∀C M',EE C M'->∀H',RepH K H' M'->Frm M H M' H'->E (.ref C) ay H'
def tm(K:UE)(B:Bd)(EE:DX)(E:XK):Prop:=∀C M',EE C M'->∀H',RepH K H' M'->B.p M' H'->E (.ref C) ay H'
theorem UpX.go{M1:Mem}(u:UpX K M H EE E)(i:Frm M H M1 H1):UpX K M1 H1 EE E:=λC M' q H' a b=>u C M' q H' a (i.trans b)
def bC(K:UE)(n:Nat)(T:Sd):Sp:=λb H Q E=>b.length=n/\∃ds M QQ EE,RepH K H M/\Rps K H ds b/\T ds M QQ EE/\Up K M H QQ Q/\UpX K M H EE E
def startN(N:ab')(ds:List D):Dl:=ds.map ap++UX (N.length-ds.length) ay
theorem RepS.startN(N:ab')(r:Rps K H ds vs):RepS K H (_3.startN N ds) (_2.start N vs):=by
 have c:=r.length;refine#[by simp[_3.startN,_2.start,c],λi d e=>?_]
 unfold _3.startN at e;unfold _2.start
 by_cases b:i<ds.length
 .rw[Wz (by simp_all),UH,UC b]at e
  have h:ds[i]=d:=by simpa using e
  obtain⟨v,l,j⟩:=r.get (by rw[UC b,h])
  refine#[v,?_,j];rw[Wz (by simp;lia),UH,l]
  rfl
 rw[VP (by simp_all),Y6]at e
 simp_all
def drp(Q:DK)(d:D)(M':Mem):Prop:=∃M'',(∀b o,M'' b=ap o->M' b=ap o)/\Q d M''
def aF(EE:DX)(C:eg)(M':Mem):Prop:=∃M'',(∀b o,M'' b=ap o->M' b=ap o)/\EE C M''
theorem ak(h:Q d M'):drp Q d M':=#[M',by lia,h]
theorem bU(h:EE C M'):aF EE C M':=#[M',by lia,h]
theorem Frm.less(f:Frm M H M' H')(s:∀b o,M'' b=ap o->M' b=ap o):Frm M H M'' H':=#[λb u e n=>by
 obtain⟨c,h⟩:=f.keep b u e n;refine#[c,?_];cases q:M'' b<;>simp_all]
theorem Up.drp(u:Up K M H Q QV):Up K M H (_3.drp Q) QV:=(by rintro d M' ⟨_,s,q⟩ v H' c f r;exact u d _ q v H' (λb o e=>c b o (s b o e)) (f.less s) r)
theorem UpX.drp(u:UpX K M H EE E):UpX K M H (aF EE) E:=(by rintro C M' ⟨_,s,q⟩ H' c f;exact u C _ q H' (λb o e=>c b o (s b o e)) (f.less s))
def aE(N:ab')(T:DX->av):Sd:=λb M Q EE=>T (aF EE) { nx:=λ_ M'=>drp Q .non M',rt:=drp Q } (startN N b) M
theorem e_:FnOk P w K mg base CX k f fd ps (bC K n λ_ _ _ _=>False):=
 #[λj H Q E h=>(by obtain⟨_,_,_,_,_,_,_,h,_⟩:=h;exact h.elim),λA b s H c us j Q E _ _ _ _ h=>(by obtain⟨_,_,_,_,_,_,_,h,_⟩:=h;exact h.elim)]
theorem G0:bW (kI P w) (fk (kI P w) P w K mg base N ab3 scope f m A b l H0 E) E:=by
 intro c U H s e j I ⟨C,h⟩;exact kr (S3 _ U H s e j (I.wish _) h) (λ_ _ z=>#[C,z]) λ_ _ z=>#[C,z]
theorem t7:bW (kI P w) X E0:=(by rintro ab2 U H s e s' I ⟨C,hx⟩;exact(by
 obtain⟨_,_,_,_,_,_,_,_,_,_,_,_,hE⟩:=hx;trivial))
def Sub(M1 M:Mem):Prop:=∀b o,M1 b=ap o->M b=ap o
def Dis(M1 M M':Mem):Prop:=∀b o,M b=ap o->M1 b=ay->M' b=ay
noncomputable def plus(M' M1 M:Mem):Mem:=λb=>match M' b with
 |some o=>ap o
 |none=>match M1 b with
  |some _=>ay
  |none=>M b
theorem rD:plus M' M M=M':=by
 funext b;simp[plus];lia
structure BxQ(EE:DX)(Q:DK):Type
structure calls(T:Sd)(EE:DX)(ds:List D)(M:Mem)(Q:DK)(_:BxQ EE Q):Prop where
 go:∃M1,Sub M1 M/\T ds M1 (λd M'=>Dis M1 M M'->Q d (plus M' M1 M)) (λC M'=>Dis M1 M M'->EE C (plus M' M1 M))
section
variable{M1:Mem}
theorem RepH.sub(r:RepH K H M)(s:Sub M1 M):RepH K H M1:=λb o e=>r b o (s b o e)
theorem RepH.dis(r:RepH K H M)(f:Frm M1 H M' H'):Dis M1 M M':=λb o e n=>by
 obtain⟨u,q⟩:=(r b o e).obj;exact(f.keep b u q n).2
theorem RepH.plus(r:RepH K H M)(s:Sub M1 M)(h:RepH K H' M')(f:Frm M1 H M' H'):RepH K H' (plus M' M1 M):=λb o e=>by
 simp[_3.plus]at e
 split at e
 .rename_i j q;cases e;exact h b _ q
 split at e
 .cases e
 rename_i q n
 obtain⟨u,c⟩:=(r b o e).obj;exact(r b o e).keep (f.imm<|r.sub s) ((f.keep b u c n).1.trans c.symm)
theorem Frm.plus(s:Sub M1 M)(f:Frm M1 H M' H'):Frm M H (plus M' M1 M) H':=#[λb u e n=>by
 have c:M1 b=none:=by
  cases q:M1 b with
  |none=>rfl
  |some o=>rw[s b o q]at n;cases n
 obtain⟨h,j⟩:=f.keep b u e c;exact#[h,by simp[_3.plus,j,c,n]]]
theorem cF(h:calls T EE ds M Q b)(rh:RepH K H M)(r:Rps K H ds vs)(j:vs.length=n)(u:Up K M H Q QV)(ux:UpX K M H EE E):bC K n T vs H QV E:=by
 obtain⟨M1,s,h⟩:=h.go;exact#[j,ds,M1,_,_,rh.sub s,r,h,λd M' q v H' c f=>u d _ (q<|rh.dis f) v H' (rh.plus s c f) (f.plus s),λC M' q H' c f=>ux C _ (q<|rh.dis f) H' (rh.plus s c f) (f.plus s)]
theorem am(c:∀Q' E',(∀d M,Q d M->Q' d M)->(∀C M,EE C M->E' C M)->T ds M Q' E'):calls T EE ds M Q b:=
 #[M,λ_ _ e=>e,c _ _ (λd M' q _=>by rw[rD];exact q) λC M' q _=>by rw[rD];exact q]
def aj(T:Sd)(EE:DX)(n:Nat)(t:dG):bh:=λY M Q=>t Y M λb M1=>b.length=n/\calls T EE b M1 Q #[]
theorem SR.ux(s:SR X B Y M U H)(ux:tm X.K B EE E):UpX X.K M H EE E:=λC M' q H' a b=>ux C M' q H' a (B.go s.i0 b)
theorem uc(F:FnOk X.prog X.w X.K X.mg X.base CX k f fd ps (bC X.K n T))(q:Room k X.A)(v:Gl X x)(z:X.mg x=ap (.ref f))(G:VJ X.K (.ref f)=true)(y:Binds X.K fd ps [])(J:bW CX X E)(ux:tm X.K B EE E)(I:DA X B (e::es) t)(c:(x==("__debug__":Str))=false:=by decide)(he:eH (e::es) X.env=(eC,g3 e X.env)::eH es X.env:=by rfl)(hpl:(j0 pos<|starEach es X.env).any (·.1)=false:=by rfl):
  DE X B (.Call (.Name x p) (e::es) [] pos) (aj T EE n t):=by
 refine aT (zU F q v z G y .nil J I c he hpl) ?_
 rintro U H Q ⟨Y,M,QQ,s,h,u⟩
 refine#[Y,M,_,s,h,λO M1 l L H1 b i1 j=>?_];rw[Vl];exact cF l.2 b j (by rw[<- j.length];exact l.1) (u.go i1) ((s.ux ux).go i1)
def dA(C:eg)(m:Str)(T:Sd)(EE:DX)(n:Nat)(ta:bh)(t:dG):bh:=λY M Q=>ta Y M λx M1=>onR x λa=>mN (M1 a) λC' fs=>C'=C/\fs.lookup m=ay/\t Y M1 λb M2=>b.length+1=n/\calls T EE (.ref a::b) M2 Q #[]
theorem Jg(he:DE X B o ta)(c:Cls X.K C)(hm:Meth X.K C m f)(F:FnOk X.prog X.w X.K X.mg X.base CX k f fd ps (bC X.K n T))(Z:Room k X.A)(hb:Binds X.K fd ps [])(hx:bW CX X E)(ux:tm X.K B EE E)(ha:DA X B (e::es) t)(y:eH (e::es) X.env=(eC,g3 e X.env)::eH es X.env:=by rfl)(hpl:(j0 pos<|starEach es X.env).any (·.1)=false:=by rfl)(ht:g3 (.Call (.Attribute o m ab7) (e::es) [] pos) X.env=(do
   let ov <- g3 o X.env
   R' ab7.atName
   let (f,first) <- py [ov] (G' ov m pl)
   abg pos f first (j0 pos<|starEach (e::es) X.env) (rc pos<|keywordEach [] X.env)):=by rfl):
  DE X B (.Call (.Attribute o m ab7) (e::es) [] pos) (dA C m T EE n ta t):=by
 refine aT (KE he c hm F Z hb .nil hx ha y hpl ht) ?_
 rintro U H Q ⟨Y,M,QQ,s,h,u⟩
 refine#[Y,M,_,s,h,λx M1 b v H1 j i1 O=>?_]
 replace b:=b.inv;obtain⟨a,rfl,b⟩:=b
 cases O;obtain⟨C',fs,L,b⟩:=b.inv;obtain⟨rfl,hl,b⟩:=b;obtain⟨S,G,W,R⟩:=j _ _ L;have q:G.lookup m=none:=by
  rcases R.lookup m with⟨_,z⟩|⟨d,v,z,_⟩
  .exact z
  simp_all
 refine#[a,S,G,rfl,W,q,Y,M1,_,s.go j i1,b,λds M2 I vs H2 l i2 J=>?_];rw[Vl];exact cF I.2 l (.cons rfl J) (by rw[UO,<- J.length];exact I.1) (u.go<|i1.trans i2) ((s.ux ux).go<|i1.trans i2)
theorem G5(R:DE X B o ta)(c:Cls X.K C)(W:Meth X.K C m f)(F:FnOk X.prog X.w X.K X.mg X.base CX k f fd ps (bC X.K n T))(O:Room k X.A)(S:Binds X.K fd ps [])(hx:bW CX X E)(ux:tm X.K B EE E)(Z:g3 (.Call (.Attribute o m ab7) [] [] pos) X.env=(do
   let ov <- g3 o X.env
   R' ab7.atName
   let (f,first) <- py [ov] (G' ov m pl)
   abg pos f first (j0 pos<|starEach [] X.env) (rc pos<|keywordEach [] X.env)):=by rfl):
  DE X B (.Call (.Attribute o m ab7) [] [] pos) (dA C m T EE n ta ag):=by
 refine aT (II R c W F O S .nil hx Z) ?_
 rintro U H Q ⟨Y,M,QQ,s,h,u⟩
 refine#[Y,M,_,s,h,λx M1 b v H1 j i1 y=>?_]
 replace b:=b.inv;obtain⟨a,rfl,b⟩:=b
 cases y;obtain⟨C',fs,G,b⟩:=b.inv;obtain⟨rfl,hl,b⟩:=b;obtain⟨I,q,J,L⟩:=j _ _ G;have l:q.lookup m=none:=by
  rcases L.lookup m with⟨_,z⟩|⟨d,v,z,_⟩
  .exact z
  simp_all
 exact#[a,I,q,rfl,J,l,cF b.2 j (.cons rfl .nil) b.1 (u.go i1)<|(s.ux ux).go i1]
def iW(C:eg)(T:Sd)(EE:DX)(n:Nat)(t:dG):bh:=λY M Q=>t Y M λb M1=>b.length+1=n/\∀a,M1 a=ay->calls T EE (.ref a::b) (M1.upd a<|.ins C []) (λd M2=>onN d (Q (.ref a) M2)) #[]
theorem KW(Mk':Mk X.K C f)(F:FnOk X.prog X.w X.K X.mg X.base CX k f fd ps (bC X.K n T))(hr:Room (k+1) X.A)(hg:Gl X x)(hm:X.mg x=ap (.ref C))(hb:Binds X.K fd ps [])(hx:bW CX X E)(ux:tm X.K B EE E)(ha:DA X B (e::es) t)(hdb:(x==("__debug__":Str))=false:=by decide)(he:eH (e::es) X.env=(eC,g3 e X.env)::eH es X.env:=by rfl)(hpl:(j0 pos<|starEach es X.env).any (·.1)=false:=by rfl):
  DE X B (.Call (.Name x p) (e::es) [] pos) (iW C T EE n t):=by
 refine aT (LL Mk' F hr hg hm hb .nil hx ha hdb he hpl) ?_
 rintro U H Q ⟨Y,M,QQ,s,h,u⟩
 refine#[Y,M,_,s,h,λds M1 h1 vs H1 rh1 i1 r1 a dx na ndx nex=>?_];rw[Vl];have nx1:upd H1 dx (.own a) a=none:=by rw[aM (Vb nex)];exact na
 have f2:Frm M1 H1 (M1.upd a<|.ins C []) (upd (upd H1 dx<|.own a) a<|.ins C dx []):=(Frm.new ndx).trans (Frm.put<|.inl nx1);refine cF (h1.2 a<|rh1.fresh na) ((rh1.new ndx).put (by rw[nx1];trivial) #[dx,[],upd_same,.nil]) (.cons rfl<|(r1.mono<|Imm.new ndx).mono<|Imm.new nx1) (by rw[UO,<- r1.length];exact h1.1) (λd M2 h2 v H2 rh f r=>?_) ((s.ux ux).go<|i1.trans f2)
 cases d with
 |non=>exact#[r,u _ M2 h2 _ H2 rh ((i1.trans f2).trans f) rfl]
 |_=>exact(show False from h2).elim
end
section
variable{id:String}
abbrev xF:=D->List D->Mem->DK->Prop
inductive liftM(X:Cx)(r:xF)(x:V)(xs:List V)(H:Hp)(Q:VK):Prop
 |mk (d:D) (ds:List D) (M:Mem) (QQ:DK) (rh:RepH X.K H M) (rx:Rp X.K H d x) (rs:Rps X.K H ds xs) (h:r d ds M QQ) (u:Up X.K M H QQ Q):liftM X r x xs H Q
def jd(Ty:String)(r:xF)(to:bh)(t:dG):bh:=λY M Q=>to Y M λx M1=>cy M1 x=ap Ty/\t Y M1 λb M2=>r x b M2 Q
theorem G3(l:RepH K H M)(r:Rp K H d v)(e:cy M d=ap Ty)(h:Ty="list"\/Ty="str"\/Ty="int"\/Ty="dict"):tyV K Ty v H:=by
 cases d with
 |non=>cases e;trivial
 |bl b=>cases e;trivial
 |int i=>cases r;cases e;rfl
 |str x=>cases r;cases e;rfl
 |tup xs=>cases e;trivial
 |lst xs=>
  cases e;obtain⟨p,s,rfl,u,r⟩:=r;exact .inl #[rfl,s,u.sq]
 |ref a=>
  cases r;simp[cy]at e
  split at e
  .rename_i q;cases e;obtain⟨c,j,m⟩:=l _ _ q;exact .inl #[rfl,c,SqL.of j]
  .rename_i q;cases e;obtain⟨c,j,m⟩:=l _ _ q;exact .inr (.inr<|.inl<|by simp_all)
  .rename_i q;cases e;obtain⟨c,j,m⟩:=l _ _ q;exact .inr (.inr<|.inl<|by simp_all)
  cases e
 |_=>cases e
theorem TX(G:Ty="list"\/Ty="str"\/Ty="int"\/Ty="dict")(J:XV Ty)(j:Slot Ty name id)(m:U_ (.builtin id)=pure (.type "method_descriptor"))(I:wO X id (liftM X r))(O:DE X B o to)(L:DA X B (e::es) t)(c:kB o name X.env (g3 o X.env)=g3 o X.env:=by rfl)(hfew:((j0 ab6<|starEach (e::es) X.env).all (λx=>!x.1)&&(rc ab6<|keywordEach [] X.env).all (λx=>x.1.isSome)
   && decide ((e::es).length+([]:List q0).length+(if ([]:List q0).isEmpty then 0 else 1)<30))=true:=by rfl)(hline:(ab7.endLine==ab6.line)=true:=by rfl)(hs:eH (e::es) X.env=(eC,g3 e X.env)::eH es X.env:=by rfl)(hplain:(j0 ab6<|starEach es X.env).any (·.1)=false:=by rfl):
  DE X B (.Call (.Attribute o name ab7) (e::es) [] ab6) (jd Ty r to t):=by
 refine aT (Ue J j m I O L c hfew hline hs hplain) ?_
 rintro U H Q ⟨Y,M,QQ,s,h,u⟩
 exact#[Y,M,_,s,h,λx M1 q v H1 b i1 y=>#[G3 b y q.1 G,Y,M1,_,s.go b i1,q.2,λA M2 F R H2 l i2 z=>#[x,A,M2,QQ,l,y.mf b i2,z,F,u.go<|i1.trans i2]]]
theorem PZ(y:Ty="list"\/Ty="str"\/Ty="int"\/Ty="dict")(A:XV Ty)(j:Slot Ty name id)(l:U_ (.builtin id)=pure (.type "method_descriptor"))(z:wO X id (liftM X r))(F:DE X B o to)(b:kB o name X.env (g3 o X.env)=g3 o X.env:=by rfl)(hline:(ab7.endLine==ab6.line)=true:=by rfl):DE X B (.Call (.Attribute o name ab7) [] [] ab6) (jd Ty r to ag):=by
 refine aT (O2 A j l z F b hline) ?_
 rintro U H Q ⟨Y,M,QQ,s,h,u⟩
 exact#[Y,M,_,s,h,λx M1 q v H1 c i1 m=>#[G3 c m q.1 y,#[x,[],M1,QQ,c,m,.nil,q.2,u.go i1]]]
def bv:xF:=λx c M Q=>onR x λa=>one c λy=>mL (M a) λb=>b.length<sizeLine/\Q .non (M.upd a<|.lst (b++[y]))
theorem z0:wO X "list.append" (liftM X bv):=by
 rintro ab2 s U H x vs v us Q I rx rv ⟨d,ds,M,QQ,rh,r,rs,h,up⟩
 unfold bv at h
 replace h:=h.inv;obtain⟨a,rfl,h⟩:=h
 replace h:=h.inv;obtain⟨y,rfl,h⟩:=h
 cases r;obtain⟨w,rfl,rw'⟩:=gy (ds:=[]) rs;obtain⟨xs,hM,h⟩:=h.inv;obtain⟨ws,h1,h2⟩:=rh _ _ hM;exact Ea _ s U H _ _ v us Q I rx rv #[a,ws,w,rfl,rfl,h1,by rw[<- h2.length];exact h.1,up _ _ h.2 _ _ (rh.put (by rw[h1];trivial) #[_,upd_same,(h2.append<|by trivial).mono<|Imm.upd<|by rw[h1];trivial]) (Frm.put<|.inr #[_,hM]) rfl]
def EH:xF:=λx b M Q=>onR x λa=>nilOr b (mL (M a) λxs=>so xs[xs.length-1]? λy=>Q y (M.upd a<|.lst xs.dropLast)) λd=>onI d λi=>mL (M a) λxs=>so (ve xs.length i) λk=>so xs[k]? λy=>Q y (M.upd a<|.lst<|xs.eraseIdx k)
theorem Ce:wO X "list.pop" (liftM X EH):=by
 rintro ab2 s U H x vs v us Q I rx rv ⟨d,ds,M,QQ,rh,r,rs,h,up⟩
 unfold EH at h
 replace h:=h.inv;obtain⟨a,rfl,h⟩:=h
 replace h:=h.inv;rcases h with⟨rfl,h⟩|⟨w,rfl,h⟩
 .cases r
  cases rs;obtain⟨xs,hM,h⟩:=h.inv;obtain⟨y,ey,h⟩:=h.inv;obtain⟨ws,h1,h2⟩:=rh _ _ hM;obtain⟨w,hw,rw'⟩:=h2.get ey;have im:Imm H (upd H a<|.lst ws.dropLast):=Imm.upd (by rw[h1];trivial)
  exact P8 _ s U H _ _ v us Q I rx rv #[a,ws,w,rfl,rfl,h1,by rw[<- h2.length];exact hw,up _ _ h _ _ (rh.put (by rw[h1];trivial) #[_,upd_same,h2.dropLast.mono im]) (Frm.put<|.inr #[_,hM])<|rw'.mono im]
 replace h:=h.inv;obtain⟨i,rfl,h⟩:=h
 cases r;obtain⟨w0,rfl,rw0⟩:=gy (ds:=[]) rs;cases rw0;obtain⟨xs,hM,h⟩:=h.inv;obtain⟨k,ek,h⟩:=h.inv;obtain⟨y,ey,h⟩:=h.inv;obtain⟨ws,h1,h2⟩:=rh _ _ hM;obtain⟨w,hw,rw'⟩:=h2.get ey;obtain⟨j1,j2,j3,j4⟩:=rZ ek;have hz:=(I.lstM h1).1;have hs:sizeLine=16777216:=rfl;have hl:=h2.length;have im:Imm H (upd H a<|.lst<|ws.eraseIdx k):=Imm.upd (by rw[h1];trivial)
 exact GK _ s U H _ _ v us Q I rx rv #[a,ws,i,k,w,rfl,rfl,h1,by lia,by lia,by rw[<- hl];exact j1,hw,up _ _ h _ _ (rh.put (by rw[h1];trivial) #[_,upd_same,(h2.eraseIdx k).mono im]) (Frm.put<|.inr #[_,hM])<|rw'.mono im]
def li:List D->Option (List Str)
 |[]=>ap []
 |.str x::ds=>match li ds with
  |some xs=>ap (x::xs)
  |none=>ay
 |_=>ay
theorem vV:∀{ds:List D}{vs:List V}{xs:ab'},Rps K H ds vs->li ds=ap xs->vs=xs.map V.str
 |[],vs,xs,r,e=>by cases e;exact r
 |d::ds,vs,xs,r,e=>by
  obtain⟨v,l,rfl,a,b⟩:=r;cases d with
  |str c=>
   simp[li]at e
   split at e
   .rename_i j h
    cases e;cases a;rw[vV b h];rfl
   cases e
  |_=>cases e
def jc:xF:=λx c M Q=>onT x λl=>one c λh=>onS h λz=>so (li l) λb=>b.length<=1000/\so (b.findIdx? λy=>decide (y=z)) λj=>Q (.int (j:Nat)) M
theorem yH:wO X "tuple.index" (liftM X jc):=by
 rintro l s U H x vs v us Q I A R ⟨d,ds,M,QQ,S,r,L,h,u⟩
 unfold jc at h
 replace h:=h.inv;obtain⟨xs,rfl,h⟩:=h
 replace h:=h.inv;obtain⟨Z,rfl,h⟩:=h
 replace h:=h.inv;obtain⟨z,rfl,h⟩:=h
 obtain⟨p,W,rfl,G,r⟩:=r;obtain⟨w,rfl,c⟩:=gy (ds:=[]) L;cases c;obtain⟨b,O,h⟩:=h.inv;obtain⟨y,h⟩:=h;obtain⟨j,q,h⟩:=h.inv;have:=vV r O;subst this;rw[Ye]at q;obtain⟨hj,e1,J⟩:=q;refine ET _ s U H _ _ v us Q I A R #[p,_,z,j,rfl,rfl,G,y,?_,λm F=>?_,u _ M h _ H S Frm.refl rfl]
 .simp_all
 rw[UC _];simpa using (J m F)
def NU(r:xF)(to:bh)(t:dG):bh:=λY M Q=>to Y M λx M1=>onT x λc=>t Y M1 λb M2=>r (.tup c) b M2 Q
theorem Tb(j:Slot "tuple" name id)(q:U_ (.builtin id)=pure (.type "method_descriptor"))(L:wO X id (liftM X r))(R:DE X B o to)(O:DA X B (e::es) t)(b:kB o name X.env (g3 o X.env)=g3 o X.env:=by rfl)(hfew:((j0 ab6<|starEach (e::es) X.env).all (λx=>!x.1)&&(rc ab6<|keywordEach [] X.env).all (λx=>x.1.isSome)
   && decide ((e::es).length+([]:List q0).length+(if ([]:List q0).isEmpty then 0 else 1)<30))=true:=by rfl)(hline:(ab7.endLine==ab6.line)=true:=by rfl)(hs:eH (e::es) X.env=(eC,g3 e X.env)::eH es X.env:=by rfl)(hplain:(j0 ab6<|starEach es X.env).any (·.1)=false:=by rfl):
  DE X B (.Call (.Attribute o name ab7) (e::es) [] ab6) (NU r to t):=by
 refine aT (TN j q L R O b hfew hline hs hplain) ?_
 rintro U H Q ⟨Y,M,QQ,s,h,u⟩
 refine#[Y,M,_,s,h,λx M1 y v H1 c i1 z=>?_];cases x with
 |tup xs=>
  have l:=z;obtain⟨p,A,rfl,J,S⟩:=l;exact#[#[p,A,rfl,J],Y,M1,_,s.go c i1,y,λG M2 I A H2 m i2 F=>#[_,G,M2,QQ,m,z.mf c i2,F,I,u.go<|i1.trans i2]]
 |_=>exact y.elim
def NN(ks:List aI)(ys:List D):List (aI×D):=(ks.zip ys).foldl (λa p=>fU a p.1 p.2) []
theorem xD:∀{ks:List aI}{ds:List D}{vs:List V}{a:List (aI×D)}{b:List (aI×V)},Rps K H ds vs->Rkv K H a b->
  Rkv K H ((ks.zip ds).foldl (λa p=>fU a p.1 p.2) a) ((ks.zip vs).foldl (λa p=>fT a p.1 p.2) b)
 |[],_,_,_,_,_,r=>r
 |_::_,[],_,_,_,h,r=>by cases h;exact r
 |k::ks,d::ds,_,_,_,h,r=>by
  obtain⟨v,vs,rfl,a,b⟩:=h;exact xD (ks:=ks) b (r.put k a)
def ib(t:dG):bh:=λY M Q=>t Y M λl M1=>two l λc h=>onT c λm=>onT h λj=>so (jh m) λb=>b.length=j.length/\0<b.length/\b.length<=1000/\∀p,M1 p=ay->Q (.ref p) (M1.upd p<|.dK<|NN b j)
theorem xS(hc:X.calm=true)(hg:Gl X "zip")(hm:X.mg "zip"=ay)(hg2:Gl X "dict")(hm2:X.mg "dict"=ay)(ha:DA X B [a,b] ta)(hs:eH [a,b] X.env=[(eC,g3 a X.env),(eC,g3 b X.env)]:=by rfl)(hs2:eH [b] X.env=[(eC,g3 b X.env)]:=by rfl)(hs3:eH [Y5 (.Name "zip" p2) [a,b] [] pos2] X.env=[(eC,g3 (.Call (.Name "zip" p2) [a,b] [] pos2) X.env)]:=by rfl):
  DE X B (.Call (.Name "dict" p) [.Call (.Name "zip" p2) [a,b] [] pos2] [] pos) (ib ta):=by
 refine aT (yX eC eC hc hg hm hg2 hm2 ha hs hs2 hs3) ?_
 rintro U H Q ⟨Y,M,QQ,s,h,u⟩
 refine#[Y,M,_,s,h,λds M1 h1 vs H1 rh1 i1 r1=>?_]
 replace h1:=h1.inv;obtain⟨w10,w11,rfl,h1⟩:=h1
 replace h1:=h1.inv;obtain⟨_,rfl,h1⟩:=h1
 replace h1:=h1.inv;obtain⟨_,rfl,h1⟩:=h1
 obtain⟨v,w,rfl,rv,rw'⟩:=Hm r1;obtain⟨l1,us,rfl,t1,ru⟩:=rv;obtain⟨l2,ws,rfl,t2,rw2⟩:=rw';obtain⟨ks,ek,h1⟩:=h1.inv;obtain⟨e1,e2,e3,h1⟩:=h1;have hk:=oU ru ek;subst hk;exact#[l1,l2,ks,ws,rfl,t1.sq,t2.sq,by rw[<- rw2.length];exact e1,e2,e3,λd hd=>u _ _ (h1 d<|rh1.fresh hd) _ _ (rh1.put (by rw[hd];trivial) #[_,upd_same,(xD rw2 .nil).mono<|Imm.new hd]) (i1.trans<|Frm.put<|.inl hd) rfl]
end
theorem Jq(h:PS X st t)(k:∀e s,X.xe e s->E' e s):PS (X.wish E') st t:=λc s U H D I q=>
 kr (h _ s U H D I.unwish q) (λf j z=>by
  cases f with
  |ret u=>obtain⟨v,b,H',I,r,q⟩:=z;exact#[v,_,H',I.wish _,r,q]
  |_=>obtain⟨b,H',I,q⟩:=z;exact#[_,H',I.wish _,q]) k
def gZ(C:eg)(EE:DX):av:=λ_ _ M=>EE C M
theorem F_{jj}(X:ExcAt K C)(m:mg x=ap (.ref C))(ux:tm K B EE E)(l:Gl (fk (kI P w) P w K mg base N ab3 scope f cd A outer s0 H0 E) x)(o:(x==("__debug__":Str))=false:=by decide)(hs:eH [.Constant (.str b) jj ab7] (fk (kI P w) P w K mg base N ab3 scope f cd A outer s0 H0 E).env=[(eC,g3 (.Constant (.str b) jj ab7) (fk (kI P w) P w K mg base N ab3 scope f cd A outer s0 H0 E).env)]:=by rfl):
  DS (fk (kI P w) P w K mg base N ab3 scope f cd A outer s0 H0 E) B (.Raise (ap<|.Call (.Name x c) [.Constant (.str b) jj ab7] [] ab6) ay pos) (gZ C EE):=by
 have j:PS (fk (kI P w) P w K mg base N _ _ f cd A outer s0 H0 E) (.Raise (ap<|.Call (.Name x c) _ [] ab6) _ pos) _:=
  Jq (G9 X m l o hs) λe s h=>kr h (λ_ _ z=>#[C,z]) λ_ _ z=>#[C,z]
 refine bR j ?_
 rintro D U H ⟨Y,M,DD,s,h,q⟩
 exact ux C M h H s.rh s.i0
def Qw(C:eg)(T:Sd)(n:Nat)(ta:dG)(ts:av):av:=λD Y M=>ta Y M λb M1=>b.length=n/\calls T (λC' M2=>C'=C/\ts D Y M2) b M1 (λ_ M2=>D.nx Y M2) #[]
theorem SR.mark(s:SR X B Y M U H):SR (X.marked e) B Y M U H:=#[s.i0,s.rh,s.rs]
theorem SR.unmark(s:SR (X.marked e) B Y M U H):SR X B Y M U H:=#[s.i0,s.rh,s.rs]
theorem UpD.mark{D:Ends}(u:UpD X B M H DD D):UpD (X.marked e) B M H DD D:=
 #[λY M q U H' f s=>u.nx Y M q U H' f s.unmark,u.rt,λY M q U H' f s=>u.bk Y M q U H' f s.unmark,λY M q U H' f s=>u.ct Y M q U H' f s.unmark]
theorem AE(F:FnOk P w K mg base (kI P w) k f fd ps sp):
  FnOk P w K mg base (Do P w C) k f fd ps (λvs H Q E=>sp vs H Q λCv a H'=>Cv=.ref C/\E Cv a H'):=
 #[λvs H Q E=>F.len _ _ _ _,λA c s H j us vs Q E v J m I R=>qa (F.run A _ s H _ us vs Q _ v J m I R) λr s' h=>by
  cases r with
  |ok fl=>cases fl<;>exact h
  |error e=>
   obtain⟨C',W,H',B,L,G,O,u,Z,z,o,l,y,S,b⟩:=h;have q:C'=C:=by injection S
   subst q;exact#[W,H',B,L,G,O,u,Z,z,o,l,y,b]]
theorem yD(G:X.stack=X.env::X.outer)(z:X.env.frame=ap X.env.locals)(F:FnOk X.prog X.w X.K X.mg X.base (kI X.prog X.w) k f fd ps (bC X.K n T))(hr:Room k X.A)(hg:Gl X x)(hm:X.mg x=ap (.ref f))(hk:VJ X.K (.ref f)=true)(hb:Binds X.K fd ps [])(ha:DA X.nox B (e::es) ta)(EX:ExcAt X.K C)(O:Gl X q)(S:X.mg q=ap (.ref C))(J:∀ea:eg,xI (X.marked<|.ref ea) B (c::b) R)(I:(x==("__debug__":Str))=false:=by decide)(hdC:(q==("__debug__":Str))=false:=by decide)(he:eH (e::es) X.env=(eC,g3 e X.env)::eH es X.env:=by rfl)(hpl:(j0 L<|starEach es X.env).any (·.1)=false:=by rfl)(hsw:mo (.Call (.Name x p) (e::es) [] L) ay ep.line X.env=pure false:=by rfl):
  DS X B (.Try [.Expr (.Call (.Name x p) (e::es) [] L) ep] [.ExceptHandler (ap<|.Name q np) ay (c::b) o] [] [] pos) (Qw C T n ta R):=by
 have l:∀ea:eg,wk _ _ (liftS X B R):=λea=>oN (J ea) (by rintro D U H ⟨Y,M,DD,s,h,u⟩;exact#[Y,M,DD,s.mark,h,u.mark])
 refine bR (yo G z (AE F) hr hg hm hk hb .nil ha EX O S l I hdC he hpl hsw) ?_
 rintro D U H ⟨Y,M,DD,s,h,Z⟩
 refine#[Y,M,_,#[s.i0,s.rh,s.rs],h,λds M1 W vs H1 y i1 r1=>?_]
 try dsimp only
 rw[Vl];refine cF W.2 y r1 (by rw[<- r1.length];exact W.1) (λd M2 m v H2 j i2 r2=>?_) λC' M2 m H2 j i2=>?_
 .exact Z.nx _ _ m U H2 (i1.trans i2) (s.go j<|i1.trans i2)
 obtain⟨rfl,m⟩:=m;exact#[rfl,Y,M2,DD,s.go j (i1.trans i2),m,Z.go<|i1.trans i2]
end _3
namespace _2
open PySem PySem.Spec PyProof.Rows
theorem io(h:(UF scope env).names.lookup x=ap k):∃c,(x,c)∈scope.names/\(k=c\/(c=.free/\k=.cell)):=by
 obtain⟨⟨n,b⟩,g,e⟩:=UR.mp (Vy h)
 by_cases f:(b==NameKind.free&&env.scope.kind==.function&&env.kindOf n==ap .cell)=true
 .have a:(n,XQ)=(x,k):=by rw[<- e];show _=(if _ then _ else _);rw[if_pos f]
  cases a;exact#[b,g,by lia]
 have a:(n,b)=(x,k):=by rw[<- e];show _=(if _ then _ else _);rw[if_neg f]
 cases a;exact#[_,g,.inl rfl]
theorem lH:∀{fs:ab'}{a:acb},fs.length=a.length->x∈fs->∃c,(fs.zip a).lookup x=ap c
 |[],_,_,h=>by cases h
 |_::_,[],h,_=>by simp at h
 |y::fs,c::a,hl,h=>by
  rw[List.zip_cons_cons,Ws];cases e:x==y with
  |true=>simp_all
  |false=>
   rcases UK.mp h with z|z
   .simp_all
   exact lH (by simp_all) z
theorem memC{α:Type}{C:α->Prop}{a:α}{l:List α}(c:C a)(e:∀p∈l,C p):∀p∈a::l,C p:=λp b=>by
 rcases UK.mp b with rfl|z
 .exact c
 simp_all
end _2
namespace _3
open PySem _2
theorem dnm(i:Nat)(a:X.N[i]?=ap x:=by rfl)(hv:RG X.env.scope x:=by first|exact Or.inl rfl|exact Or.inr (Or.inl rfl)|exact Or.inr (Or.inr rfl))(hd:(x==("__debug__":Str))=false:=by decide)(hcd:(x==("__classdict__":Str))=false:=by decide):DE X B (.Name x pos) (ac i):=Ru a hv hd hcd
def kP:DX:=λ_ _=>False
theorem uxN:tm K B kP E:=λ_ _ z=>z.elim
theorem pE:fy "list"=ap (.type "list"):=by rfl
theorem r9:fy "tuple"=ap (.type "tuple"):=by rfl
theorem Jr:fy "all"=ap (.builtin "all"):=by rfl
theorem gQ:fy "isinstance"=ap (.builtin "isinstance"):=by rfl
theorem FO:fy "bool"=ap (.type "bool"):=by rfl
theorem JD:fy "int"=ap (.type "int"):=by rfl
theorem JA:fy "str"=ap (.type "str"):=by rfl
theorem wq:fy "dict"=ap (.type "dict"):=by rfl
theorem Kg:fy "min"=ap (.builtin "min"):=by rfl
theorem LF:fy "max"=ap (.builtin "max"):=by rfl
theorem LY:fy "len"=ap (.builtin "len"):=by rfl
theorem Sl(a:Gl X x)(c:X.mg x=ay)(b:fy x=ap (.type T))(e:x≠"__name__":=by decide)(hd:(x==("__debug__":Str))=false:=by decide):DE X B (.Name x pos) (dC<|.ty T):=
 DQ (KH (v:=.ty T) a c b rfl e hd) λ_=>rfl
def qk(t:bh):bh:=λY M Q=>t Y M λx M1=>onI x λi=>Q (.int (-i)) M1
theorem PH(e:DE X B a b):DE X B (.UnaryOp .USub a pos) (qk b):=by
 refine aT (RM R7 e) ?_
 rintro U H Q ⟨Y,M,QQ,s,h,u⟩
 refine#[Y,M,_,s,h,λd M' q v H' c i r=>?_];cases d with
 |int j=>exact#[j,r,u _ M' q _ H' c i rfl]
 |_=>exact q.elim
def frzs:List D->Mem->(List D->Mem->Prop)->Prop
 |[],M,Q=>Q [] M
 |d::ds,M,Q=>onRe d (λa=>mLe (M a) (λc=>frzs ds (M.del a) λb M'=>Q (.lst c::b) M') (frzs ds M λb M'=>Q (d::b) M')) (frzs ds M λb M'=>Q (d::b) M')
theorem jB:∀{ds:List D}{vs:List V}{M:Mem}{H:Hp}{Q:List D->Mem->Prop},Inv X ab2 U H s->RepH X.K H M->Rps X.K H ds vs->frzs ds M Q->
  ∃H' es M',Inv X ab2 U H' s/\RepH X.K H' M'/\Frm M H M' H'/\Rps X.K H' es vs/\Q es M'
 |[],vs,M,H,Q,I,rh,r,h=>#[H,[],M,I,rh,Frm.refl,r,h]
 |d::ds,vs,M,H,Q,I,rh,r,h=>by
  obtain⟨v,vs',rfl,a,b⟩:=r;unfold frzs at h
  replace h:=h.inv;rcases h with⟨a',rfl,h⟩|h
  .cases a
   replace h:=h.inv;rcases h with⟨xs,e,h⟩|h
   .obtain⟨ws,h1,h2⟩:=rh _ _ e
    obtain⟨o,I2⟩:=Inv.freeze I h1;have im:Imm H (upd H a'<|.frz o<|.lst ws):=Imm.upd (by rw[h1];trivial)
    obtain⟨H',es,M',I',rh',f,r',q⟩:=jB I2 (rh.freeze h1) (b.mono im) h;refine#[H',_,M',I',rh',(Frm.del #[_,e]).trans f,.cons ?_ r',q];have z:Rp _ _ (.lst xs) _:=#[a',ws,rfl,#[o,upd_same],h2.mono im];exact z.mf (rh.freeze h1) f
   obtain⟨H',es,M',I',rh',f,r',q⟩:=jB I rh b h;exact#[H',_,M',I',rh',f,.cons (d:=.ref a') rfl r',q]
  obtain⟨H',es,M',I',rh',f,r',q⟩:=jB I rh b h;exact#[H',_,M',I',rh',f,.cons (a.mf rh f) r',q]
def xM(d:D)(M:Mem)(Q:DK):Prop:=onTe d (λb=>frzs b M λa M'=>Q (.tup a) M') (Q d M)
def zc(t:bh):bh:=λY M Q=>t Y M λd M'=>xM d M' Q
theorem KG(h:DE X B e te):DE X B e (zc te):=by
 rintro c s U H Q I ⟨Y,M,QQ,l,x,u⟩
 refine bE (h _ s U H (λv H'=>∃d M',RepH _ H' M'/\Frm M H M' H'/\Rp _ H' d v/\xM d M' QQ) I #[Y,M,_,l,x,λd M' q v H' a i r=>#[d,M',a,i,r,q]]) ?_
 rintro w A ⟨v,H',I',g,d,M',a,i,r,q⟩
 unfold xM at q
 replace q:=q.inv;rcases q with⟨C,rfl,q⟩|q
 .obtain⟨p,o,rfl,y,r⟩:=r
  obtain⟨H2,z,M2,I2,b,f,j,m⟩:=jB I' a r q;exact#[_,H2,I2,g,u _ _ m _ H2 b (i.trans f) #[p,o,rfl,y.mono (f.imm a),j]]
 exact#[v,H',I',g,u _ _ q v H' a i r]
theorem Oa(F:FnOk P w K g a (kI P w) k f fd i (bC K n T)):
  FnOk P w K g a CX0 k f fd i (λvs H Q _=>bC K n T vs H Q E0):=
 #[λvs H Q E h=>F.len _ _ _ _ h,λA b s H c us vs Q E l o j m p=>qa (F.run A b s H c us vs Q E0 l o j m p) λr M h=>by
  cases r with
  |ok fl=>cases fl<;>exact h
  |error e=>
   obtain⟨C',J,H',B,G,C,I,x,L,z,v,u,y,q⟩:=h;exact(show False from q).elim]
theorem Kk{c:ab_}(g:Fn H)(i:SqL K H a (c.map V.int))(h:T [.ml (c.map D.int)] (λ_=>ay) (λd _=>d=.bl true) kP)(k:∀H',Q (.bl true) H'):bC K 1 T [.ref a] H Q E0:=by
 refine#[rfl,[.ml _],_,_,_,λb o e=>(by cases e),.cons #[a,_,rfl,?_,xE rfl] .nil,h,λd M' q v H' j f r=>?_,λ_ _ z=>z.elim]
 .rcases i with (z|z)|z
  .rcases g a with e|⟨o,xs,e⟩
   .simp_all
   simp_all
  .exact .inl z
  exact .inr z
 subst q;cases r;exact k H'
theorem m8(X:K.In h)(X':K.In h')(e:W.nsOkIn K N=true):h'.nsMap N=h.nsMap N:=by
 unfold W.nsOkIn at e
 split at e
 .rename_i a
  unfold Heap.nsMap;rw[X _ _ a,X' _ _ a]
 cases e
theorem ja(X:K.In h)(q:Zr K C [.type "ValueError",.type "Exception",.type "BaseException",.type "object"] "ValueError.__new__"=true):ExcAt K C:=by
 unfold Zr at q
 split at q
 .rename_i E B v z
  split at q
  .rename_i C' w p j i o n r g u
   simp only[VU,beq_iff_eq,Bool.not_eq_true']at q;obtain⟨⟨⟨⟨⟨rfl,rfl⟩,b⟩,s⟩,a⟩,c⟩:=q;obtain⟨nm,bs,A,m,x,y,G,sub,H,e,del⟩:=B;dsimp only at g b a c;subst g b;have f:v=(tX [p,j,i,o,ap (.builtin "ValueError.__new__"),r]):=by
    obtain⟨l⟩:=v;simp only at u;rw[u]
   subst f;refine#[#[nm,x,m,bs,w,_,y,G,sub,H,e,E,p,j,i,o,r,"ValueError.__new__","ValueError.__init__","ValueError",h.nsMap m,λI X'=>#[X' _ _ z,?_,W.tail_of_in X' s],W.nsMap_none_of_in X a c,PySem.F.excBase_ValueError,by decide,(W.tail_of_in X s).hasType<|by decide]]
   rw[<- m8 X X' a];exact .of_isNs (W.isNs_of_in X' a)
  .cases q
 .cases q
end _3
namespace _2
open PySem
theorem JJ(j:env.blockKind=.function)(g:env.scope.names.lookup x=ap .local)(h:f.line=pos.line)
  (i:(scope.names.any λ(n,k)=>n==x&&(k==.local||k==.cell))=eC):mo (.ListComp b a scope pos) (ap<|.Name x f) line env=pure true:=by
 have e:(Expr.ListComp b a scope pos).pos=pos:=rfl;have c:env.kindOf x=ap .local:=g;unfold mo
 try dsimp only
 rw[j,c,e,h,i];simp
end _2
namespace _3
open PySem _2
noncomputable def FD:f'->Bool
 |.Starred ..=>eC
 |_=>true
theorem da_c(c:DE X B e te)(a:DA X B es t)(b:FD e=true:=by rfl):DA X B (e::es) (aa te t):=LB c a ((λh=>by
   cases e<;>first|rfl|trivial) b)
def EF(n:Nat)(t:qt):lD:=λd Y M Q=>Ra d (λb=>b.length=n/\t b Y M Q) λa=>mL (M a) λb=>b.length=n/\t b Y M Q
theorem PQ(y:X.calm=true)(h:TQ X B es t)(G:(mu es X.env).length=n:=by rfl)(hst:(mu es X.env).findIdx? (·.1)=none:=by rfl):DG X B (.Tuple es k pos) (EF n t):=by
 rintro w s U H v u Q I r ⟨d,Y,M,QQ,j,x,hd,q⟩
 cases d with
 |lst i=>
  obtain⟨p,m,rfl,C,g⟩:=x;obtain⟨z,hd⟩:=hd;cases r;obtain⟨a,f,pl,F⟩:=I.list C.sq;have c:(mu es X.env).length=a.toArray.size:=by have:=f.length;have:=g.length;simp_all
  refine cT (aa8 ?_);unfold unpack;rw[c,hst];refine cT (ol (W.kun_itemsOf (I.ok.hd y) pl.isList λA l=>?_));have I1:Inv X _ U H _:=I.kept (t':=s.toks) λb o e=>l b o (UT<|UD e) e;exact h _ _ U H m _ Q I1 (by assumption) #[i,Y,M,QQ,j,g,hd,q]
 |ref p=>
  cases x
  replace hd:mL _ _:=hd
  obtain⟨i,e,hd⟩:=hd.inv;obtain⟨m,E,g⟩:=j.rh _ _ e;obtain⟨z,hd⟩:=hd;cases r;obtain⟨a,f,pl,F⟩:=I.list (SqL.of E);have c:(mu es X.env).length=a.toArray.size:=by have:=f.length;have:=g.length;simp_all
  refine cT (aa8 ?_);unfold unpack;rw[c,hst];refine cT (ol (W.kun_itemsOf (I.ok.hd y) pl.isList λA l=>?_));have I1:Inv X _ U H _:=I.kept (t':=s.toks) λb o e=>l b o (UT<|UD e) e;exact h _ _ U H m _ Q I1 (by assumption) #[i,Y,M,QQ,j,g,hd,q]
 |_=>trivial
mutual
noncomputable def fw:D->PyData
 |.non=>.none
 |.bl b=>.bool b
 |.int i=>.int i
 |.str x=>.str x
 |.tup xs=>.tuple (gw xs)
 |.lst xs=>.list (gw xs)
 |_=>.none
noncomputable def gw:List D->List PyData
 |[]=>[]
 |x::xs=>fw x::gw xs
end
mutual
theorem xO:∀d:D,(fw d).hasDict=eC
 |.non=>by simp only[fw,VN]
 |.bl _=>by simp only[fw,VN]
 |.int _=>by simp only[fw,VN]
 |.str _=>by simp only[fw,VN]
 |.tup xs=>by simp only[fw,VN];exact tS xs
 |.lst xs=>by simp only[fw,VN];exact tS xs
 |.ty _=>by simp only[fw,VN]
 |.ref _=>by simp only[fw,VN]
 |.mt _=>by simp only[fw,VN]
 |.ml _=>by simp only[fw,VN]
 |.fd _ _=>by simp only[fw,VN]
theorem tS:∀xs:List D,X8 (gw xs)=eC
 |[]=>by simp only[gw,X8]
 |x::xs=>by simp only[gw,X8,xO x,tS xs,Bool.or_self]
end
mutual
theorem wb:∀(n:Nat)(d:D),br n d=true->(fw d).depth<=n
 |_,.non,_=>by simp[fw,W5]
 |_,.bl _,_=>by simp[fw,W5]
 |_,.int _,_=>by simp[fw,W5]
 |_,.str _,_=>by simp[fw,W5]
 |n+1,.tup xs,f=>by have:=kT n xs f;simp only[fw,W5];lia
 |n+1,.lst xs,f=>by have:=kT n xs f;simp only[fw,W5];lia
 |0,.tup _,f=>by simp[br]at f
 |0,.lst _,f=>by simp[br]at f
 |_,.ty _,f=>by simp[br]at f
 |_,.ref _,f=>by simp[br]at f
 |_,.mt _,f=>by simp[br]at f
 |_,.ml _,f=>by simp[br]at f
 |_,.fd _ _,f=>by simp[br]at f
theorem kT:∀(n:Nat)(xs:List D),fits n xs=true->Yo (gw xs)<=n
 |_,[],_=>by simp[gw,Yo]
 |n,x::xs,f=>by
  rw[fits,VU]at f;have:=wb n x f.1;have:=kT n xs f.2;simp only[gw,Yo];lia
end
mutual
theorem wP{h:h9}:∀(d:D)(u:ax),Hr h d u->∃as,Reads h u (fw d) as
 |.non,u,q=>by cases q;exact#[_,.none]
 |.bl _,u,q=>by cases q;exact#[_,.bool _]
 |.int _,u,q=>by obtain⟨t,rfl⟩:=q;exact#[_,.int _ _]
 |.str _,u,q=>by obtain⟨t,rfl⟩:=q;exact#[_,.str _ _]
 |.tup xs,u,q=>by
  obtain⟨p,a,rfl,⟨o,f,c,n,b⟩,r⟩:=q;obtain⟨as,e⟩:=lg xs a r;exact#[_,.tuple f c b e]
 |.lst xs,u,q=>by
  obtain⟨p,a,rfl,⟨o,f,c,n,b⟩,r⟩:=q;obtain⟨as,e⟩:=lg xs a r;exact#[_,.list f c b e]
 |.ty _,_,q=>q.elim
 |.ref _,_,q=>q.elim
 |.mt _,_,q=>q.elim
 |.ml _,_,q=>q.elim
 |.fd _ _,_,q=>q.elim
theorem lg{h:h9}:∀(xs:List D)(us:aca),Hrs h xs us->∃as,ReadsAll h us (gw xs) as
 |[],_,q=>by cases q;exact#[_,.nil]
 |x::xs,_,q=>by
  obtain⟨u,r,rfl,a,b⟩:=q;obtain⟨g,e⟩:=wP x u a;obtain⟨f,c⟩:=lg xs r b;exact#[_,.cons e c]
end
theorem Gj:fy "repr"=ap (.builtin "repr"):=by rfl
end _3
namespace _3
open PySem _2 _S
def jm:List D->Option (List Int)
 |[]=>ap []
 |.int i::ds=>match jm ds with
  |some is=>ap (i::is)
  |none=>ay
 |_=>ay
theorem xw:∀{ds:List D}{vs:List V}{xs:ab_},Rps K H ds vs->jm ds=ap xs->vs=xs.map V.int
 |[],vs,xs,r,e=>by cases e;exact r
 |d::ds,vs,xs,r,e=>by
  obtain⟨v,h,rfl,a,b⟩:=r;cases d with
  |int c=>
   simp[jm]at e
   split at e
   .rename_i g f
    cases e;cases a;rw[xw b f];rfl
   cases e
  |_=>trivial
end _3
namespace _3
open PySem _2 _S
def wB(t:dG):bh:=λY M Q=>t Y M λb M1=>one b λa=>onI a λj=>(-(2 ^ 62)<=j/\j<=1000)/\∀p,M1 p=ay->Q (.ref p) (M1.upd p<|.lst<|dD 0 j.toNat)
noncomputable def z7(n:Nat):List V:=(Vu n).map λ(i:Nat)=>V.int (0+(i:Int))
theorem JP:Rps K H (dD 0 n) (z7 n):=by
 unfold dD z7;generalize Vu n=l
 induction l with
 |nil=>rfl
 |cons i l ih=>exact#[_,_,rfl,rfl,ih]
theorem FM(h:ItemsOf (λi v=>∃t,v=.int (0+i*1) t) ab5 n):Vals (z7 n) ab5.toList:=by
 obtain⟨h1,h2⟩:=h;have key:∀(l:List _)(k m:Nat),l.length=m->(∀(j:Nat)(v:ax),l[j]?=ap v->∃t,v=.int (0+(k+j)) t)->Vals ((XW k m).map λ(i:Nat)=>V.int (0+i)) l:=by
  intro l
  induction l with
  |nil=>intro k m e _;subst e;exact .nil
  |cons x l ih=>
   intro k m e h;subst e;refine .cons ?_ (ih _ _ rfl λj v q=>?_)
   .obtain⟨t,rfl⟩:=h 0 x (by simp)
    exact#[t,rfl]
   obtain⟨t,e⟩:=h (j+1) v (by simpa using q)
   exact#[t,by rw[e];congr 2;lia]
 unfold z7;rw[XU];exact(key _ 0 n (by trivial) λj v q=>by
  simp_all)
def FT(t:TA):TE:=λU H Q=>t U H λa H1=>∃j:Int,a=[.int j]/\(-(2 ^ 62)<=j/\j<=1000)/\∀p,H1 p=ay->Q (.ref p) (upd H1 p<|.lst<|z7 j.toNat)
theorem z9(S:X.calm=true)(N:Gl X "range")(O:X.mg "range"=ay)(m:Gl X "list")(r:X.mg "list"=ay)(R:PA X [e] t)
  (P:eH [e] X.env=[(eC,g3 e X.env)]:=by rfl) (hs3:eH [Y5 (.Name "range" v) [e] [] a] X.env=[(eC,g3 (.Call (.Name "range" v) [e] [] a) X.env)]:=by rfl):
  PE X (.Call (.Name "list" p) [.Call (.Name "range" v) [e] [] a] [] pos) (FT t):=by
 intro w s U H Q I h;refine lm (dZ I m r pE<|Vi ?_ hs3 rfl);show eS _ _ (spliced ((eC,_)::j0 _ [])) _ _ s;refine Wd ?_;refine lm (dZ I N O (by rfl)<|Vi (bE (R _ _ s U H _ I h) λus c F=>?_) P rfl);obtain⟨W,H1,I1,J,M⟩:=F;obtain⟨j,rfl,⟨L,Y⟩,q⟩:=M;obtain⟨u,rfl,y⟩:=gD J;obtain⟨t',rfl⟩:=y;refine call_range_1 ?_;refine WQ ?_;have A:=I1.ok.hd S;refine call_list_range (n:=j.toNat) A (IsRange.new ..) (small_one (by decide) (by decide) L<|by lia) (by rw[rangeSize_one];split<;>lia) (by lia) λK C f x G E g=>?_
 have i:(c.heap.push { cls:=.type "range",data:=.fields (tX [.int 0 c.toks,.int j t',.int 1 (c.toks+1)]) }).objs.size=c.heap.objs.size+1:=Vw ..;have l:K.get? (c.heap.objs.size+1)=ap { cls:=.type "list",dict:=ay,data:=.seq f x,slots:=(tX []) }:=by rw[<- i];exact E
 refine#[.ref (c.heap.objs.size+1),_,I1.laid (t':=C) (o:=.lst (z7 j.toNat)) (λb o z=>G b o (UB _ z)) (Yv _) (#[?_,f.toList,x,FM g,by rw[Array.toArray_toList];exact l]),?_,q _<|I1.hok.fresh<|Yv _]
 .simp only[z7,UA,List.length_range]
  exact UL (by lia:j.toNat<=1000) (by decide)
 .show UY _=UY _
  rw[<- i]
theorem yA(hc:X.calm=true)(hg:Gl X "range")(hm:X.mg "range"=ay)(hg2:Gl X "list")(hm2:X.mg "list"=ay)(ha:DA X B [e] t)
  (hs:eH [e] X.env=[(eC,g3 e X.env)]:=by rfl) (hs3:eH [Y5 (.Name "range" p2) [e] [] pos2] X.env=[(eC,g3 (.Call (.Name "range" p2) [e] [] pos2) X.env)]:=by rfl):
  DE X B (.Call (.Name "list" p) [.Call (.Name "range" p2) [e] [] pos2] [] pos) (wB t):=by
 refine aT (z9 hc hg hm hg2 hm2 ha hs hs3) ?_
 rintro U H Q ⟨Y,M,QQ,s,h,u⟩
 refine#[Y,M,_,s,h,λds M1 h1 vs H1 rh1 i1 r1=>?_]
 replace h1:=h1.inv;obtain⟨_,rfl,h1⟩:=h1
 replace h1:=h1.inv;obtain⟨_,rfl,h1⟩:=h1
 obtain⟨v,rfl,rv⟩:=gy (ds:=[]) r1;cases rv;exact#[_,rfl,h1.1,λd hd=>u _ _ (h1.2 d<|rh1.fresh hd) _ _ (rh1.put (by rw[hd];trivial) #[_,upd_same,JP]) (i1.trans<|Frm.put<|.inl hd) rfl]
end _3
namespace LX
open PySem PySem.W PySem.Spec PySem.Calls PyProof.Rows Builtin Builtin.ObjectAttr Builtin.Getset_descriptor
section
variable{K:Frag}
theorem yj(X:K.In h)(f:abu K (.ref C) b=ap (ap a))(c:specialIn K a "__get__"=ap (ap g))(e:takesIn K a=ap true):
  Looks M h (Builtin.ObjectAttr.find (.ref x) (.ref C) b) (.bind g a):=by
 have L3:=looks_takesIn (M:=M) X e;refine (abP (M:=M) X f).andThen ((looks_specialIn X c).andThen ?_);exact(show Looks M h _ (ap _) from L3.andThen .now).andThen (Looks.tag .now)
theorem yc(X:K.In s.heap)(L0:∀M:aba,Looks M s.heap (U_<|.ref x) (.ref C))(a:mroIn K C (.type "object")=ap true)(h:R (.ok<|.ret<|.ref C) s):y' (fv prog w) A (.call (.builtin "getset_descriptor.__get__") #[[.builtin "object.__class__",.ref x,b],[]]) R s:=by
 have L0:=L0 (fv prog w);have L1:=abn (M:=fv prog w) X a;refine Z_ KF.slot_gs.plain KF.entry_gs (KF.slot_gs.check _ _ _ _ _ _ _ _ KF.type_class (KF.args_gs _ _ _) ?_);unfold Builtin.«getset_descriptor.__get__» descrGet;refine cT (eX ?_);unfold descrGetter descrCheckInstance descrNameAndClass isInstance;simp only[KF.owner_class]
 repeat lk
 refine#[Code.quiet_builtin _ (by decide +kernel),abp KF.entry_class ?_]
 repeat lk
 exact h
theorem Iu(L:Looks M s.heap (isInstance (.ref x)<|.type "BaseException") true)(f:Q () s):
  eS M A (ss "BaseException.__getattribute__" #[[.ref x,v],[]]) Q E s:=by
 have a:splitId "BaseException.__getattribute__"=ap ("BaseException","__getattribute__"):=by decide +kernel
 have b:(Zz "BaseException").bind (·.attrs.lookup "__getattribute__")=ap .slot:=by decide +kernel
 have h:builtinKind "BaseException.__getattribute__"=(Zz "BaseException").bind (·.attrs.lookup "__getattribute__"):=by simp only[builtinKind,a]
 have e:abc "BaseException.__getattribute__" #[[.ref x,v],[]]:=F.args_bexc_ga _ _;simp only[ss,h,b,a];refine cT (L.at ?_);simp only[WZ,Vj,if_false];cases c:Manifest.signature? "BaseException.__getattribute__" with
 |none=>exact eX f
 |some sig=>
  simp only[abc,c]at e;have g:Bind.checkArgs "BaseException.__getattribute__" sig #[[.ref x,v],[]]=pure ():=e;show eS M A (Bind.checkArgs "BaseException.__getattribute__" sig #[[.ref x,v],[]]) Q E s;rw[g];exact eX f
theorem slot_ga:Slot "ValueError" "__getattribute__" "BaseException.__getattribute__":=F.excAttr_ValueError.ga
theorem Eb(b:abu K (.ref D) "__getattribute__"=ap (ap<|.builtin "BaseException.__getattribute__"))(e:abu K (.ref D) "__getattr__"=ap ay)(m:abu K (.ref D) "__class__"=ap (ap<|.builtin "object.__class__"))(o:specialIn K (.builtin "object.__class__") "__get__"=ap (ap<|.builtin "getset_descriptor.__get__"))(c:takesIn K (.builtin "object.__class__")=ap true)(l:mroIn K D (.type "object")=ap true)(f:mroIn K D (.type "BaseException")=ap true)(X:K.In s.heap)(I:s.heap.get? x=ap i/\i.cls=.ref D)(h:Q (ap<|.ref D) { s with toks:=s.toks+1 }):eS (fv prog w) A (Wp (.ref x) "__class__") Q E s:=by
 obtain⟨a,g,d,t,j⟩:=s;have L00:∀M:aba,Looks M a (U_<|.ref x) (.ref D):=λM=>I.2▸(Looks.ld I.1).andThen .now;have L0:=L00 (fv prog w);have L1:=abP (M:=fv prog w) X b;have L2:=abP (M:=fv prog w) X e;have L3:=yj (M:=fv prog w) (x:=x) X m o c;have L4:Looks (fv prog w) a (isInstance (.ref x)<|.type "BaseException") true:=L0.andThen (abn (M:=fv prog w) X f);unfold Wp getAttrBy? getAttrBy;refine cT (wpAny_mkText<|wpAny_bind<|wpAny_attempt<|wpAny_holding<|wpAny_bind<|L0.at<|wpAny_bind<|L1.at ?_);show eS _ _ (getAttrByItsOwn _ _ _ _ _ _) _ _ _;unfold getAttrByItsOwn hookBefore;refine cT (L2.at ?_);refine cT (z6<|wpAny_holding ?_);show eS _ _ (boundAndCalled _ _ _) _ _ _;unfold boundAndCalled;rw[slot_ga.bind];refine cT (eX ?_);refine W1 ?_;refine Z_ slot_ga.plain F.entry_bexc_ga (Iu L4 ?_);unfold Builtin.«object.__getattribute__» slotArgs;refine cT (eX<|wpAny_bind<|wpAny_pure<|wpAny_bind<|L0.at<|wpAny_bind<|L3.at ?_);show eS _ _ (Builtin.ObjectAttr.bindTo _ _ _ _) _ _ _;refine cT (ol<|wpAny_call<|yc (s:=#[a,g,d,t+1,j]) X L00 l ?_);refine eX ?_;exact handed_on rfl (eX h)
end
end LX
namespace LX
open PySem PySem.W PySem.Spec PySem.Calls PyProof.Rows
structure XC(K:Frag)(C:eg):Prop where
 ga:abu K (.ref C) "__getattribute__"=ap (ap<|.builtin "BaseException.__getattribute__")
 gh:abu K (.ref C) "__getattr__"=ap ay
 dct:hasDictIn K C=true
 cl:abu K (.ref C) "__class__"=ap (ap<|.builtin "object.__class__")
 sp:specialIn K (.builtin "object.__class__") "__get__"=ap (ap<|.builtin "getset_descriptor.__get__")
 tk:takesIn K (.builtin "object.__class__")=ap true
 ob:mroIn K C (.type "object")=ap true
 be:mroIn K C (.type "BaseException")=ap true
theorem FU{K:Frag}(Z:XC K D):KitX K (.ref x) (.ref D) (λh=>h.get? x=ap j/\j.cls=.ref D) where
 ty:=λ_ _ _ I=>I.2▸(Looks.ld I.1).andThen .now
 it:=λ_ _ X _=>by
  obtain⟨i,a,_⟩:=any_some Z.dct;unfold clsIn at a
  split at a
  .rename_i o m b g c
   intro A' Q' E' u k q;exact cT (wpAny_loadPart (k _ _<|X _ _ c)<|wpAny_pure q)
  cases a
 ne:=λh p s l n r X f=>by
  obtain⟨i,a,_⟩:=any_some Z.dct;refine Bool.eq_false_iff.mpr λq=>?_;have e:=Value.ref.inj (beq_iff_eq.mp q);subst e;unfold clsIn at a
  split at a
  .rename_i o m b g c
   cases ((X _ _ c).symm.trans f)
  cases a
 ca:=Eb Z.ga Z.gh Z.cl Z.sp Z.tk Z.ob Z.be
theorem HU{K:Frag}(X:K.In s.heap)(o:instIn K (.ref S) (.type "tuple")=ap eC)(b:(clsIn K S).isSome=true)
  (j:mroIn K S (.type "BaseException")=ap true) (m:mroIn K C (.ref S)=ap true) (l:s.heap.get? e=ap oe) (a:oe.cls=.ref C) (i:Q true s):eS M A (excMatches (.ref e)<|.ref S) Q E s:=by
 have L1:=looks_instIn (M:=M) X o;have L3:=abn (M:=M) X j;have L4:=abn (M:=M) X m;have L2:Looks M s.heap (isType<|.ref S) true:=by
  unfold clsIn at b
  split at b
  .rename_i v r f c h
   intro A' Q' E' w k q;unfold isType loadHead;exact cT (wpAny_loadPart (k _ _<|X _ _ h)<|wpAny_pure q)
  .cases b
 have L5:Looks M s.heap (U_<|.ref e) (.ref C):=a▸(Looks.ld l).andThen .now;obtain⟨p,g,d,t,u⟩:=s;unfold excMatches isExcClass;refine cT (L1.at ?_);simp only[Vj,if_false];refine cT (eX ?_);rw[Yy];refine cT (cT<|wpAny_bind<|wpAny_bind<|L2.at ?_);simp only[if_true];refine L3.at ?_;simp only[WZ,Vj,if_false];refine eX ?_
 try dsimp only
 rw[List.forIn_nil];refine eX (cT<|L5.at ?_);rw[Yy];refine cT (cT<|wpAny_bind<|L4.at ?_);simp only[if_true];refine eX ?_
 try dsimp only
 exact eX (eX i)
end LX
namespace _2
open PySem PySem.Spec PyProof.Rows
theorem Inv.track(I:Inv X ab2 U H s)(v:s.heap.get? a=ap o)(j:H a=ay)(F:∀u,X.s₀.heap.get? a≠ap u)(E:a≠X.env.locals)(J:∀x c,X.env.cells.lookup x=ap c->c≠a)(G:∀p∈X.pn++ab2,p.1≠a):Inv X ab2 U (upd H a<|.frz o<|.own 0) s:=by
 have ne:∀{b:eg},b≠a->upd H a (.frz o<|.own 0) b=H b:=λh=>by simp[upd,h]
 refine#[I.ok,I.os,I.bare,#[λb u q n=>I.base.keep b u q n,λb u q n=>I.base.slot b u q n,λb u q n y=>?_,I.base.there,λb r q=>?_,λb l u q=>?_,λb ps q=>?_],I.loc,I.cell,?_,λx c q=>?_,λp q=>?_,λb l q=>?_,I.len]
 .by_cases g:b=a
  .subst g;exact absurd q (F u)
  .rw[ne g];exact I.base.free b u q n y
 .have z:=I.base.tups b r q
  rw[ne (λg=>by rw[g,j]at z;cases z)];exact z
 .have z:=I.base.frzs b l u q
  rw[ne (λg=>by rw[g,j]at z;cases z)];exact z
 .obtain⟨m,z⟩:=I.base.tbls b ps q
  exact#[m,by rw[ne (λg=>by rw[g,j]at z;cases z)];exact z]
 .rw[ne (Vb E)];exact I.free
 .rw[ne (J x c q)];exact I.freeC x c q
 .obtain⟨B,C,w⟩:=I.pin p q
  exact#[B,by rw[ne (G p q)];exact C,w]
 .by_cases g:b=a
  .subst g
   have:l=.frz o (.own 0):=by
    have:upd H b (.frz o<|.own 0) b=ap (.frz o<|.own 0):=by simp[upd]
    rw[this]at q;cases q;rfl
   subst this;exact#[v,o,v]
  .rw[ne g]at q
   exact(I.hok b l q).stay (λc K _ i=>i) (λc i=>by rw[ne (λg=>by rw[g,j]at i;cases i)];exact i) λc r i=>by rw[ne (λg=>by rw[g,j]at i;cases i)];exact i
theorem Ex(I:Inv X ab2 U H s)(hN:X.N.Nodup)(P:X.N[i]?=ap x)(hk:X.env.kindOf x=ap .local)(h:∀s',Inv X ab2 (U.set i ay) H s'->Q () s'):eS M A (do bindName X.env x .none;unbindBehindTheSuite X.env x pos) Q E s:=by
 obtain⟨m,L,R⟩:=id I.loc;have C:(X.env.scope.kind==.class||(X.env.scope.kind==.module&&X.env.locals != X.env.globals))=false:=by rw[I.ok.kind];rfl
 have u:i<U.length:=by rw[I.len];exact(Ve.mp P).1
 have cne:=I.cne;refine wpAny_nameGoes_keeps hk L C (λh' v G l=>?_);obtain⟨oL,_,_,hoL,_⟩:=id L;have a:HOk X.prog X.w H h':=λb S e=>by
  refine (I.hok b S e).stay (λc O hc q=>(l.2 c ?_).trans q) (λ_ q=>q) λ_ _ q=>q
  rintro rfl
  have g:=I.free;rcases hc with rfl|hc
  .rw[g]at e;cases e
  .rw[g]at hc;cases hc
 refine h _ #[I.ok,I.os,I.bare,#[λb o e n J B=>?_,λb o e n J B=>?_,I.base.free,λb o e B=>?_,I.base.tups,I.base.frzs,I.base.tbls],#[_,G,λj y v' r F Y=>?_],λy c e=>?_,I.free,I.freeC,λp hp=>?_,a,by simpa using I.len]
 .exact(l.2 b<|UT<|UM (UD e) I.ok.above).trans (I.base.keep b o e n J B)
 .obtain⟨sl,r⟩:=I.base.slot b o e n J B
  exact#[sl,(l.2 b<|UT<|UM (UD e) I.ok.above).trans r]
 .obtain⟨o',r⟩:=I.base.there b o e B
  exact#[o',(l.2 b<|UT<|UM (UD e) I.ok.above).trans r]
 .by_cases K:j=i
  .subst K
   rw[WS u]at F;cases F
  .rw[XX (Vb K)]at F
   obtain⟨u',W,q⟩:=R j y v' r F Y;refine#[u',W,?_];rcases q with⟨k,e⟩|⟨k,c,e,z⟩
   .refine .inl #[k,?_]
    have:y≠x:=λe=>K (pT hN r (e▸P));simp[this,e]
   .exact .inr #[k,c,e,z.sameBut l<|cne y c e]
 .obtain⟨O,z⟩:=I.cell y c e
  exact#[O,z.sameBut l<|cne y c e]
 .obtain⟨e,n,ne,Z,d⟩:=I.pin p hp
  exact#[(l.2 p.1 ne).trans e,n,ne,Z,d]
def ExcH(H:Hp)(C ea:eg):Prop:=∃o,H ea=ap (.frz o<|.own 0)/\o.cls=.ref C
structure XS(K:UE)(C S:eg):Prop where
 tu:W.instIn K (.ref S) (.type "tuple")=ap eC
 cl:(W.clsIn K S).isSome=true
 be:V2 K S (.type "BaseException")=ap true
 mr:V2 K C (.ref S)=ap true
def Pk(C:eg)(sp:Sp)(dvs:List V)(ta:TA)(i j:Nat)(ts:eg->TS):TS:=λD U H=>ta U H λc H1=>sp (c++dvs) H1 (λv H2=>D.nx (U.set i<|some v) H2)
 (λ_ _ H2=>∀ea H3,(∀b,b≠ea->H3 b=H2 b)->H2 ea=ay->ExcH H3 C ea->ts ea { nx:=λa H'=>D.nx (a.set j ay) H',rt:=λ_ _=>False } (U.set j<|some<|.ref ea) H3)
theorem Gi(hst:X.stack=X.env::X.outer)(hfL:X.env.frame=ap X.env.locals)(hex:X.ex=[])(F:FnOk X.prog X.w X.K X.mg X.base (Do X.prog X.w C) k f fd ps sp)(hr:Room k X.A)(hg:Gl X x)(hm:X.mg x=ap (.ref f))(hk:VJ X.K (.ref f)=true)(hb:Binds X.K fd ps ds)(hd:Vals dvs ds)(ha:PA X.nox (e::es) ta)(ES:XS X.K C S)(hgC:Gl X cx)(hmC:X.mg cx=ap (.ref S))(hsu:∀ea:eg,wk (X.marked<|.ref ea) (P::M) (ts ea))(hN:X.N.Nodup)(hi:X.N[i]?=ap y)(hy:xH X.env.scope y)(hj:X.N[j]?=ap n)(hn:X.env.kindOf n=ap .local)(hdb:(x==("__debug__":Str))=false:=by decide)(hdC:(cx==("__debug__":Str))=false:=by decide)(he:eH (e::es) X.env=(eC,g3 e X.env)::eH es X.env:=by rfl)(hpl:(j0 cp<|starEach es X.env).any (·.1)=false:=by rfl)(hsw:mo (.Call (.Name x p) (e::es) [] cp) (ap<|.Name y yp) ep.line X.env=pure false:=by rfl)(hf:X.fn y=true\/X.env.scope.names.lookup y=ap .local:=by and_intros)(hfn:X.fn n=true\/X.env.scope.names.lookup n=ap .local:=by and_intros):
  PS X (.Try [.Assign [.Name y yp] (.Call (.Name x p) (e::es) [] cp) ep] [.ExceptHandler (ap<|.Name cx np) (ap n) (P::M) hpos] [] [] pos) (Pk C sp dvs ta i j ts):=by
 intro ab2 s U H D I h;refine wpAny_Try_except (V'<|wpAny_Assign_Name ?_ hsw);refine lm (dF I hg hm ?_ hdb);refine Xg (h₀:=X.base) I.ok.mod.kin hk (kr (ha cp ab2 s U H _ (I.wish _) h) (λus s1 zz=>?_) λ_ _ z=>Vv z) he hpl;obtain⟨vs,H1,I1',r,q⟩:=zz;have I1:Inv X ab2 U H1 s1:=I1'.unwish;refine#[I1.kIn,?_];have r':=r.append hd;have hl:(us++ds).length=ps.length:=by rw[<- r'.length];exact F.len _ _ _ _ q
 refine W1 (qa (F.run X.A X.stack s1 H1 #[us,[]] (us++ds) (vs++dvs) _ _ hr I1.env0 (hb s1 us I1.kIn hl) r' q) λrr s' hq=>?_);cases rr with
 |ok fl=>
  cases fl with
  |ret u=>
   obtain⟨x',H2,I2,r2,q2⟩:=I1.after hq;refine gE I2 hN hi hy r2 (λs2 I3=>?_) hf;exact pa (pa #[_,H2,I3,q2])
  |next=>exact Vv hq
  |brk=>exact Vv hq
  |cont=>exact Vv hq
 |error er=>
  obtain⟨ea,H',B,a0,rfl,hos,Q,un,hok,O,sT,sA,hE⟩:=hq;have nf:∀b∈iT X.stack,∀o,s1.heap.get? b=ap o->∀vs,o.data≠.fields vs:=λb a o l vs=>by
   obtain⟨_,o',g,W⟩:=I1.stack.mem (show b∈_ from a);rw[l]at g;cases g;exact W vs
  have J:∀h':h9,B.StaysIn h'->s'.heap.UpToSlots h'->Inv X ab2 U H' { s' with heap:=h' }:=λh' k up=>
   I1.call' (s':={ s' with heap:=h' }) hos (tR un O.1 k up sA nf λb a=>I1.stkFree b a) (mQ hok O.1 k sT) Q λb z=>absurd (show b∈([]:acb) from z) (by simp)
  rw[hst]at O;have hfr:X.A.frames=ap (X.env::X.outer):=by rw[<- hst];exact I1.ok.frames
  refine wpAny_looks_onW hfr hfL O λh4 R up4=>?_;refine wpAny_landsW R λh5 L up5=>?_;have I5:=(J h5 L.1<|up4.trans up5).mark (.ref ea);obtain⟨ob,hob,hobc⟩:=L.there;refine wpAny_handleBy_cons (abV<|dF I5 hgC hmC ?_ hdC) (by intro l;cases l)
  refine LX.HU I5.kIn ES.tu ES.cl ES.be ES.mr hob hobc (codeAny_handlers_suite_as ?_);refine lands_againW L λh6 G up6=>?_;have I6:=J h6 G.1 ((up4.trans up5).trans up6);obtain⟨oe,ws,hoe,hoec,Z,_⟩:=G.first
  have hn':H' ea=none:=by
   cases l:H' ea with
   |none=>rfl
   |some u=>obtain⟨o',z⟩:=sT ea u l;rw[G.2.1]at z;cases z
  have E:∀u,s1.heap.get? ea≠ap u:=λu l=>by
   by_cases a:ea∈iT X.stack
   .obtain⟨_,o',g,W⟩:=I6.stack.mem (show ea∈_ from a)
    rw[show ({ s' with heap:=h6 }:ez).heap.get? ea=ap oe from hoe]at g;cases g;exact W ws Z
   .obtain⟨o',z⟩:=sA ea u l a
    rw[G.2.1]at z;cases z
  have I7:=I6.track (o:=oe) hoe hn' (λu l=>by
    obtain⟨o',z⟩:=I1.base.there ea u l (by rw[hex];simp)
    exact E _ z) (λl=>by
    obtain⟨m,⟨oL,_,_,hoL,_⟩,_⟩:=I1.loc;exact E _ (l▸hoL)) (λy c l z=>by
    obtain⟨v,o',g,_⟩:=I1.cell y c l;exact E _ (z▸g)) (λp' l z=>by
    exact E _ (z▸(I1.pin p' l).1))
  refine gE I7 hN hj (.inl hn) (show RelV (.ref ea) (.ref ea) from rfl) (λs8 I8=>?_) hfn;have h8:=hE ea (upd H' ea<|.frz oe<|.own 0) (λb a=>by simp[upd,a]) hn' #[oe,by simp[upd],hoec]
  refine kr (hsu ea ab2 _ _ _ _ (I8.mark<|.ref ea) h8) (λfl s9 Y=>?_) λ_ _ z=>Vv z;cases fl with
  |next=>
   obtain⟨σ',H9,I9,Y⟩:=Y;exact Ex (I9.unmark I.ok) hN hj hn λs10 I10=>#[_,H9,I10,Y]
  |ret u=>obtain⟨_,_,_,_,_,z⟩:=Y;exact Vv z
  |brk=>obtain⟨_,_,_,z⟩:=Y;exact Vv z
  |cont=>obtain⟨_,_,_,z⟩:=Y;exact Vv z
structure RoomN(k:Nat)(A:gx):Prop where
 dp:A.depth+3*k+5<recursionLimit
 un:A.units+16*k+200<n7
 gd:A.guards=ap []
theorem Room.n(r:Room k A)(e:Option ax):RoomN k (A.mark e):=#[r.dp,r.un,r.gd]
theorem RoomN.deeper(r:RoomN (k+1) A)(env:Env):RoomN k (A.deeper env):=
 #[by have:=r.dp;show A.depth+1+3*k+5<_;lia,by have:=r.un;show A.units+3+16*k+200<_;lia,r.gd]
theorem RoomN.depth(r:RoomN k A):A.depth<recursionLimit:=by have:=r.dp;lia
theorem RoomN.units(r:RoomN k A):A.units+64<cLine:=by have:=r.un;lia
structure FnOkN(P:fx)(w:hB)(K:UE)(mg:ach)(base:h9)(CX:m4)(k:Nat)(f:eg)(fd:hG)(ps:ab')(sp:Sp):Prop where
 len:∀vs H Q E,sp vs H Q E->vs.length=ps.length
 run:∀(A:gx)(outer:List Env)(s:ez)(H:Hp)(args:Args)(us:aca)(vs:List V)(Q:VK)(E:XK),RoomN k A->Env0 P w K mg base A outer s H->abh s fd args (ps.zip us)->Vals vs us->sp vs H Q E->
  y' (fv P w) A (.call (.ref f) args) (CR CX outer P w H s Q E) s
noncomputable def vj(CX:m4)(P:fx)(w:hB)(K:UE)(mg:ach)(base:h9)(N:ab')(ab3:Str)(scope:pt)(f:eg)(cd:ax)(A:gx)(outer:List Env)(s:ez)(H:Hp)(E:XK):Cx where
 prog:=P
 w:=w
 K:=K
 mg:=mg
 base:=base
 A:=A.deeper (envOfC ab3 scope s.heap.objs.size f cd)
 N:=N
 s₀:=s
 H₀:=H
 env:=envOfC ab3 scope s.heap.objs.size f cd
 outer:=outer
 stack:=envOfC ab3 scope s.heap.objs.size f cd::outer
 ex:=[]
 calm:=eC
 fn:=λ_=>true
 pn:=[]
 xe:=λe c=>eS (fv P w) (A.deeper<|envOfC ab3 scope s.heap.objs.size f cd) (leaving (envOfC ab3 scope s.heap.objs.size f cd) e) (λ_ a=>CX outer H s E e a) (λb a=>CX outer H s E b a) c
theorem y6{K:UE}(S:FnScope N ps a)(e:Env0 P w K g base A b s H)(l:vs.length=ps.length)(r:Vals vs us)(x:InCallC s s.heap.objs.size (bindL (envOfC c a s.heap.objs.size f h).kindOf (ps.zip us) λ_=>ay) (ox (s.heap.objs.size+1) a.names []) (bindC (envOfC c a s.heap.objs.size f h).kindOf (ps.zip us) λ_=>ay) i):
  Inv (vj CX P w K g base N c a f h A b s H E) [] (start N vs) H i:=by
 have j:Env0 P w K g _ { A with handled:=ay } _ s H:=#[e.frames,e.mod,e.bs,e.bsz,e.funs,e.frf,e.hok,e.bare];have I:=qO (CX:=CX) (E:=E) S rfl j l r x;exact#[#[I.ok.mod,I.ok.kind,I.ok.glob,I.ok.blt,I.ok.above,I.ok.inj,I.ok.has,I.ok.cab,λz=>(Bool.noConfusion z),I.ok.frames,I.ok.stk,I.ok.exf,I.ok.bs,I.ok.bsz,I.ok.noex,I.ok.exfs,I.ok.funs,I.ok.frf],I.os,I.bare,I.base,I.loc,I.cell,I.free,I.freeC,I.pin,I.hok,I.len]
theorem PU{K:UE}{kV:ax}(lk:K.lookup f=ap #[oc,od,.func (WO m c h j a Z kV G pm an i ct),R])(U:X2 K i c=true)(S:FnScope N ps a)(len:∀vs H Q E,sp vs H Q E->vs.length=ps.length)(z:∀(A:gx)(g:List Env)(s:ez)(H:Hp)(vs:List V)(Q:VK)(E:XK),RoomN k (A.deeper<|envOfC c a s.heap.objs.size f i)->sp vs H Q E->
   ∃t,wk (vj CX P w K O base N c a f i A g s H E) j t/\t { nx:=λ_ H'=>Q .non H',rt:=Q } (start N vs) H):
  FnOkN P w K O base CX (k+1) f (WO m c h j a Z kV G pm an i ct) ps sp:=by
 refine#[len,λA g s H Y us vs Q E X C hb r F=>?_];have hl:=len _ _ _ _ F;have KX:=C.mod.kin.keeps λb o e=>(C.bs b o e).1;have I:=C.mod.nolimit.keeps λb o e=>(C.bs b o e).1;have p:∀y∈ps.zip us,a.names.lookup y.1=ap _\/(a.names.lookup y.1=ap _/\((ox (s.heap.objs.size+1) _ []).lookup y.1).isSome=true):=(by rintro⟨n,v⟩ hy;exact(by
  rcases S.par n (WE hy).1 with q|q
  .exact .inl q
  exact .inr #[q,WC _ _ _<|.inl q]))
 refine abW X.depth (KX _ _ lk) rfl S.co S.gen rfl (W.codeRec_of KX U) (hb _ _ _ _ ?_);refine abr S.kind p λenv he s1 x=>?_;subst he;refine#[I.keeps x.toInCall.keep,codeAny_func ?_];obtain⟨t,ht,hq⟩:=z A _ s H vs Q E (X.deeper _) F;refine kr (ht [] s1 _ H _ (y6 S C hl r x) hq) (λfl M B=>?_) λe M B=>B;have fin:∀{l:St}{H':Hp}{v:V}{u:ax},Inv (vj CX P w K O base N c a f i A g s H E) [] l H' M->RelV v u->Q v H'->CE _ P w H s Q u M:=
  λ{l H' v u} J L q=>#[v,H',J.os,J.bare,J.base,J.hok,L,q]
 cases fl with
 |ret u=>
  obtain⟨v,l,H',J,L,q⟩:=B;exact fin J L q
 |next=>
  obtain⟨l,H',J,q⟩:=B;exact fin (v:=V.non) J rfl q
 |_=>
  obtain⟨_,_,_,q⟩:=B;exact Vv q
theorem Gm(F:FnOkN X.prog X.w X.K X.mg X.base CX k f fd ps sp)(o:RoomN k X.A)(v:Gl X x)(z:X.mg x=ap (.ref f))(B:VJ X.K (.ref f)=true)(y:Binds X.K fd ps [])(G:bW CX X E)(C:PA X (e::es) t)(c:(x==("__debug__":Str))=false:=by decide)(he:eH (e::es) X.env=(eC,g3 e X.env)::eH es X.env:=by rfl)(hpl:(j0 pos<|starEach es X.env).any (·.1)=false:=by rfl):
  PE X (.Call (.Name x p) (e::es) [] pos) (NB sp [] E t):=by
 intro g s U H Q I h;refine lm (dF I v z ?_ c);refine Xg I.ok.mod.kin B (bE (C _ _ s U H _ I h) λus b ⟨l,H1,I1,r,q⟩=>#[I1.kIn,?_]) he hpl;rw[Vl]at q;have J:us.length=ps.length:=by rw[<- r.length];exact F.len _ _ _ _ q
 have a:=y b us I1.kIn (by simp_all)
 rw[Vl]at a;refine W1 (qa (F.run _ _ b H1 _ us l _ _ o I1.env0 a r q) λj m i=>?_);cases j with
 |ok fl=>
  cases fl with
  |ret u=>exact I1.after i
  |_=>assumption
 |error er=>exact G _ U H1 b er m I1 i
end _2
namespace _2
open PySem
theorem sZ:bH X (.builtin "isinstance") (λxs H Q=>∃ea C c a b,xs=[.ref ea,c]/\ExcH H C ea/\LX.XC X.K C/\(∀u,RelV c u->u=a)/\XJ X.K (.ref C) a=ap b/\Q (.bl b) H):=by
 rintro f s U H xs us Q I r ⟨ea,C,c,a,b,rfl,⟨o,l,j⟩,Z,m,e,q⟩
 obtain⟨u,w,rfl,h,p⟩:=r.two;obtain rfl:u=UY ea:=h;obtain rfl:=m _ p;obtain⟨g,_⟩:=(I.hok ea _ l);exact Wl (LX.FU Z) I.kIn #[g,j] e (by lia) λi=>#[.bl b,H,I.tok i,rfl,q]
end _2
namespace _3
open PySem _2
variable{K:UE}
section
variable{H:Hp}{M:Mem}
theorem J1(f:Frm M H M' H')(h:ExcH H C ea)(n:M ea=ay):ExcH H' C ea:=let ⟨o,a,b⟩:=h;#[o,(f.keep ea _ a n).1,b]
theorem ExcH.none{C ea:eg}(h:ExcH H C ea)(r:RepH K H M):M ea=none:=by
 obtain⟨o,a,_⟩:=h;cases q:M ea with
 |none=>rfl
 |some u=>
  have z:=r _ _ q;cases u with
  |ins c xs=>obtain⟨_,_,z,_⟩:=z;simp_all
  |_=>obtain⟨_,z,_⟩:=z;simp_all
def jo(K:UE)(C:eg)(c:D)(b:Bool):Prop:=match c with
 |.ref D=>XJ K (.ref C) (.ref D)=ap b
 |.ty T=>XJ K (.ref C) (.type T)=ap b
 |_=>False
def lC(ea:eg)(c:D)(b:Bool)(t:dG):bh:=λY M Q=>t Y M λa M1=>a=[.ref ea,c]/\Q (.bl b) M1
theorem Pq(z:∀M H,B.p M H->ExcH H C ea)(Z:LX.XC X.K C)(j:jo X.K C c b)(r:Gl X x)(A:X.mg x=ay)(y:fy x=ap (.builtin "isinstance"))(E:DA X B (e::es) t)(F:x≠"__name__":=by decide)(hdb:(x==("__debug__":Str))=false:=by decide)(he:eH (e::es) X.env=(eC,g3 e X.env)::eH es X.env:=by rfl)(hpl:(j0 pos<|starEach es X.env).any (·.1)=false:=by rfl):DE X B (.Call (.Name x p) (e::es) [] pos) (lC ea c b t):=by
 refine aT (vB sZ r A y E F hdb he hpl) ?_
 rintro U H Q ⟨Y,M,QQ,s,h,u⟩
 refine#[Y,M,_,s,h,λG M1 i I H1 f i1 m=>?_];obtain⟨rfl,i⟩:=i;obtain⟨v,w,rfl,o,g⟩:=Hm m;cases o;have l:=z _ _ (B.go s.i0 i1);cases c with
 |ref a=>cases g;exact#[ea,C,_,_,b,rfl,l,Z,λu q=>q,j,u _ M1 i _ H1 f i1 rfl]
 |ty T=>cases g;exact#[ea,C,_,_,b,rfl,l,Z,λu q=>q,j,u _ M1 i _ H1 f i1 rfl]
 |_=>exact j.elim
end
def iH(K:UE)(C:eg)(T:eg->Sd):Sp:=λa H Q E=>∃ea,ExcH H C ea/\a=[.ref ea]/\∃M QQ EE,RepH K H M/\T ea [.ref ea] M QQ EE/\Up K M H QQ Q/\UpX K M H EE E
theorem wI(c:ExcH H C ea)(h:calls (T ea) EE [.ref ea] M Q b)(rh:RepH K H M)(u:Up K M H Q QV)(ux:UpX K M H EE E):iH K C T [.ref ea] H QV E:=by
 obtain⟨M1,s,h⟩:=h.go;exact#[ea,c,rfl,M1,_,_,rh.sub s,h,λd M' q v H' a f=>u d _ (q<|rh.dis f) v H' (rh.plus s a f) (f.plus s),λC M' q H' a f=>ux C _ (q<|rh.dis f) H' (rh.plus s a f) (f.plus s)]
theorem RepS.unset(r:RepS K H Y U):RepS K H (Y.set i ay) (U.set i ay):=by
 refine#[by simp[r.len],λj e q=>?_]
 rw[Xr]at q ⊢
 by_cases a:i=j
 .simp_all
 rw[if_neg a]at q ⊢;exact r.get j e q
noncomputable def N7(dv:ab_):List D:=dv.map D.int
def sY(C:eg)(T:Sd)(m:Nat)(dv:ab_)(ta:dG)(i j l:Nat)(Tk:eg->Sd):av:=λD Y M=>Y[j]?.isSome=true/\ta Y M λa M1=>a.length+dv.length=m/\
 calls T (λC' M2=>C'=C/\∀ea,calls (Tk ea) (λ_ _=>False) [.ref ea] M2 (λd M3=>D.nx (((Y.set j<|some<|.ref ea).set l<|some d).set j ay) M3) #[]) (a++N7 dv) M1 (λd M2=>D.nx (Y.set i<|some d) M2) #[]
theorem Gh{K:UE}:∀dv:List Int,Rps K H (N7 dv) (dv.map V.int)
 |[]=>rfl
 |_::dv=>.cons rfl (Gh dv)
theorem Dt{dv:ab_}(hst:X.stack=X.env::X.outer)(hfL:X.env.frame=ap X.env.locals)(hex:X.ex=[])(F:FnOk X.prog X.w X.K X.mg X.base (kI X.prog X.w) k f fd ps (bC X.K m T))(hr:Room k X.A)(hg:Gl X x)(hm:X.mg x=ap (.ref f))(hk:VJ X.K (.ref f)=true)(hb:Binds X.K fd ps us)(hd:Vals (dv.map V.int) us)(ha:DA X.nox B (e::es) ta)(ES:XS X.K C S)(hgC:Gl X W)(hmC:X.mg W=ap (.ref S))(G:FnOkN X.prog X.w X.K X.mg X.base (kI X.prog X.w) k2 g fg pg (iH X.K C Tk))(hr2:Room k2 X.A)(hgg:Gl X J)(hmg:X.mg J=ap (.ref g))(hkg:VJ X.K (.ref g)=true)(hbg:Binds X.K fg pg [])(hN:X.N.Nodup)(hi:X.N[i]?=ap y)(hy:xH X.env.scope y)(hj:X.N[j]?=ap n)(hn:X.env.kindOf n=ap .local)(hl:X.N[l]?=ap z)(hz:xH X.env.scope z)(hdb:(x==("__debug__":Str))=eC)(hdC:(W==("__debug__":Str))=eC)(hdg:(J==("__debug__":Str))=eC)(hdn:(n==("__debug__":Str))=eC)(hcn:(n==("__classdict__":Str))=eC)(he:eH (e::es) X.env=(eC,g3 e X.env)::eH es X.env)(hpl:(j0 cp<|starEach es X.env).any (·.1)=eC)(hsw:mo (.Call (.Name x p) (e::es) [] cp) (ap<|.Name y yp) ep.line X.env=pure eC)(Q:mo (.Call (.Name J gp) [.Name n I] [] r) (ap<|.Name z zp) c.line X.env=pure eC)(hf:X.fn y=true\/X.env.scope.names.lookup y=ap .local)(hfn:X.fn n=true\/X.env.scope.names.lookup n=ap .local)(hfz:X.fn z=true\/X.env.scope.names.lookup z=ap .local):
  DS X B (.Try [.Assign [.Name y yp] (.Call (.Name x p) (e::es) [] cp) ep] [.ExceptHandler (ap<|.Name W np) (ap n) [.Assign [.Name z zp] (.Call (.Name J gp) [.Name n I] [] r) c] R] [] [] pos) (sY C T m dv ta i j l Tk):=by
 have hsu:∀ea:eg,wk (X.marked<|.ref ea) [.Assign [.Name z zp] (.Call (.Name J gp) [.Name n I] [] r) c] _:=λea=>
  CV (Hn (X:=X.marked (.ref ea)) hN hl hz (Gm (X:=X.marked (.ref ea)) (E:=E0) G (hr2.n _) hgg hmg hkg hbg t7 (tB (G_ (X:=X.marked (.ref ea)) hj (.inl hn) hdn hcn) y9) hdg) Q hfz)
 refine bR (Gi (C:=C) hst hfL hex (AE F) hr hg hm hk hb hd ha ES hgC hmC hsu hN hi hy hj hn hdb hdC he hpl hsw hf hfn) ?_
 rintro D U H ⟨Y,M,DD,s,⟨hjj,h⟩,up⟩
 refine#[Y,M,_,#[s.i0,s.rh,s.rs],h,λds M1 h1 vs H1 rh1 i1 r1=>?_]
 try dsimp only
 refine cF h1.2 rh1 (r1.append<|Gh dv) (by rw[UU,<- r1.length,UA];exact h1.1) (λd M2 P v H2 a i2 r2=>?_) λC' M2 P H2 a i2=>?_
 .have s2:=s.go a (i1.trans i2)
  exact up.nx _ _ P _ H2 (i1.trans i2) #[s2.i0,s2.rh,s2.rs.set r2]
 .obtain⟨rfl,P⟩:=P
  refine#[rfl,λea H3 h3 O hE=>?_];have fr:Frm M2 H2 M2 H3:=#[λb u q n=>#[by rw[h3 b (λz=>by rw[z,O]at q;cases q)];exact q,n]]
  have L:RepH X.K H3 M2:=λb o q=>(a b o q).keep (fr.imm a) (by
   obtain⟨u,hu⟩:=(a b o q).obj;rw[h3 b (λz=>by rw[z,O]at hu;cases hu)])
  have s3:=s.go L ((i1.trans i2).trans fr);have hj':j<U.length:=by
   rw[<- s.rs.len]
   simp_all
  show Q0 j (U.set j<|some<|V.ref ea) H3 _;unfold Q0;refine#[.ref ea,by rw[WS hj'],?_]
  show iH X.K C' Tk [V.ref ea] H3 _ E0;refine wI hE (P ea) L (λd M4 h4 v H4 rh4 i4 r4=>?_) (λ_ _ z=>z.elim);have f4:=((i1.trans i2).trans fr).trans i4;have Z:=s.go rh4 f4;exact up.nx _ _ h4 _ H4 f4 #[Z.i0,Z.rh,((Z.rs.set (d:=.ref ea) rfl).set r4).unset]
end _3
namespace _3
open PySem _2 _S
section
variable{X:Cx}
def tY:xF:=λx e M Q=>one e λa=>onB a λb=>so (dI M x) λc=>so (ke c) λbs=>Q (.int ((bs.countP (·==b):Nat):Int)) M
def sw:xF:=λx c M Q=>one c λa=>onB a λb=>so (dI M x) λe=>so (ke e) λbs=>bs.length<=1000/\so (bs.findIdx? (·==b)) λj=>Q (.int (j:Nat)) M
theorem oC(I:Inv X c U H s)(h:Rd H p (.lst vs)):∃(ab8:aca)(o:Array (Option ax))(n:Nat),Vals vs ab8/\s.heap.get? p=ap { cls:=.type "list",dict:=ay,data:=.seq ab8.toArray n,slots:=o }:=by
 obtain⟨ab8,f,⟨o,n,g,e,b,a⟩,_⟩:=I.list (.inl h);obtain⟨m,l,j,i⟩:=o;simp only at e b a;subst e b a;exact#[_,i,n,f,g]
theorem tE:∀{bs:List Bool}{ab8:aca},Vals (bs.map V.bl) ab8->ab8=bs.map X3
 |[],_,h=>by cases h;rfl
 |b::bs,_,h=>by
  cases h with
  |cons a r=>cases a;rw[tE r];rfl
theorem w8(bs:List Bool)(b:Bool):(bs.map X3).countP (λv=>match v with|.bool y=>y==b|_=>eC)=bs.countP (·==b):=by
 rw[List.countP_map];rfl
theorem EA:wO X "list.count" (liftM X tY):=by
 rintro e s U H x P v us Q I m K ⟨d,ds,M,QQ,f,r,J,h,j⟩
 unfold tY at h
 replace h:=h.inv;obtain⟨G,rfl,h⟩:=h
 replace h:=h.inv;obtain⟨b,rfl,h⟩:=h
 obtain⟨O,i,h⟩:=h.inv;obtain⟨bs,q,h⟩:=h.inv;obtain⟨w,rfl,c⟩:=gy (ds:=[]) J;cases c;obtain⟨p,N,rfl,E,C⟩:=eJ f r i;have:=iG C q;subst this;cases m;obtain⟨u,rfl,l⟩:=gD K;cases l;obtain⟨o,z,n,a,g⟩:=oC I E;have:=tE a;subst this
 refine ot YH #[_,g,rfl] PySem.F.entry_list_count (PySem.F.args_list_count_2 _ _)
  (SeqAt.list_countAt p _ n _ z _ λv=>match v with|.bool y=>y==b|_=>eC) #[g,λy L=>?_,?_]
 .obtain⟨A,_,rfl⟩:=UR.mp (by simpa using L:y∈bs.map _)
  exact Xx A b
 rw[w8];exact#[.int _,H,I.tok _,#[_,rfl],j _ M h _ H f Frm.refl rfl]
theorem DP:wO X "list.index" (liftM X sw):=by
 rintro f s U H x vs v us Q I z R ⟨d,ds,M,QQ,g,r,P,h,q⟩
 unfold sw at h
 replace h:=h.inv;obtain⟨O,rfl,h⟩:=h
 replace h:=h.inv;obtain⟨b,rfl,h⟩:=h
 obtain⟨xs,o,h⟩:=h.inv;obtain⟨bs,E,h⟩:=h.inv;obtain⟨W,h⟩:=h;obtain⟨j,i,h⟩:=h.inv;obtain⟨w,rfl,e⟩:=gy (ds:=[]) P;cases e;obtain⟨p,Z,rfl,L,K⟩:=eJ g r o;have:=iG K E;subst this;cases z;obtain⟨u,rfl,A⟩:=gD R;cases A;obtain⟨C,G,n,a,l⟩:=oC I L;have:=tE a;subst this;rw[Ye]at i;obtain⟨hj,e1,N⟩:=i
 refine ot YG #[_,l,rfl] PySem.F.entry_list_index (PySem.F.args_list_index_2 _ _)
  (SeqAt.list_indexAt p _ n _ G _ (λv=>match v with|.bool y=>y==b|_=>eC) j (by simp_all) (by lia) ?_ λm Y c=>?_) #[l,λy S=>?_,?_]
 .simp_all
 .simpa using (N m c)
 .obtain⟨J,_,rfl⟩:=UR.mp (by simpa using S:y∈bs.map _)
  exact Xx J b
 exact#[.int _,H,I.tok _,#[_,rfl],q _ M h _ H g Frm.refl rfl]
end
end _3
namespace _3
open PySem _2
theorem nX:fy "ValueError"=ap (.type "ValueError"):=by rfl
theorem xn(h:Vt K C=true):(W.clsIn K C).isSome=true:=by
 obtain⟨b,a,_⟩:=W.any_some h;rw[a];rfl
theorem eU{D:eg}(f:V2 K C (.ref C)=ap true)(a:Vt K D=true)(e:WJ K (.ref D)=ap (.type "type"))(c:V2 K C (.ref D)=ap b):jo K C (.ref D) b:=by
 show XJ K _ _=ap b;unfold XJ
 split
 .simp_all
 unfold W.kitCls;simp[xn a,e];exact c
theorem QC(a:V2 K C (.type "ValueError")=ap b):jo K C (.ty "ValueError") b:=by
 assumption
theorem Qs{bs:ab_}(e:Vals (bs.map V.int) ab8){i:Nat}(j:ab8.toArray[i]?=ap v):∃c t,bs[i]?=ap c/\v=.int c t:=by
 have a:ab8[i]?=ap v:=by simpa using j
 have f:=e.length;rw[UA]at f;have g:i<bs.length:=by
  have:=(Ve.mp a).1;lia
 obtain⟨l,b,h⟩:=e.get (by rw[UH,UC g];rfl)
 rw[a]at b;cases b;obtain⟨t,rfl⟩:=h;exact#[_,t,by simp_all,rfl]
theorem ig(bs:ab_):∀n,n<=bs.length->preSum (λi=>bs.getD i 0) n=(bs.take n).sum
 |0,_=>by simp[preSum]
 |n+1,h=>by
  rw[preSum,ig bs n (by lia),Yf _,Xf,UC (by lia),List.sum_append,List.sum_singleton]
  rfl
theorem qE:∀l:List Int,(∀x∈l,-b<=x/\x<=b)->-(l.length*b)<=l.sum/\l.sum<=l.length*b
 |[],_=>by simp
 |x::l,h=>by
  have f:=h x (by simp_all)
  have a:=qE l λy c=>h y (by simp_all)
  have e:((x::l).length)*b=b+l.length*b:=by
   rw[UO];push_cast;rw[Int.add_mul];lia
  rw[Wg];lia
def wo:qr:=λc M Q=>one c λd=>so (dI M d) λb=>so (jm b) λa=>(a.length<=1000/\∀x∈a,-1000000000000000<=x/\x<=1000000000000000)/\Q (.int a.sum) M
theorem EL(Y:X.calm=true):bH X (.builtin "sum") (liftC X wo):=by
 rintro m s U H xs us Q I r ⟨ds,M,QQ,E,J,h,F⟩
 unfold wo at h
 replace h:=h.inv;obtain⟨_,rfl,h⟩:=h
 obtain⟨v,rfl,R⟩:=gy (ds:=[]) J;obtain⟨ys,e,h⟩:=h.inv;obtain⟨q,vs,rfl,L,N⟩:=eJ E R e;obtain⟨a,O,h⟩:=h.inv;obtain⟨⟨Z,y⟩,h⟩:=h;have:=xw N O;subst this;obtain⟨u,rfl,G⟩:=gD r;cases G;obtain⟨g,w,p,hz⟩:=I.list (.inl L);have z:=w.length;have f:q<s.heap.objs.size:=by obtain⟨o,e,_⟩:=p.isList;exact UD e
 have l:g.toArray.size=a.length:=by simp_all
 refine call_sum_walk (w6 p.isList #[_,_,_,_,_,_,λi=>a.getD i 0,rfl,Walks.list (A:=X.A.in1) (I.ok.hd Y) _ q (UT f) _,#[#[_,UI _ rfl,rfl,rfl],p.isList.push _],?_,λi v S=>?_,λj hj=>?_,λh' tk t' W=>?_])
 .intro b hb
  simp at hb;rcases hb with hb|hb
  .simp_all
  show _<(s.heap.objs.push _).size;rw[Array.size_push,hb];exact WX f
 .obtain⟨c,t,h1,rfl⟩:=Qs w S
  simp_all
 .have b1:-1000000000000000<=a.getD j 0/\a.getD j 0<=1000000000000000:=by
   exact y _ (by simp_all)
  have b2:=qE (a.take (j+1)) λx P=>y x (List.mem_of_mem_take P);have b3:((a.take (j+1)).length)<=1000:=by simp;lia
  rw[ig a _ (by lia)]
  show InLong (a.getD j 0)/\_;unfold InLong;lia
 .rw[l,ig a _ (by lia),List.take_length]
  exact#[.int _,H,I.kept λb o hb=>W b o (by simp;exact UT (UD hb)) (UB _ hb),#[_,rfl],F _ M h _ H E Frm.refl rfl]
theorem KS:fy "sum"=ap (.builtin "sum"):=PyProof.Rows.boot_sum
def uV:xF:=λx b M Q=>onR x λa=>nil0 b (mL (M a) λ_=>Q .non (M.upd a<|.lst []))
theorem ED:wO X "list.clear" (liftM X uV):=by
 rintro ab2 s U H x vs v us Q I rx rv ⟨d,ds,M,QQ,rh,r,rs,h,up⟩
 unfold uV at h
 replace h:=h.inv;obtain⟨a,rfl,h⟩:=h
 replace h:=h.inv;obtain⟨rfl,h⟩:=h
 cases r;cases rs;obtain⟨xs,hM,h⟩:=h.inv;obtain⟨ws,h1,h2⟩:=rh _ _ hM;exact Gz _ s U H _ _ v us Q I rx rv #[a,ws,rfl,rfl,h1,up _ _ h _ _ (rh.put (by rw[h1];trivial) #[[],upd_same,rfl]) (Frm.put<|.inr #[_,hM]) rfl]
def sJ(C:eg)(ta tv:bh)(f:Str):av:=λD Y M=>ta Y M λx M1=>onR x λa=>mN (M1 a) λC' fs=>C'=C/\fs.length<1000/\so (fs.lookup f) λb=>onI b λi=>tv Y M1 λy M2=>onI y λj=>M2 a=ap (.ins C fs)/\D.nx Y (M2.upd a<|.ins C<|b_ f (.int (i+j)) fs)
theorem EJ(c:Cls X.K C)(n:NoAttr X.K C f)(ha:DE X B o ta)(hv:DE X B value tv):DS X B (.AugAssign (.Attribute o f tpos) .Add value pos) (sJ C ta tv f):=by
 refine bR (qX ha hv Ou) ?_
 rintro D U H ⟨Y,M,DD,s,h,up⟩
 refine#[Y,M,_,s,h,λx M1 h1 v1 H1 rh1 i1 r1=>?_]
 replace h1:=h1.inv;obtain⟨a,rfl,h1⟩:=h1
 cases r1;obtain⟨C',fs,hM,h1⟩:=h1.inv;obtain⟨rfl,hl,h1⟩:=h1;obtain⟨w21,hf,h1⟩:=h1.inv
 replace h1:=h1.inv;obtain⟨i,rfl,h1⟩:=h1
 obtain⟨dx,ws,e1,e2⟩:=rh1 _ _ hM;obtain⟨z,_⟩|⟨d,w,hd,hw,rw1⟩:=e2.lookup f
 .simp_all
 rw[hf]at hd;cases hd;cases rw1;refine#[a,C',dx,ws,_,rfl,e1,c,n,hw,Y,M1,_,s.go rh1 i1,h1,λy M2 h2 v2 H2 rh2 i2 r2=>?_]
 replace h2:=h2.inv;obtain⟨j,rfl,h2⟩:=h2
 cases r2;obtain⟨hM2,h2⟩:=h2;obtain⟨dx2,ws2,e3,e4⟩:=rh2 _ _ hM2;have i3:Frm M2 H2 (M2.upd a<|.ins C'<|b_ f (.int (i+j)) fs) (upd H2 a<|.ins C' dx2<|_2.dJ f (.int (i+j)) ws2):=Frm.put (by simp_all)
 exact#[i,j,rfl,rfl,_,_,e3,by rw[<- e4.length];exact hl,up.nx _ _ h2 U _ ((i1.trans i2).trans i3)<|s.go (rh2.put (by rw[e3];trivial) #[_,_,upd_same,(kG (by trivial) e4).mono<|i3.imm rh2])<|(i1.trans i2).trans i3]
end _3
namespace _2
open PySem PySem.Spec PyProof.Rows _S
theorem Ux(I:Inv X a U H s)(e:H d=ap (.frz b<|.dT ab4))(m:b.data=.dict es l):
  s.heap.get? d=ap b/\∃xs:List (List aI×eg×ax),KT H ab4 xs/\es.toList=xs.map (entryOfKey<|tupleKind<|aV X.prog X.w):=by
 obtain⟨g,_,_,xs,r,o,j,h,c,_,f,i,_⟩:=(I.hok d _ e);rw[g]at c;cases c;rw[m]at f;cases f;exact#[g,xs,r,i]
end _2
namespace _S
open PySem PySem.W PySem.Calls PyProof.Rows PyProof.V PySem.Spec _2
abbrev P5(h:h9)(a:eg)(ab8:aci)(n:Nat):Prop:=h.get? a=ap { cls:=.type "list",dict:=ay,data:=.seq ab8 n,slots:=(tX []) }
theorem pU(j:P5 s.heap a ab8 n)(r:A.handled=ay)
  (h:∀h' l,(∀b o,s.heap.get? b=ap o->h'.get? b=ap o)->Q ay { s with heap:=h',toks:=l }):eS (fv prog w) A (Wp (.ref a) "keys") Q E s:=by
 obtain⟨m,g,d,l,q⟩:=s;have i:∀c,(#[m,g,d,c,q]:ez).TypeIs (.ref a) "list":=λ_=>#[_,j,rfl];have p:=sub_AttributeError;have B:=WV.lookup;have y:=WV.bind (.ref a);have z:=am_list_getattr_none;unfold Wp getAttrBy? getAttrBy
 repeat (any_goals (first|assumption|exact i _|((with_reducible show eS _ _ (call (Value.builtin "list.__getattribute__") _ _) _ _ _);refine ot WV (i _) am_entry_list_getattribute (PySem.F.args_list_getattribute_2 _ _) (meets_getattribute_miss_list a ab8 n (tX []) "keys" _ (by rfl) (by decide +kernel) (by decide +kernel)) #[j,r,λh' c e f=>?_])|wp_step))
 obtain⟨u,v,x⟩:=f.there;show eS _ _ (L' _ _ _ _ _ _ _) _ _ _;unfold L'
 repeat (any_goals (first|assumption|wp_step))
 exact h _ _ f.keeps
theorem xW{s:ez}{Ts:acb}(P:Ts.length=f.length)(B:P5 s.heap l (Ts.map UY).toArray m)(C:∀(i:Nat)(v:i<Ts.length)(j:i<f.length),yF s.heap Ts[i] f[i].1 f[i].2):
  ∀(A':gx)(s':ez)(Q:acf)(E:acf),(∀b o,s.heap.get? b=ap o->s'.heap.get? b=ap o)->s.heap.objs.size<s'.heap.objs.size->
   (∀h' O R St,(∀b o,s'.heap.get? b=ap o->h'.get? b=ap o)->PSrc u w s.heap.objs.size O f R St->St 0 h'->(∀b∈R,b∈[]\/s.heap.objs.size<b)->Q (.ref O) { s' with heap:=h' })->eS (fv u w) A' (abj<|.ref l) Q E s':=by
 intro A' s' Q E I lt k;have ne:∀{b o},s.heap.get? b=ap o->b≠s.heap.objs.size/\b≠s'.heap.objs.size:=λe=>#[UT (UD e),UT<|Zk (UD e) lt];have y:s'.heap.IsList l (Ts.map UY).toArray:=#[_,I _ _ B,rfl,m,rfl];have N:∀{h h':h9}(b:eg),(∀c o,c≠b->h.get? c=ap o->h'.get? c=ap o)->(∀{c o},s.heap.get? c=ap o->c≠b)->h.IsList l (Ts.map UY).toArray/\(∀(i:Nat)(v:i<Ts.length)(j:i<f.length),yF h Ts[i] f[i].1 f[i].2)->h'.IsList l (Ts.map UY).toArray/\∀(i:Nat)(v:i<Ts.length)(j:i<f.length),yF h' Ts[i] f[i].1 f[i].2:=by
  intro h h' b k n q;obtain⟨⟨o,F,G⟩,p⟩:=q;refine#[#[o,k _ _ (n B) F,G],λi v j=>?_];obtain⟨o,x,e,r⟩:=p i v j;obtain⟨_,_,U,_⟩:=C i v j;exact#[o,x,k _ _ (n U) e,r]
 refine w6 y (k _ s'.heap.objs.size [s'.heap.objs.size] (λi h=>h.IsListIter s'.heap.objs.size l i/\h.IsList l (Ts.map UY).toArray/\∀(i:Nat)(v:i<Ts.length)(j:i<f.length),yF h Ts[i] f[i].1 f[i].2) (λb o e=>UB _ e) #[by simp;exact UT lt,λi h h' g k=>#[g.1.at λo e=>k _ o (Ww lt) e,N _ k (λe=>(ne e).1) g.2],?_,?_] #[#[_,UI _ rfl,rfl,rfl],?_,λi v j=>?_] λb L=>.inr (by simp at L;subst L;exact lt))
 .intro A i M W Q E J _ g H
  refine abL (x:=.ref Ts[i]) g.1 g.2.1 (by simp[P,M]) λh' z K=>?_
  obtain⟨a,b⟩:=N _ (λc o S e=>K.extBut c o S e) (λe=>(ne e).2) g.2;exact H h' Ts[i] #[z,a,b] (b i (by lia) M) λc o n e=>K.extBut c o (by simpa using n) e
 .exact λA W Q E J g H=>abU J g.1 g.2.1 (by simp[P]) λh' k=>H h' λc o n e=>k c o (by simpa using n) e
 .obtain⟨o,F,G⟩:=y
  exact#[o,UB _ F,G]
 .obtain⟨o,n,e,r⟩:=C i v j
  exact#[o,n,UB _ (I _ _ e),r]
end _S
namespace _2
open PySem PySem.Spec PyProof.Rows _S
inductive PrK(H:Hp):List V->List (aI×V)->Prop
 |nil:PrK H [] []
 |cons {T:eg} {k:aI} {x:V} {vs:List V} {ab4:List (aI×V)} (hT:H T=ap (.tup [kV k,x])) (r:PrK H vs ab4):PrK H (.ref T::vs) ((k,x)::ab4)
theorem Inv.pair(I:Inv X ab2 U H s)(h:H T=ap (.tup [y,x])):∃k v,RelV y k/\RelV x v/\yF s.heap T k v:=by
 obtain⟨_,a,r,o,e,⟨c,n,d⟩,_⟩:=(I.hok T _ h);obtain⟨k,v,rfl,f,b⟩:=r.two;exact#[k,v,f,b,o,n,e,c,d]
theorem Inv.prK(I:Inv X ab2 U H s):∀{vs:List V}{ab4:List (aI×V)},PrK H vs ab4->∃(Ts:acb)(rs:List (aI×ax×ax)),vs=Ts.map V.ref/\KV ab4 (rs.map λr=>(r.1,r.2.2))/\Ts.length=rs.length/\(∀r∈rs,(aV X.prog X.w).is r.1 r.2.1=true)/\∀(i:Nat)(l:i<Ts.length)(j:i<rs.length),yF s.heap Ts[i] rs[i].2.1 rs[i].2.2
 |_,_,.nil=>#[[],[],rfl,.nil,rfl,by simp,λi h=>absurd h (YE _)]
 |_,_,.cons (T:=T) (k:=k) hT r=>by
  obtain⟨Ts,rs,rfl,q,a,b,c⟩:=I.prK r;obtain⟨g,v,f,e,p⟩:=I.pair hT;refine#[T::Ts,(k,g,v)::rs,rfl,.cons #[rfl,e] q,by simp[a],λr hr=>?_,λi l j=>?_]
  .rcases UK.mp hr with rfl|hr
   .exact jK f
   exact b r hr
  cases i with
  |zero=>exact p
  |succ i=>exact c i _ _
theorem Inv.ls(I:Inv X ab2 U H s)(e:Rd H l (.lst vs)):∃ab8 n,Vals vs ab8/\P5 s.heap l ab8.toArray n:=by
 obtain⟨_,ab8,n,r,q⟩:=(e.ok I.hok);exact#[_,n,r,q]
theorem yO(B:X.calm=true):bH X (.type "dict") (λxs H Q=>∃l vs ab4,xs=[.ref l]/\Rd H l (.lst vs)/\PrK H vs ab4/\ab4.length<=1000000/\∀p,H p=ay->Q (.ref p) (upd H p<|.dK<|ab4.foldl (λa p=>fT a p.1 p.2) [])):=by
 rintro ab2 s U H xs us Q I r ⟨l,vs,ab4,rfl,o,w,E,q⟩
 obtain⟨u,rfl,A⟩:=r.one;cases A;obtain⟨Ts,y,rfl,j,e,b,h⟩:=I.prK w;obtain⟨f,n,z,c⟩:=I.ls o;obtain rfl:f=Ts.map _:=rf z;have g:y.length<=1000000:=by have:=WA j;simp_all
 refine pW B I rfl rfl rfl (by lia) (by lia) (by simp) j b g #[_,c,rfl] (by decide) (λA' F Q' E' v m=>pU (m _ _ c) v) (xW (by simp[e]) c λi x C=>?_) q
 simp;exact h i x _
end _2
namespace _3
open PySem _2 _S
def wz:List D->Option (List (aI×D))
 |[]=>ap []
 |.tup [k,v]::ds=>match cW k,wz ds with
  |some ks,ap r=>ap ((ks,v)::r)
  |_,_=>ay
 |_=>ay
theorem FE:∀{ds:List D}{vs:List V}{ab4:List (aI×D)},Rps K H ds vs->wz ds=ap ab4->∃i,PrK H vs i/\Rkv K H ab4 i
 |[],vs,ab4,r,e=>by cases e;cases r;exact#[[],.nil,.nil]
 |d::ds,vs,ab4,r,e=>by
  obtain⟨v,A,rfl,a,b⟩:=r;unfold wz at e
  split at e
  .trivial
  .rename_i k x m h
   cases h
   split at e
   .rename_i C q o u
    cases e;obtain⟨i,y,p⟩:=FE b u;obtain⟨T,us,rfl,s,w⟩:=a;obtain⟨E,l,rfl,f,c⟩:=w;obtain⟨z,j,rfl,c,g⟩:=c;cases g;have:=iF f o;subst this;exact#[_,.cons s y,.cons #[rfl,c] p]
   cases e
  cases e
theorem HE[DecidableEq c](h:Rkv K H a b):∀{a0:List (c×D)}{b0:List (c×V)},Rkv K H a0 b0->Rkv K H (a.foldl (λx p=>fU x p.1 p.2) a0) (b.foldl (λx p=>fT x p.1 p.2) b0):=by
 induction h with
 |nil=>exact λh=>h
 |@cons p q _ _ h t ih=>
  intro a0 b0 e;rw[V1,V1];refine ih ?_;rw[<- h.1];exact e.put _ h.2
theorem Jy(f:RepH K H M)(r:Rp K H d v)(e:dI M d=ap xs)(g:∀ys,d≠.ml ys):∃l vs,v=.ref l/\Rd H l (.lst vs)/\Rps K H xs vs:=by
 cases d with
 |lst ys=>
  cases e;obtain⟨p,vs,rfl,⟨o,h⟩,r⟩:=r;exact#[p,vs,rfl,.inr #[o,h],r]
 |ml ys=>exact absurd rfl (g ys)
 |ref a=>
  simp only[dI]at e
  split at e
  .rename_i ys q
   cases e;cases r;obtain⟨vs,c,b⟩:=f _ _ q;exact#[a,vs,rfl,.inl c,b]
  .cases e
 |_=>cases e
noncomputable def Ic:D->Bool
 |.ml _=>eC
 |_=>true
theorem LA(h:Ic d=true):∀ys,d≠.ml ys:=λys e=>by subst e;cases h
def h7:qr:=λc M Q=>one c λd=>Ic d=true/\so (dI M d) λb=>so (wz b) λab4=>ab4.length<=1000000/\∀p,M p=ay->Q (.ref p) (M.upd p<|.dK<|ab4.foldl (λa p=>fU a p.1 p.2) [])
theorem vK(hc:X.calm=true):bH X (.type "dict") (liftC X h7):=by
 rintro ab2 s U H xs us Q I r ⟨ds,M,QQ,rh,rp,h,up⟩
 unfold h7 at h;obtain⟨_,rfl,h⟩:=h.inv;obtain⟨v,rfl,rv⟩:=gy (ds:=[]) rp;obtain⟨hm,h⟩:=h;obtain⟨ys,e,h⟩:=h.inv;obtain⟨ab4,e2,h⟩:=h.inv;obtain⟨l,vs,rfl,hq,rr⟩:=Jy rh rv e (LA hm);obtain⟨ws,h1,h2⟩:=FE rr e2;exact yO hc _ s U H _ us Q I r #[l,vs,ws,rfl,hq,h1,by rw[<- h2.length];exact h.1,λp hp=>up _ _ (h.2 p<|rh.fresh hp) _ _ (rh.put (by rw[hp];trivial) #[_,upd_same,(HE h2 .nil).mono<|Imm.new hp]) (Frm.put<|.inl hp) rfl]
end _3
namespace _3
open PySem PySem.W PySem.Calls PyProof.Rows PyProof.V PySem.Spec _2
def pA:qr:=λa M Q=>one a λd=>br 60 (dv M d)=true/\(fw<|dv M d).showable=true/\(fw<|dv M d).shown.length<=sizeLine/\Q (.str (fw<|dv M d).shown) M
theorem xT(z:X.A.guards=ap [])(N:X.A.units+64<n7):bH X (.builtin "repr") (liftC X pA):=by
 rintro ab2 s U H w us Q I r ⟨ds,M,QQ,y,E,h,C⟩
 unfold pA at h;obtain⟨d,rfl,h⟩:=h.inv;obtain⟨l,f,g,h⟩:=h;obtain⟨v,rfl,G⟩:=gy (ds:=[]) E;obtain⟨u,rfl,K⟩:=gD r;have q:=pj I y l G K;have F:=wb 60 _ l;obtain⟨L,m⟩:=wP _ _ q;have fin:∀(t:Tok)(c:Nat)(a:h9),(∀b o,s.heap.get? b=ap o->a.get? b=ap o)->EP X _ U Q (.str _ t) _:=λt c a J=>
  #[.str _,H,I.kept (t':=c) J,#[_,rfl],C _ M h _ H y Frm.refl rfl]
 generalize dv M d=e at l f g q F m fin;cases e with
 |non=>cases q;exact PySem.P.repr_of_none (fin _ _ _ λ_ _ e=>e)
 |bl b=>cases q;exact PySem.P.repr_of_bool (fin _ _ _ λ_ _ e=>e)
 |int i=>
  obtain⟨t,rfl⟩:=q;exact PySem.P.repr_of_int (by simpa [fw,WD] using f) (fin _ _ _ λ_ _ e=>e)
 |str x=>
  obtain⟨t,rfl⟩:=q;exact PySem.P.repr_of_str (fin _ _ _ λ_ _ e=>e) g
 |tup w=>
  obtain⟨p,j,rfl,_⟩:=q;exact repr_of_reads' m f (Zt<|xO _) z (by lia) (by lia) (λa u c=>fin u c a) g
 |lst w=>
  obtain⟨p,j,rfl,_⟩:=q;exact repr_of_reads' m f (Zt<|xO _) z (by lia) (by lia) (λa u c=>fin u c a) g
 |_=>exact q.elim
end _3
namespace _3
open PySem _2
def j7:List D->List D->List D->List D
 |x::xs,y::ys,u::us=>.tup [x,y,u]::j7 xs ys us
 |_,_,_=>[]
theorem rG:∀{xs ys us:List D}{i:Nat}{d:D},(j7 xs ys us)[i]?=ap d->∃x y u,xs[i]?=ap x/\ys[i]?=ap y/\us[i]?=ap u/\d=.tup [x,y,u]
 |x::xs,y::ys,u::us,0,d,h=>by simp[j7]at h;simp_all
 |x::xs,y::ys,u::us,i+1,d,h=>by simp only[Uz]at h ⊢;exact rG h
 |[],_,_,_,_,h=>by trivial
 |_::_,[],_,_,_,h=>by trivial
 |_::_,_::_,[],_,_,h=>by trivial
theorem rq:∀{xs ys us:List D}{i:Nat},(j7 xs ys us).length<=i->xs.length<=i\/ys.length<=i\/us.length<=i
 |x::xs,y::ys,u::us,0,h=>by trivial
 |x::xs,y::ys,u::us,i+1,h=>by
  have:=rq (by simpa [j7] using h)
  simp_all
 |[],_,_,_,_=>.inl (by simp)
 |_::_,[],_,_,_=>.inr (by simp_all)
 |_::_,_::_,[],_,_=>.inr (by simp_all)
def HB(t:dG):yM:=λY M R=>t Y M λc M1=>cns c λd r=>two r λe f=>so (aO M1 d) λb=>so (aO M1 e) λa=>so (aO M1 f) λus=>R #[j7 b a us,cH d b++(cH e a++cH f us)] M1
theorem Lk(v:Gl X "zip")(w:X.mg "zip"=ay)(C:DA X B [a,b,c] l)
  (A:eH [a,b,c] X.env=[(eC,g3 a X.env),(eC,g3 b X.env),(eC,g3 c X.env)]:=by rfl) (hs2:eH [b,c] X.env=[(eC,g3 b X.env),(eC,g3 c X.env)]:=by rfl):
  DI X B (.Tuple g F E) (.Call (.Name "zip" p) [a,b,c] [] pos) (HB l):=by
 refine AJ (λG M1 R h=>?_) v w C (by rw[A,hs2]) (by rw[hs2];rfl)
 replace h:=h.inv;obtain⟨d,r,rfl,h⟩:=h
 replace h:=h.inv;obtain⟨e,f,rfl,h⟩:=h
 obtain⟨N,o,h⟩:=h.inv;obtain⟨I,q,h⟩:=h.inv;obtain⟨us,m,h⟩:=h.inv;refine#[_,_,.inr rfl,.cons o (.cons q<|.cons m .nil),#[λi z s=>?_,λi j=>?_],by simpa [xL] using h]
 .obtain⟨x,y,u,J,L,M,rfl⟩:=rG s
  simp_all
 simpa using (rq j)
end _3
namespace _3
open PySem _2
variable{x:Str}
structure GF(K:UE)(mg:ach)(x:Str)(st:om)(f:eg)(fd:hG)(ps:ab'):Prop where
 F:Fun K x x st f fd
 b:Binds K fd ps []
 k:VJ K (.ref f)=true
 m:mg x=ap (.ref f)
structure GA(K:UE)(mg:ach)(x y:Str)(st:om)(f:eg)(fd:hG)(ps:ab'):Prop where
 F:Fun K y y st f fd
 b:Binds K fd ps []
 k:VJ K (.ref f)=true
 m:mg x=ap (.ref f)
structure FunV(K:UE)(x ab3:Str)(st:om)(f:eg)(fd:hG):Prop where
 ex:∃(oc:ax)(od:Option eg)(kV doc pm:ax)(an:Option eg)(cdv ct:ax)(osl:Array (Option ax))(T:eg),
  fd=WO x ab3 (cj st) (bt st) (aJ st) (.ref T) kV doc pm an cdv ct/\K.lookup f=ap #[oc,od,.func fd,osl]/\X2 K cdv ab3=true
 kp:VJ K (.ref f)=true
structure GV(K:UE)(mg:ach)(x:Str)(st:om)(f:eg)(fd:hG)(ps:ab')(dv:Int):Prop where
 F:FunV K x x st f fd
 b:Binds K fd ps []
 d:∃t,Binds K fd ps [.int dv t]
 k:VJ K (.ref f)=true
 m:mg x=ap (.ref f)
inductive GC(K:UE)(mg:ach)(x:Str)(st:om)(f:eg)(fd:hG)(ps:ab'):Prop
 |g (h:GF K mg x st f fd ps):GC K mg x st f fd ps
 |a {y:Str} (h:GA K mg x y st f fd ps):GC K mg x st f fd ps
 |v {dv:Int} (h:GV K mg x st f fd ps dv):GC K mg x st f fd ps
structure GM(K:UE)(C:eg)(x ab3:Str)(st:om)(f:eg)(fd:hG)(ps:ab'):Prop where
 F:Fun K x ab3 st f fd
 b:Binds K fd ps []
 m:Meth K C x f
structure GI(K:UE)(C:eg)(x ab3:Str)(st:om)(f:eg)(fd:hG)(ps:ab'):Prop where
 F:Fun K x ab3 st f fd
 b:Binds K fd ps []
 m:Mk K C f
def R6(X:Cx)(B:Bd)(x:Str)(T:Sd)(EE:DX)(n:Nat):Prop:=∃(st:om)(f:eg)(fd:hG)(ps:ab')(k:Nat)(CX:m4)(E:XK),GC X.K X.mg x st f fd ps/\FnOk X.prog X.w X.K X.mg X.base CX k f fd ps (bC X.K n T)/\Room k X.A/\bW CX X E/\tm X.K B EE E
theorem Fq(h:R6 X B x T EE n)(i:Gl X x)(l:DA X B (e::es) t)(a:(x==("__debug__":Str))=eC)(j:eH (e::es) X.env=(eC,g3 e X.env)::eH es X.env)(b:(j0 pos<|starEach es X.env).any (·.1)=eC):
  DE X B (.Call (.Name x p) (e::es) [] pos) (aj T EE n t):=by
 obtain⟨_,_,_,_,_,_,_,h,F,c,g,ux⟩:=h;exact (λh F j l u ux s c q i=>by
    cases h with
    |g h=>exact uc F j l h.m h.k h.b u ux s c q i
    |a h=>exact uc F j l h.m h.k h.b u ux s c q i
    |v h=>exact uc F j l h.m h.k h.b u ux s c q i) h F c i g ux l a j b
theorem Hi(h:GI X.K C ab3 x st f fd ps)(F:FnOk X.prog X.w X.K X.mg X.base CX k f fd ps (bC X.K n T))(g:Room (k+1) X.A)(i:Gl X y)(l:X.mg y=ap (.ref C))(s:bW CX X E)(ux:tm X.K B EE E)(q:DA X B (e::es) t)(a:(y==("__debug__":Str))=eC)(j:eH (e::es) X.env=(eC,g3 e X.env)::eH es X.env)(c:(j0 pos<|starEach es X.env).any (·.1)=eC):
  DE X B (.Call (.Name y p) (e::es) [] pos) (iW C T EE n t):=KW h.m F g i l h.b s ux q a j c
theorem IN(j:DE X B o ta)(c:Cls X.K C)(h:GM X.K C m ab3 st f fd ps)(F:FnOk X.prog X.w X.K X.mg X.base CX k f fd ps (bC X.K n T))(i:Room k X.A)(s:bW CX X E)(ux:tm X.K B EE E)(q:DA X B (e::es) t)(a:eH (e::es) X.env=(eC,g3 e X.env)::eH es X.env)(g:(j0 pos<|starEach es X.env).any (·.1)=eC)(l:g3 (.Call (.Attribute o m ab7) (e::es) [] pos) X.env=(do
   let ov <- g3 o X.env
   R' ab7.atName
   let (f,first) <- py [ov] (G' ov m pl)
   abg pos f first (j0 pos<|starEach (e::es) X.env) (rc pos<|keywordEach [] X.env))):
  DE X B (.Call (.Attribute o m ab7) (e::es) [] pos) (dA C m T EE n ta t):=Jg j c h.m F i h.b s ux q a g l
theorem Ez(g:DE X B o ta)(c:Cls X.K C)(h:GM X.K C m ab3 st f fd ps)(F:FnOk X.prog X.w X.K X.mg X.base CX k f fd ps (bC X.K n T))(a:Room k X.A)(i:bW CX X E)(ux:tm X.K B EE E)(j:g3 (.Call (.Attribute o m ab7) [] [] pos) X.env=(do
   let ov <- g3 o X.env
   R' ab7.atName
   let (f,first) <- py [ov] (G' ov m pl)
   abg pos f first (j0 pos<|starEach [] X.env) (rc pos<|keywordEach [] X.env))):
  DE X B (.Call (.Attribute o m ab7) [] [] pos) (dA C m T EE n ta ag):=G5 g c h.m F a h.b i ux j
inductive FC(X:Cx)(scope:pt):List Str->List Nat->List (Str×eg)->Prop
 |nil:FC X scope [] [] []
 |cons {x:Str} {j:Nat} {c:eg} {fs:ab'} {js:List Nat} {cl:List (Str×eg)}:X.N[j]?=ap x->X.env.cells.lookup x=ap c->(X.env.kindOf x=ap .cell\/X.env.kindOf x=ap .free)->
   ((UF scope X.env).names.lookup x=ap .cell\/(UF scope X.env).names.lookup x=ap .free)->FC X scope fs js cl->FC X scope (x::fs) (j::js) ((x,c)::cl)
theorem FC.ok(h:FC X g fs l j):Frees X g fs l/\∃i:List eg,fs.length=i.length/\j=fs.zip i/\∀p∈j,X.env.cells.lookup p.1=ap p.2:=by
 induction h with
 |nil=>exact#[.nil,[],rfl,rfl,(λ_ h=>by cases h)]
 |cons a b c d _ ih=>
  obtain⟨u,i,q,s,m⟩:=ih;exact#[.cons a c d u,_::i,congrArg _ q,by rw[s];rfl,memC b m]
theorem Ly(h:GF X.K X.mg x st f fd ps)(F:FnOk X.prog X.w X.K X.mg X.base (kI X.prog X.w) k f fd ps (bC X.K n T))(v:X.stack=X.env::X.outer)(s:X.env.frame=ap X.env.locals)(P:Room k X.A)(S:Gl X x)(O:DA X.nox B (e::es) t)(EX:ExcAt X.K C)(I:Gl X l)(J:X.mg l=ap (.ref C))(z:∀ea:eg,xI (X.marked<|.ref ea) B (c::a) M)(y:(x==("__debug__":Str))=eC)(q:(l==("__debug__":Str))=eC)(Q:eH (e::es) X.env=(eC,g3 e X.env)::eH es X.env)(H:(j0 G<|starEach es X.env).any (·.1)=eC)(u:mo (.Call (.Name x p) (e::es) [] G) ay L.line X.env=pure eC):
  DS X B (.Try [.Expr (.Call (.Name x p) (e::es) [] G) L] [.ExceptHandler (ap<|.Name l R) ay (c::a) j] [] [] pos) (Qw C T n t M):=yD v s F P S h.m h.k h.b O EX I J z y q Q H u
section
variable{id:String}
theorem cI(l:bH X (.builtin id) (liftC X r))(c:fy x=ap (.builtin id))(g:Gl X x)(h:X.mg x=ay)(i:DA X B (e::es) t)(j:x≠"__name__")(a:(x==("__debug__":Str))=eC)(f:eH (e::es) X.env=(eC,g3 e X.env)::eH es X.env)(b:(j0 pos<|starEach es X.env).any (·.1)=eC):DE X B (.Call (.Name x p) (e::es) [] pos) (bc r t):=HI l g h c i j a f b
theorem gj(l:bH X (.type T) (liftC X r))(c:fy x=ap (.type T))(g:Gl X x)(h:X.mg x=ay)(i:DA X B (e::es) t)(j:x≠"__name__")(a:(x==("__debug__":Str))=eC)(f:eH (e::es) X.env=(eC,g3 e X.env)::eH es X.env)(b:(j0 pos<|starEach es X.env).any (·.1)=eC):DE X B (.Call (.Name x p) (e::es) [] pos) (bc r t):=DU l g h c i j a f b
theorem lB(a:fy x=ap (.type T))(b:Gl X x)(c:X.mg x=ay)(g:x≠"__name__")(f:(x==("__debug__":Str))=eC):DE X B (.Name x pos) (dC<|.ty T):=Sl b c a g f
theorem vc(m:XV Ty)(f:Slot Ty name id)(h:U_ (.builtin id)=pure (.type "method_descriptor"))(j:wO X id (liftM X r))(i:Ty="list"\/Ty="str"\/Ty="int"\/Ty="dict")(l:DE X B o to)(s:DA X B (e::es) t)(c:kB o name X.env (g3 o X.env)=g3 o X.env)(g:((j0 ab6<|starEach (e::es) X.env).all (λx=>!x.1)&&(rc ab6<|keywordEach [] X.env).all (λx=>x.1.isSome)
   && decide ((e::es).length+([]:List q0).length+(if ([]:List q0).isEmpty then 0 else 1)<30))=true)(b:(ab7.endLine==ab6.line)=true)(q:eH (e::es) X.env=(eC,g3 e X.env)::eH es X.env)(a:(j0 ab6<|starEach es X.env).any (·.1)=eC):
  DE X B (.Call (.Attribute o name ab7) (e::es) [] ab6) (jd Ty r to t):=TX i m f h j l s c g b q a
theorem uP(i:XV Ty)(c:Slot Ty name id)(f:U_ (.builtin id)=pure (.type "method_descriptor"))(h:wO X id (liftM X r))(g:Ty="list"\/Ty="str"\/Ty="int"\/Ty="dict")(j:DE X B o to)(b:kB o name X.env (g3 o X.env)=g3 o X.env)(a:(ab7.endLine==ab6.line)=true):DE X B (.Call (.Attribute o name ab7) [] [] ab6) (jd Ty r to ag):=PZ g i c f h j b a
theorem Qh(f:Slot "tuple" name id)(h:U_ (.builtin id)=pure (.type "method_descriptor"))(i:wO X id (liftM X r))(j:DE X B o to)(m:DA X B (e::es) t)(c:kB o name X.env (g3 o X.env)=g3 o X.env)(g:((j0 ab6<|starEach (e::es) X.env).all (λx=>!x.1)&&(rc ab6<|keywordEach [] X.env).all (λx=>x.1.isSome)
   && decide ((e::es).length+([]:List q0).length+(if ([]:List q0).isEmpty then 0 else 1)<30))=true)(b:(ab7.endLine==ab6.line)=true)(l:eH (e::es) X.env=(eC,g3 e X.env)::eH es X.env)(a:(j0 ab6<|starEach es X.env).any (·.1)=eC):
  DE X B (.Call (.Attribute o name ab7) (e::es) [] ab6) (NU r to t):=Tb f h i j m c g b l a
theorem JT(j:Im X a (liftR2 X r))(f:X.N.Nodup)(g:X.N[i]?=ap x)(h:xH X.env.scope x)(b:DE X B e te)(c:X.fn x=true\/X.env.scope.names.lookup x=ap .local):
  DS X B (.AugAssign (.Name x pos') a e pos) (IJ i te r):=Qz f g h b j c
end
structure Nf(K:UE)(x:Str)(st:om)(f:eg)(fd:hG):Prop where
 a:VB K ff x=ap (ap<|.ref f)
 F:Fun K x x st f fd
structure Af(K:UE)(x y:Str)(st:om)(f:eg)(fd:hG):Prop where
 a:VB K ff x=ap (ap<|.ref f)
 F:Fun K y y st f fd
structure Mf(K:UE)(C:eg)(x q:Str)(st:om)(f:eg)(fd:hG):Prop where
 a:Vp K (.ref C) x=ap (ap<|.ref f)
 i:W.isFn K (.ref f)=true
 F:Fun K x q st f fd
theorem us1{α:Type}{P:List α->Prop}(h:∀a,P [a]):∀us:List α,us.length=1->P us
 |[a],_=>h a
theorem us2{α:Type}{P:List α->Prop}(h:∀b a,P [b,a]):∀us:List α,us.length=2->P us
 |[b,a],_=>h b a
theorem us3{α:Type}{P:List α->Prop}(h:∀b a c,P [b,a,c]):∀us:List α,us.length=3->P us
 |[b,a,c],_=>h b a c
theorem us4{α:Type}{P:List α->Prop}(h:∀c a f b,P [c,a,f,b]):∀us:List α,us.length=4->P us
 |[c,a,f,b],_=>h c a f b
theorem us5{α:Type}{P:List α->Prop}(h:∀b f c g a,P [b,f,c,g,a]):∀us:List α,us.length=5->P us
 |[b,f,c,g,a],_=>h b f c g a
theorem us6{α:Type}{P:List α->Prop}(h:∀c g f i a b,P [c,g,f,i,a,b]):∀us:List α,us.length=6->P us
 |[c,g,f,i,a,b],_=>h c g f i a b
abbrev Bnd(ps:ab')(x ab3:Str)(st:om):Prop:=∀(kV doc pm:ax)(an:Option eg)(cdv ct:ax)(us:aca),us.length=ps.length->abx (WO x ab3 (cj st) (bt st) (aJ st) .none kV doc pm an cdv ct) #[us,[]]=pure (ps.zip us)
section
variable{K:UE}{f:eg}{fd:hG}{ps:ab'}{ab3:Str}{st:om}
theorem gf(X:K.In h)(G:h.Ns ff mg)(l:Nf K x st f fd)(b:Bnd ps x x st:=by ac_rfl):GF K mg x st f fd ps:=#[l.F,l.F.binds b,l.F.kp,V9 X G l.a]
theorem ga(X:K.In h)(G:h.Ns ff mg)(l:Af K x y st f fd)(b:Bnd ps y y st:=by ac_rfl):GA K mg x y st f fd ps:=#[l.F,l.F.binds b,l.F.kp,V9 X G l.a]
theorem gm(l:Mf K C x ab3 st f fd)(b:Bnd ps x ab3 st:=by ac_rfl):GM K C x ab3 st f fd ps:=#[l.F,l.F.binds b,l.a,l.i,l.F.kp]
theorem gi(mk:XI K C=true)(b:VJ K (.ref C)=true)(l:Mf K C "__init__" ab3 st f fd)(c:Bnd ps "__init__" ab3 st:=by ac_rfl):GI K C "__init__" ab3 st f fd ps:=#[l.F,l.F.binds c,mk,l.a,l.i,b]
abbrev cw(P:fx)(w:hB)(mg:ach)(base:h9)(_:Fun K x ab3 st f fd)(_:Binds K fd ps [])(k:Nat)(S:Sd):Prop:=FnOk P w K mg base (kI P w) k f fd ps (bC K ps.length S)
theorem fnS(j:S=aE N T)(F:Fun K x ab3 st f fd)(b:Binds K fd ps [])(g:FnScope N ps (aJ st))(i:FnScope N ps (aJ st)->∀(c:ax)(A:gx)(a:List Env)(s:ez)(H:Hp)(E:XK)(B:Bd)(EE:DX),Room k (A.deeper<|V5 ab3 (aJ st) s.heap.objs.size f c)->tm K B EE E->
   xI (fk (kI P w) P w K mg base N ab3 (aJ st) f c A a s H E) B (bt st) (T EE)):cw P w mg base F b (k+1) S:=by
 subst j;exact (λF S I=>by
    obtain⟨oc,R,kV,y,W,Z,c,L,m,rfl,lk,j⟩:=F.ex;refine NJ lk j S (λz H Q E h=>h.1) λA b s H z Q E o l=>?_;obtain⟨J,O,M,QQ,EE,rh,r,v,u,ux⟩:=l;exact#[_,I _ A _ s H E (Bd.of M H) _ o ux.drp,_,M,_,#[Frm.refl,rh,.startN N r],v,#[λY M' q U H' f G=>u.drp _ M' q _ H' G.rh f rfl,u.drp,λY M' q=>q.elim,λY M' q=>q.elim]]) F g (i g)
end
end _3
namespace _3
open PySem _2
inductive IsX(X:Cx)(B:Bd)(ea:eg)(c:D)(b:Bool):Prop
 |mk {C:eg} (h0:∀M H,B.p M H->ExcH H C ea) (Z:LX.XC X.K C) (hc:jo X.K C c b):IsX X B ea c b
theorem LN(l:fy x=ap (.builtin "isinstance"))(h:IsX X B ea c b)(o:Gl X x)(q:X.mg x=ay)(r:DA X B (e::es) t)(s:x≠"__name__")(f:(x==("__debug__":Str))=eC)
  (m:eH (e::es) X.env=(eC,g3 e X.env)::eH es X.env) (g:(j0 pos<|starEach es X.env).any (·.1)=eC):DE X B (.Call (.Name x p) (e::es) [] pos) (lC ea c b t):=by
 obtain⟨j,Z,i⟩:=h;exact Pq j Z i o q l r s f m g
theorem K0(b:Gl X x)(f:X.mg x=ap (.ref a))(c:(x==("__debug__":Str))=eC):DE X B (.Name x pos) (dC<|.ref a):=Jh (v:=.ref a) b f rfl (λ_=>rfl) c
section
variable{K:UE}{f:eg}{fd:hG}{ps:ab'}{T:eg->DX->av}{x ab3:Str}{st:om}
abbrev T5(P:fx)(w:hB)(mg:ach)(base:h9)(_:Fun K x ab3 st f fd)(_:Binds K fd ps [])(k:Nat)(C:eg)(S:eg->Sd):Prop:=FnOkN P w K mg base (kI P w) k f fd ps (iH K C S)
theorem fnSE(i:S=λea=>aE N (T ea))(F:Fun K x ab3 st f fd)(b:Binds K fd ps [])(g:FnScope N ps (aJ st))(e:ps.length=1)
  (h:FnScope N ps (aJ st)->∀(ea:eg)(c:ax)(A:gx)(a:List Env)(s:ez)(H:Hp)(E:XK)(B:Bd)(EE:DX),RoomN k (A.deeper<|V5 ab3 (aJ st) s.heap.objs.size f c)->tm K B EE E->(∀M' H',B.p M' H'->ExcH H' C ea)->
   xI (vj (kI P w) P w K mg base N ab3 (aJ st) f c A a s H E) B (bt st) (T ea EE)):T5 P w mg base F b (k+1) C S:=by
 subst i;exact (λF S j I=>by
    obtain⟨W,L,kV,y,O,R,c,J,o,rfl,lk,g⟩:=F.ex;refine PU lk g S (λz H Q E h=>by obtain⟨ea,_,rfl,_⟩:=h;exact j.symm) λA a s H z Q E r i=>?_
    obtain⟨ea,m,rfl,M,QQ,EE,rh,v,u,ux⟩:=i;exact#[_,I ea _ A _ s H E (Bd.of M H) _ r ux.drp (λM' H' f=>J1 f m (ExcH.none m rh)),startN N [.ref ea],M,_,#[Frm.refl,rh,.startN N<|.cons rfl .nil],v,#[λY M' q U H' f G=>u.drp _ M' q _ H' G.rh f rfl,u.drp,λY M' q=>q.elim,λY M' q=>q.elim]]) F g e (h g)
end
end _3
namespace _3
open PySem _2 _S
def RC(M:Mem):D->Bool
 |.ref a=>match M a with
  |some (.dK _)=>true
  |_=>eC
 |_=>eC
def IC(td ty:bh):bh:=λY M Q=>td Y M λx M1=>RC M1 x=true/\ty Y M1 λy M2=>onR x λa=>mK (M2 a) λb=>so (cW y) λk=>so (dm b k) λv=>Q v (M2.upd a<|.dK<|qF b k)
def HA(td ty tx:bh):bh:=λY M Q=>td Y M λx M1=>RC M1 x=true/\ty Y M1 λy M2=>tx Y M2 λz M3=>onR x λa=>mK (M3 a) λb=>so (cW y) λk=>oe (dm b k) (λv=>Q v (M3.upd a<|.dK<|qF b k)) (Q z M3)
theorem Iv(f:RepH K H M)(r:Rp K H x v)(e:RC M x=true):∃a,x=.ref a/\v=.ref a/\IsD H a:=by
 cases x with
 |ref a=>
  cases r;refine#[a,rfl,rfl,?_];simp[RC]at e
  split at e
  .rename_i q;obtain⟨b,c,_⟩:=f _ _ q;exact .inl #[b,.inl c]
  cases e
 |_=>cases e
theorem Jz(ho:DE X B o to)(he:DE X B e te)(m:M1 X o "pop" ab7 e ab6):DE X B (.Call (.Attribute o "pop" ab7) [e] [] ab6) (IC to te):=by
 refine aT (FQ ho he m) ?_
 rintro U H Q ⟨Y,M,QQ,s,h,u⟩
 refine#[Y,M,_,s,h,λx M1 h1 v1 H1 rh1 i1 r1=>?_];obtain⟨a,rfl,rfl,hd⟩:=Iv rh1 r1 h1.1;refine#[a,rfl,hd,Y,M1,_,s.go rh1 i1,h1.2,λy M2 h2 v2 H2 rh2 i2 r2=>?_];obtain⟨_,e,h2⟩:=h2.inv;cases e;obtain⟨ab4,hM,h2⟩:=h2.inv;obtain⟨k,ek,h2⟩:=h2.inv;obtain⟨ws,g1,g2⟩:=rh2 _ _ hM;have im:Imm H2 (upd H2 a<|.dK<|j5 ws k):=Imm.upd (by rw[g1];trivial)
 rcases g2.val k with⟨q,_⟩|⟨d,w,q,qw,rw'⟩
 .rw[q]at h2;exact h2.elim
 rw[q]at h2;exact#[ws,k,w,g1,(iF r2 ek),qw,u _ _ h2 _ _ (rh2.put (by rw[g1];trivial) #[_,upd_same,(g2.drop k).mono im]) ((i1.trans i2).trans<|Frm.put<|.inr #[_,hM])<|rw'.mono im]
theorem JE(ho:DE X B o to)(he:DE X B e te)(hf:DE X B f tf)(m:M2 X o "pop" ab7 e f ab6):DE X B (.Call (.Attribute o "pop" ab7) [e,f] [] ab6) (HA to te tf):=by
 refine aT (G1 ho he hf m) ?_
 rintro U H Q ⟨Y,M,QQ,s,h,u⟩
 refine#[Y,M,_,s,h,λx M1 h1 v1 H1 rh1 i1 r1=>?_];obtain⟨a,rfl,rfl,hd⟩:=Iv rh1 r1 h1.1;refine#[a,rfl,hd,Y,M1,_,s.go rh1 i1,h1.2,λy M2 h2 v2 H2 rh2 i2 r2=>?_];refine#[Y,M2,_,(s.go rh1 i1).go rh2 i2,h2,λz M3 h3 v3 H3 rh3 i3 r3=>?_];obtain⟨_,e,h3⟩:=h3.inv;cases e;obtain⟨ab4,hM,h3⟩:=h3.inv;obtain⟨k,ek,h3⟩:=h3.inv;obtain⟨ws,g1,g2⟩:=rh3 _ _ hM;have ey:=iF (r2.mf rh2 i3) ek;have im:Imm H3 (upd H3 a<|.dK<|j5 ws k):=Imm.upd (by rw[g1];trivial)
 rcases g2.val k with⟨q,qn⟩|⟨d,w,q,qw,rw'⟩
 .rw[q]at h3
  exact#[ws,k,g1,ey,by lia,λ_=>u _ _ h3 _ _ rh3 ((i1.trans i2).trans i3) r3]
 rw[q]at h3;refine#[ws,k,g1,ey,λv ev=>?_,by lia]
 rw[qw]at ev;cases ev;exact u _ _ h3 _ _ (rh3.put (by rw[g1];trivial) #[_,upd_same,(g2.drop k).mono im]) (((i1.trans i2).trans i3).trans<|Frm.put<|by simp_all) (rw'.mono im)
def kR:qr:=λe M Q=>one e λb=>onR b λa=>mK (M a) λc=>∀p,M p=ay->Q (.ref p) (M.upd p<|.dK c)
theorem wU:bH X (.type "dict") (liftC X kR):=by
 rintro ab2 s U H xs us Q I r ⟨ds,M,QQ,rh,rp,h,up⟩
 unfold kR at h
 replace h:=h.inv;obtain⟨w24,rfl,h⟩:=h
 replace h:=h.inv;obtain⟨a,rfl,h⟩:=h
 obtain⟨v,rfl,rv⟩:=gy (ds:=[]) rp;cases rv;obtain⟨ab4,e,h⟩:=h.inv;obtain⟨u,rfl,ru⟩:=r.one;cases ru;obtain⟨ws,h1,h2⟩:=rh _ _ e;exact Ix I (.inl h1) λp s' hp I'=>#[.ref p,_,I',rfl,up _ _ (h p<|rh.fresh hp) _ _ (rh.put (by rw[hp];trivial) #[_,upd_same,h2.mono<|Imm.new hp]) (Frm.put<|.inl hp) rfl]
end _3
namespace _2
open PySem PySem.W PySem.Calls PyProof.Rows PyProof.V PySem.Spec
def isO:Option aI->ax->Bool
 |some k,v=>pV k v
 |none,.none=>true
 |none,_=>eC
theorem dP(h:isO ay v=true):v=.none:=by cases v<;>first|rfl|cases h
theorem wK(h:Q 4238894112 { s with toks:=s.toks+1 }):eS (fv prog w) A (pyHash .none) Q E s:=by
 have a:s.TypeIs .none "NoneType":=rfl;refine cT ?_;refine eX ?_;refine cT (B' a rfl ?_);refine cT (B' a rfl ?_)
 refine cT (wpAny_callSpecialIfBoundUnlessNone?_slot a Ys
  (l' Ys a rfl
   (wpAny_ret_mkInt ?_) rfl))
 exact eX h
theorem xz(h:Q true s):eS (fv prog w) A (eqBool .none .none) Q E s:=by
 exact cT (WP<|wpAny_pure h)
def Ia(prog:fx)(w:hB):PySem.KeyKind prog w (Option aI) where
 is:=isO
 hash:=λk=>match k with
  |some k=>Su w k
  |none=>4238894112
 inj:=λv a b g f=>by
  cases a with
  |some a=>
   cases b with
   |some b=>rw[(aV prog w).inj v a b g f]
   |none=>
    cases dP f;rcases a_ g with⟨i,t,_,e⟩|⟨x,t,_,e⟩<;>exact nomatch e
  |none=>
   cases dP g;cases b with
   |some b=>rcases a_ f with⟨i,t,_,e⟩|⟨x,t,_,e⟩<;>exact nomatch e
   |none=>rfl
 byValue:=λk v h=>by
  cases k with
  |some k=>exact(aV prog w).byValue k v h
  |none=>cases dP h;rfl
 pyHash:=λ{A E s k v Q} c h=>by
  cases k with
  |some k=>exact(aV prog w).pyHash c h
  |none=>cases dP c;exact wK h
 eqBool:=λ{A E s a b u v Q} j c h=>by
  cases a with
  |some a=>
   cases b with
   |some b=>
    refine (aV prog w).eqBool j c ?_;have:decide (ap a=ap b)=decide (a=b):=decide_eq_decide.mpr #[λe=>by injection e,λe=>by rw[e]]
    rw[this]at h;exact h
   |none=>
    cases dP c;have e:decide (ap a=ay)=false:=decide_eq_false (λz=>nomatch z);rw[e]at h;rcases a_ j with⟨i,t,rfl,rfl⟩|⟨x,t,rfl,rfl⟩
    .exact YQ i t _ _ _ _ h
    .exact YM x t _ _ _ _ h
  |none=>
   cases dP j;cases b with
   |some b=>
    have e:decide (ay=ap b)=false:=decide_eq_false (λz=>nomatch z);rw[e]at h;rcases a_ c with⟨i,t,rfl,rfl⟩|⟨x,t,rfl,rfl⟩
    .exact YO i t _ _ _ _ h
    .exact YN x t _ _ _ _ h
   |none=>
    cases dP c;exact xz h
 «strs»:=λk x t v h=>by
  cases k with
  |some k=>exact(aV prog w).strs k x t v h
  |none=>cases h
theorem map_none{h:h9}(m:h.MapOf (aV b w) a f):h.MapOf (Ia b w) a (λk=>match k with|some k=>f k|none=>ay):=by
 obtain⟨o,c,v,B,z,r,l,p⟩:=m;refine#[o,c,v,B,z,r,λe g=>?_,λk=>?_]
 .obtain⟨k,j,y⟩:=l e g
  exact#[ap k,j,y]
 cases k with
 |some k=>exact p k
 |none=>
  have:∀e∈c,isO ay e.key=false:=λe g=>by
   obtain⟨k,j,_⟩:=l e g;rcases a_ j with⟨i,t,_,q⟩|⟨x,t,_,q⟩<;>rw[q]<;>rfl
  have e:c.find? (λe=>(Ia b w).is ay e.key)=none:=by
   rw[Array.find?_eq_none];intro x u;exact Bool.eq_false_iff.mp (this x u)
  unfold findBy;rw[e];rfl
theorem Ud(I:Inv X ab2 U H s)(e:Rd H a (.dK ab4))(h:∀s',Inv X ab2 U H s'->Q (.bool eC) s'):eS (fv X.prog X.w) A (kl .In .none<|.ref a) Q E s:=by
 obtain⟨z,c,g,b,f⟩:=kh I.hok e;refine wpAny_in_of (knd:=Ia X.prog X.w) (k:=ay) rfl c (map_none f.mapOf) ?_;exact h _ (I.tok _)
end _2
namespace _3
open PySem _2 _S
def zx(M:Mem)(x y:D):Option Bool:=match x,y with
 |.non,.ref a=>match M a with
  |some (.dK _)=>ap eC
  |_=>ay
 |_,_=>sH M x y
def GZ:g9:=λx y M Q=>so (zx M x y) λk=>Q (.bl k) M
theorem J5(r:X.A.units+64<n7):cQ X (kl .In) (liftR2 X GZ):=by
 rintro c s U H x y v u Q I f i ⟨o,p,M,QQ,a,j,g,h,b⟩
 unfold GZ at h;obtain⟨k,e,h⟩:=h.inv;unfold zx at e
 split at e
 .cases j
  cases g;cases f;cases i
  split at e
  .rename_i l m
   cases e;obtain⟨z,q,w⟩:=a _ _ m;exact Ud I (.inl q) λC I'=>#[.bl _,H,I',rfl,b _ M h _ H a Frm.refl rfl]
  cases e
 refine IR r _ s U H x y v u Q I f i #[o,p,M,QQ,a,j,g,?_,b];unfold FX;rw[e];exact h
end _3
namespace _2
open PySem PySem.Spec PyProof.Rows
theorem j6:Slot "reversed" "__iter__" "reversed.__iter__":=
 .of (owner:="reversed") (n:="__iter__") (by rfl) (by rfl) (by rfl) (by rfl)
  (by trivial) (by kernel_rfl)
theorem de:Slot "reversed" "__next__" "reversed.__next__":=
 .of (owner:="reversed") (n:="__next__") (by rfl) (by rfl) (by rfl) (by rfl)
  (by trivial) (by kernel_rfl)
theorem RD:Manifest.owners.lookup (String.ofList ['d','e','s','r','e','v','e','r'].reverse)=ap Manifest.sig_reversed:=by kernel_rfl
theorem gI:abe table "reversed.__next__"=ap Builtin.«reversed.__next__»:=PySem.entryFor_of_tree (by kernel_rfl)
theorem ql:abe table "reversed.__new__"=ap Builtin.«reversed.__new__»:=entryFor_of_tree (by kernel_rfl)
theorem pe:abe table "reversed.__iter__"=ap Builtin.«dict_keyiterator.__iter__»:=
 entryFor_alias (id':="dict_keyiterator.__iter__") (by kernel_rfl) (by rfl) (by decide +kernel) (by kernel_rfl)
theorem qA(a:ax):abc "reversed.__iter__" #[[a],[]]:=by
 kernel_rfl
theorem i_(a:ax):abc "reversed.__next__" #[[a],[]]:=by
 kernel_rfl
theorem AB:mroOf (.type "reversed")=pure [.type "reversed",.type "object"]:=by rfl
theorem yl:TypeCalled "reversed" "reversed.__new__" "object.__init__":=
 #[by rfl,by rfl,#[_,_,AB],madeBy_type AB (by rfl) (by decide +kernel),by decide +kernel,by rfl,( .of (owner:="object") (n:="__init__") (by rfl) (by rfl) (by rfl) (by rfl)
    (by trivial) (by kernel_rfl))]
theorem sC(a:ax):aa_ "reversed" #[[a],[]]=pure ():=by kernel_rfl
theorem wC(a:ax):ss "reversed.__new__" #[[.type "reversed",a],[]]=pure ():=by kernel_rfl
theorem iV(a b:ax):abc "object.__init__" #[[a,b],[]]:=by
 kernel_rfl
theorem JM:isSubtype (.type "reversed") (.type "reversed")=pure true:=by rfl
theorem O4:z4 (.type "tuple") "__reversed__"=pure none:=by rfl
theorem FJ:isSubtype (.type "tuple") (.type "dict")=pure false:=by rfl
abbrev qU(h:h9)(z l:eg)(j:Int):Prop:=h.get? z=ap { cls:=.type "reversed",dict:=ay,data:=.fields (tX [.ref l,.int j 0]),slots:=(tX []) }
theorem GH{k:Nat}(b:qU s.heap z l k)(o:IsTup s.heap l a)(i:a[k]?=ap x)(p:(k:Int)<2 ^ 63)(hQ:∀h',qU h' z l ((k:Int)-1)->VV z s.heap h'->Q (ap x) { s with heap:=h',toks:=s.toks+1 }):
  eS (fv prog w) A (U'<|.ref z) Q E s:=by
 have j:s.TypeIs (.ref z) _:=#[_,b,rfl]
 refine cT (z6 (wpAny_callSpecial?_slot j de
  (l' de j gI ?_<|i_ _)))
 show eS _ _ (field _ 0 >>= _) _ _ s;refine cT (k' b rfl rfl ?_);refine cT (k' b rfl rfl ?_);show eS _ _ (if (k:Int)<0 then _ else _) _ _ _
 refine cT (B' o.typeIs rfl ?_);refine cT (wpAny_mkInt ?_);have c:k<a.size:=by
  rcases VX k _ with h|h
  .exact h
  .rw[Array.getElem?_eq_none h]at i;cases i
 refine cT (z6<|getItem_tuple o (by lia) p ?_ i ?_)
 .have e:¬((k:Int)<0):=by lia
  simp[abD,c,if_neg e]
 refine cT (k' b rfl rfl ?_);refine cT (lT b (by simp) λm f g=>?_)
 exact eX #[_,rfl,eX<|hQ _ f g]
theorem Lr(F:A.handled=ay)(h:qU s.heap z l j)(C:j<0)(B:∀h',XR z s.heap h'->Q ay { s with heap:=h' }):eS (fv prog w) A (U'<|.ref z) Q E s:=by
 have r:s.TypeIs (.ref z) "reversed":=#[_,h,rfl];unfold U'
 refine cT (z6 (wpAny_callSpecial?_slot r de
  (l' de r gI ?_<|i_ _)))
 show eS _ _ (field (.ref z) 0 >>= _) _ _ s;refine cT (k' h rfl (x:=.ref l) rfl ?_);refine cT (k' h rfl (x:=.int j 0) rfl ?_);show eS _ _ (if j<0 then _ else _) _ _ _
 rw[if_pos C];refine cT (WP ?_);refine cT (cT (lT h (by simp) λu i p=>?_))
 refine lT i (by simp) λg y f=>?_
 refine cT ?_;refine cT ?_;refine cT (m:=firstArgMember _ _) (ZB (a:=Wm) (by rfl) ?_)
 refine x9 ?_ (by size_fits)
 simp only[raiseNew];refine cT (wpAny_handled ?_);rw[show A.in1.handled=ay from F];refine cT (eX<|wpAny_throw ?_);refine cT (V_ (T:="StopIteration") (b:=true) #[_,UI _ rfl,rfl] abt ?_);refine eX (B _ ?_);have q:XR z s.heap g:=λc o v e=>f.extBut _ _ v (p.extBut _ _ v e);exact(q.push _).push _
theorem v_(b:qU s.heap z l j)(h:Q (.ref z) s):eS (fv prog w) A (abj<|.ref z) Q E s:=by
 have a:s.TypeIs (.ref z) _:=#[_,b,rfl];exact wpAny_pyIter_slot a j6 (l' j6 a pe (eX #[_,rfl,_,_,a,rfl,h])<|qA _)
theorem GN(p:IsTup s.heap l b)(j:(b.size:Int)<2 ^ 63)(h:∀f h',h'.objs.size=s.heap.objs.size+1->qU h' s.heap.objs.size l ((b.size:Int)-1)->(∀c o,s.heap.get? c=ap o->h'.get? c=ap o)->Q (.ref s.heap.objs.size) { s with heap:=h',toks:=f }):
  eS (fv prog w) A (call (.type "reversed") [.ref l]) Q E s:=by
 refine abS (S:=λ_ R s=>IsTup s.heap l b/\∀f,R (.ok<|.ret<|.ref s.heap.objs.size) { s with heap:=s.heap.push { cls:=.type "reversed",data:=.fields (tX [.ref l,.int ((b.size:Int)-1) 0]) },toks:=f })
  yl (by decide) (sC _) (wC _) (λobj=>iV obj _) ql ?_ #[p,λf=>?_]
 .refine .of_wp λprog w A R s h=>?_
  obtain⟨p,h⟩:=h;obtain⟨u,g,d,f,r⟩:=s;have i:=JM;have q:=p.typeIs;unfold Builtin.«reversed.__new__»;refine cT ?_;unfold Builtin.SmallTypes.newClass;refine cT (ZB (a:=true) rfl ?_);rw[if_neg (by simp)]
  refine cT (ZB i ?_);rw[if_neg (by simp)]
  refine eX ?_;refine cT (m:=specialOf _ _) (B' q O4 ?_);refine cT ?_;refine cT (V_ q FJ ?_);rw[if_neg (by simp)]
  refine cT (B' (T:="tuple") q slot_tuple_getitem.lookup ?_);show eS _ _ (if (["tuple.__getitem__","str.__getitem__","bytes.__getitem__","bytearray.__getitem__","memoryview.__getitem__","numpy.ndarray.__getitem__","sqlite3.Row.__getitem__"].contains "tuple.__getitem__")=true then _ else _) _ _ _
  rw[if_pos (by decide)]
  refine eX ?_;refine cT (len_tuple p j ?_);show eS _ _ (newObj (.type "reversed") (.fields (tX [.ref l,.int ((b.size:Int)-1) 0])) >>= _) _ _ _;refine cT (x9 ?_<|by size_fits)
  exact eX #[_,rfl,h _]
 .exact#[#[_,UI _ rfl,rfl],h f _ (Vw ..) (UI _ rfl) λc o e=>UB _ e]
noncomputable def Itv(K:UE)(a:eg)(n:Nat):It:=
 #[λi H=>i<n/\∃xs x,lW K H a xs/\xs[n-1-i]?=ap x,λi H x H'=>H'=H/\∀xs,lW K H a xs->xs[n-1-i]?=ap x,λi _=>n<=i]
theorem IY{K:UE}(a f:eg)(n:Nat)(hn:n<2 ^ 63):Turn P w K tg (Itv K a n) [f] f (λi h=>qU h f a ((n:Int)-1-i)) where
 mem:=by simp
 obj:=λi h c b M=>by
  simp_all
 keep:=λi h j c k=>k f (by simp) _ c
 item:=by
  intro X L C J F i g s U H E I m c r;subst L C J;obtain⟨hi,xs,x,G,N⟩:=r;obtain⟨O,rv,p,hz⟩:=I.tuple G;obtain⟨u,hu,Q⟩:=rv.get N;obtain⟨y,A,R,v,B,q⟩:=m f (by simp)
  have e1:n-1-i=((n-1-i:Nat):Int):=by lia
  refine GH (by rw[<- e1];exact c) (p) (by simpa using hu) (by lia) λj e W=>?_
  have I1:Inv X _ U H { s with heap:=j,toks:=s.toks+1 }:=I.turned (λb o M=>(W.2 b M).trans) y A v B q;have Y:(((n-1-i:Nat):Int))-1=n-1-(i+1:Nat):=by lia
  rw[Y]at e;exact#[u,rfl,za e rfl rfl (by decide) #[x,H,I1,Q,#[rfl,λys hy=>by rw[I.tuple_inj hy G];exact N],e,by simp_all]]
 done:=by
  intro X L C J F i g s U H E I m c r;obtain⟨y,A,R,v,B,q⟩:=m f (by simp)
  have Z:n<=i:=r;exact Lr (I.ok.hd F) c (by lia) λj S=>#[rfl,I.turned (S) y A v B q]
 self:=λ_ _ _ _ _ c h=>v_ c h
def iRev(K:UE)(t:TA):TI:=λU H R=>t U H λa H1=>∃l xs,a=[.ref l]/\lW K H1 l xs/\R (Itv K l xs.length) H1
theorem Qc(G:Gl X "reversed")(J:X.mg "reversed"=ay)(M:PA X [a] r)(L:eH [a] X.env=[(eC,g3 a X.env)]:=by rfl):
  PI X tg (.Call (.Name "reversed" p) [a] [] pos) (iRev X.K r):=by
 intro j s U H R I h;refine Call_ (dZ I G J (by rfl)<|Vi (bE (M _ _ s U H _ I h) λus x w=>?_) L rfl);obtain⟨O,H1,I1,y,i⟩:=w;obtain⟨l,o,e,i,q⟩:=i;subst e;obtain⟨Q,rfl,g⟩:=y.one;cases g;obtain⟨c,A,F,E⟩:=I1.tuple i;have m:=A.length;have v:o.length<2 ^ 63:=WL E (by decide)
 refine GN F (by simp;lia) λu P C f B=>?_
 have I2:Inv X _ U H1 _:=I1.kept (t':=u) B;refine v_ f ?_;refine#[_,_,_,_,H1,rfl,I2,IY l _ _ (by lia),?_,λb N=>?_,q]
 .have e:c.toArray.size-1=o.length-1-(0:Int):=by simp;lia
  rw[e]at f;exact f
 have e:b=x.heap.objs.size:=by simp_all
 subst e;exact I1.fpOk (UQ _) (I1.hok.fresh<|UQ _)
end _2
namespace _3
open PySem _2 _S
def Rn(t:dG):yM:=λY M R=>t Y M λb M1=>one b λa=>onT a λc=>R #[c.reverse,[]] M1
theorem OF(I:Gl X "reversed")(J:X.mg "reversed"=ay)(N:DA X B [a] r)(L:eH [a] X.env=[(eC,g3 a X.env)]:=by rfl):
  DI X B tg (.Call (.Name "reversed" p) [a] [] pos) (Rn r):=by
 refine jV (Qc I J N L) ?_
 rintro U H R ⟨Y,M,RR,s,h,u⟩
 refine#[Y,M,_,s,h,λds M1 b O H1 j i1 A=>?_]
 replace b:=b.inv;obtain⟨z,rfl,b⟩:=b
 replace b:=b.inv;obtain⟨C,rfl,b⟩:=b
 obtain⟨v,rfl,q,c,rfl,f,o⟩:=gy (ds:=[]) A;have y:=o.length;refine#[q,c,rfl,f.sq,u _ M1 b _ H1 j i1 λi H2 M2 i2 g _=>#[λd m=>?_,λG=>?_]]
 .have E:i<C.length:=by
   rcases VX i _ with h|h
   .exact h
   simp_all
  rw[List.getElem?_reverse E]at m;obtain⟨w,e,l⟩:=(o.mono i2).get m;rw[y]at e;refine#[#[by simp_all,c,w,(f.mono i2).sq,e],?_]
  rintro x H3 ⟨rfl,F⟩
  have:=F c (f.mono i2).sq;rw[e]at this;cases this;exact#[Frm.refl,g,l]
 show c.length<=i
 simp_all
end _3
namespace _3
open PySem _2
def uj(C:eg)(ta tv:bh)(f:Str):av:=λD Y M=>ta Y M λx M1=>onR x λa=>mN (M1 a) λC' fs=>C'=C/\fs.length<1000/\so (fs.lookup f) λb=>onI b λi=>tv Y M1 λy M2=>onI y λj=>M2 a=ap (.ins C fs)/\D.nx Y (M2.upd a<|.ins C<|b_ f (.int (i-j)) fs)
theorem Es(c:Cls X.K C)(n:NoAttr X.K C f)(ha:DE X B o ta)(hv:DE X B value tv):DS X B (.AugAssign (.Attribute o f tpos) .Sub value pos) (uj C ta tv f):=by
 refine bR (qX ha hv P1) ?_
 rintro D U H ⟨Y,M,DD,s,h,up⟩
 refine#[Y,M,_,s,h,λx M1 h1 v1 H1 rh1 i1 r1=>?_]
 replace h1:=h1.inv;obtain⟨a,rfl,h1⟩:=h1
 cases r1;obtain⟨C',fs,hM,h1⟩:=h1.inv;obtain⟨rfl,hl,h1⟩:=h1;obtain⟨w26,hf,h1⟩:=h1.inv
 replace h1:=h1.inv;obtain⟨i,rfl,h1⟩:=h1
 obtain⟨dx,ws,e1,e2⟩:=rh1 _ _ hM;obtain⟨z,_⟩|⟨d,w,hd,hw,rw1⟩:=e2.lookup f
 .simp_all
 rw[hf]at hd;cases hd;cases rw1;refine#[a,C',dx,ws,_,rfl,e1,c,n,hw,Y,M1,_,s.go rh1 i1,h1,λy M2 h2 v2 H2 rh2 i2 r2=>?_]
 replace h2:=h2.inv;obtain⟨j,rfl,h2⟩:=h2
 cases r2;obtain⟨hM2,h2⟩:=h2;obtain⟨dx2,ws2,e3,e4⟩:=rh2 _ _ hM2;have i3:Frm M2 H2 (M2.upd a<|.ins C'<|b_ f (.int (i-j)) fs) (upd H2 a<|.ins C' dx2<|_2.dJ f (.int (i-j)) ws2):=Frm.put (by simp_all)
 exact#[i,j,rfl,rfl,_,_,e3,by rw[<- e4.length];exact hl,up.nx _ _ h2 U _ ((i1.trans i2).trans i3)<|s.go (rh2.put (by rw[e3];trivial) #[_,_,upd_same,(kG (by trivial) e4).mono<|i3.imm rh2])<|(i1.trans i2).trans i3]
def uG:xF:=λx a M Q=>onI x λi=>nil0 a (Q (.int ((VW i:Nat):Int)) M)
theorem xP:wO X "int.bit_length" (liftM X uG):=by
 rintro a s U H x l v us Q I c f ⟨d,j,M,QQ,g,r,e,h,b⟩
 unfold uG at h
 replace h:=h.inv;obtain⟨i,rfl,h⟩:=h
 replace h:=h.inv;obtain⟨rfl,h⟩:=h
 cases r;cases e;obtain⟨t,rfl⟩:=c;cases f;exact PyProof.Rows.call_int_bit_length #[.int _,H,I.tok _,#[_,rfl],b _ M h _ H g Frm.refl rfl]
end _3
namespace _2
open PySem PySem.Spec PyProof.Rows
theorem Hy:∀(names:List (Str×Z'))(h:h9)(ab5:List (Str×eg)),(ox h.objs.size names ab5).lookup x=ap c->
  ab5.lookup x=ap c\/(h.objs.size<=c/\(F' h names).IsCell c ay/\(x,XQ)∈names)
 |[],_,_,e=>.inl e
 |(n,k)::r,h,ab5,e=>by
  unfold ox at e;unfold F'
  by_cases a:(k==.cell)=true
  .rw[if_pos a]at e ⊢
   have f:(h.push { cls:=.type "cell",data:=.cell ay }).objs.size=h.objs.size+1:=Vw ..;rw[<- f]at e;rcases Hy r _ _ e with z|⟨z1,z2,z3⟩
   .rw[Ws]at z
    cases b:x==n with
    |true=>
     rw[b]at z;cases z;exact .inr #[by lia,#[_,Y_ _ _ _ _ (UI _ rfl),rfl],by simp_all]
    |false=>simp_all
   exact .inr #[by lia,z2,by simp_all]
  rw[if_neg a]at e ⊢;rcases Hy r _ _ e with z|⟨z1,z2,z3⟩
  .exact .inl z
  simp_all
theorem xQ:∀(names:List (Str×Z'))(n:Nat)(ab5:List (Str×eg)),(∀x y c,ab5.lookup x=ap c->ab5.lookup y=ap c->x=y)->(∀x c,ab5.lookup x=ap c->c<n)->
  ∀x y c,(ox n names ab5).lookup x=ap c->(ox n names ab5).lookup y=ap c->x=y
 |[],_,_,h,_=>h
 |(z,k)::r,n,ab5,h,hl=>by
  unfold ox
  split
  .refine xQ r _ _ (λx y c b a=>?_) λx c e=>?_
   .rw[Ws]at b a
    cases f:x==z<;>cases g:y==z<;>rw[f]at b<;>rw[g]at a
    .exact h x y c b a
    .exact absurd (hl _ _ b) (by lia)
    .exact absurd (hl _ _ a) (by lia)
    simp_all
   rw[Ws]at e;cases f:x==z<;>rw[f]at e
   .exact WX (hl _ _ e)
   simp_all
  exact xQ r _ _ h hl
theorem vI(h:Q (newEnv scope s.heap.objs.size g (ox (s.heap.objs.size+1) scope.names cl) a ay .none (ap env) abw) { s with heap:=F' (s.heap.push { cls:=.type "dict",data:=.dict (tX []) }) scope.names }):
  eS M A (newFunctionEnv scope g cl [] a ay .none<|some env) Q E s:=by
 refine cT (wpAny_alloc ?_);refine cT (wpAny_layCells _ (by lia) _ _ _ _ ?_)
 rw[Vw ..];exact cT (by exact eX (eX h))
abbrev bn(X:Cx)(N:ab')(scope:pt)(cl:List (Str×eg))(C:eg)(s₀:ez)(H₀:Hp)(fp:acb)(pl:acg):Cx:=
 { Qa X N scope (ox (C+1) scope.names cl) C s₀ H₀ fp pl with fn:=λx=>scope.names.lookup x==ap .cell }
structure CompOkC(X:Cx)(scope:pt)(cl:List (Str×eg))(ls fs:ab')(js:List Nat):Prop where
 kind:scope.kind=.function
 locs:∀x∈scope.names,x.2=.local->scope.names.lookup x.1=ap .local
 clos:abv scope X.env=pure cl
 cells:∀x c,cl.lookup x=ap c->X.env.cells.lookup x=ap c
 has:∀x,((UF scope X.env).names.lookup x=ap .cell\/(UF scope X.env).names.lookup x=ap .free)->scope.names.lookup x=ap .cell\/∃c,cl.lookup x=ap c
 frees:Frees X scope fs js
 own:∀x∈fs,(x,XQ)∉scope.names
 once:∀x∈scope.names,x.2=.cell->∀c,cl.lookup x.1=ap c->False
theorem DC(I:Inv X a U H s)(co:CompOkC X scope cl ls fs B)(m:∀b∈fp,kO X a H b/\b<s.heap.objs.size):
  Inv (bn X (ls++fs) scope cl s.heap.objs.size s H fp a) [] (dy ls B U) H { s with heap:=F' (s.heap.push { cls:=.type "dict",data:=.dict (tX []) }) scope.names,toks:=t' }:=by
 have w:∀b o,s.heap.get? b=ap o->(F' (s.heap.push { cls:=.type "dict",data:=.dict (tX []) }) scope.names).get? b=ap o:=λb o e=>Y_ _ _ _ _ (UB _ e);have lk:∀b o,s.heap.get? b=ap o->b≠s.heap.objs.size:=λb o e=>UT (UD e);have g:∀{x:Str}{c:eg},(ox (s.heap.objs.size+1) scope.names cl).lookup x=ap c->cl.lookup x=ap c\/(s.heap.objs.size+1<=c/\(F' _ scope.names).IsCell c ay/\(x,XQ)∈scope.names):=λ{x c} e=>by
  have hs:(s.heap.push { cls:=.type "dict",data:=.dict (tX []) }).objs.size=s.heap.objs.size+1:=Vw ..;rw[<- hs]at e ⊢;exact Hy _ _ _ e
 have P:∀{x:Str}{c:eg},cl.lookup x=ap c->c<s.heap.objs.size:=λ{x c} e=>by
  obtain⟨v,z⟩:=I.cell x c (co.cells x c e);exact z.lt
 refine#[#[I.ok.mod,co.kind,I.ok.glob,I.ok.blt,UQ _,λx y c M E=>?_,λx N=>?_,λx c h e=>?_,I.ok.hd,I.ok.frames,.inl rfl,λb l=>#[UT (m b l).2,λx c e=>?_],
   λb o e=>I.bs b o e,UL I.ok.bsz I.sz,λb o e l=>?_,λb l hf=>?_,I.stack,λb l=>I.stkFree b l],
  rfl,I.bare,Un.kept w,#[λ_=>ay,(Heap.Ns.new s.heap<|.type "dict").keeps (Y_ _ _),λi x v M E h3=>?_],λx c e=>?_,I.hok.fresh (UQ _),λx c e=>?_,λp hp=>?_,I.hok.kept w,?_]
 .refine xQ scope.names _ cl (λx y c e1 e2=>I.ok.inj x y c (co.cells x c e1) (co.cells y c e2)) (λx c e=>WX (P e)) x y c M E
 .rcases co.has x N with z|⟨c,z⟩
  .exact V7.mp (WC _ _ _<|.inl z)
  .exact V7.mp (WC _ _ _<|.inr<|by rw[z];rfl)
 .rcases g e with z|⟨z,_,_⟩
  .exact(co.once _ (Vy<|beq_iff_eq.mp h) rfl c z).elim
  .exact Yl z
 .rcases g e with z|⟨z,_,_⟩
  .exact(m b l).1.2.2.2.2.1 x c (co.cells x c z)
  .exact Ww (UM (m b l).2<|Yl z)
 .obtain⟨f0,f1,W,f3,_⟩:=(m b l).1
  rcases f3 with z|z
  .exact I.ok.noex b o e z
  .exact absurd (UM (UD (I.ok.bs b o e).1) z) (Vs _)
 .obtain⟨f0,f1,W,f3,_⟩:=(m b l).1
  rcases UK.mp (I.stkSub b hf) with z|z
  .exact f1 z
  .exact W z
 .have C:¬i<ls.length:=λC=>by
   have f:(dy ls B U)[i]?=ap (ap v):=E;unfold dy at f;rw[Wz (by simpa using C),UH,UC C]at f
   cases f
  have hN:fs[i-ls.length]?=ap x:=by
   have J:(ls++fs)[i]?=ap x:=M
   rwa [VP (by lia)]at J
  obtain⟨j,hj,N,Z,R⟩:=co.frees.get hN;have G:U[j]?=ap (ap v):=by
   have f:(dy ls B U)[i]?=ap (ap v):=E;unfold dy at f;rw[VP (by simpa using C),UA,UH,hj]at f
   have q:(U[j]?).join=ap v:=by simpa using f
   cases e:U[j]? with
   |none=>rw[e]at q;cases q
   |some o=>rw[e]at q;have q':o=ap v:=q;rw[q']
  obtain⟨mX,_,K⟩:=I.loc;have F:RG X.env.scope x:=by
   rcases Z with z|z
   .exact .inr (.inl z)
   .exact .inr (.inr z)
  obtain⟨u,ru,lo⟩:=K j x v N G F;refine#[u,ru,.inr #[R,?_]];have A:x∈fs:=VD hN;have r:∃c,(ox (s.heap.objs.size+1) scope.names cl).lookup x=ap c:=by
   rcases co.has x R with z|⟨c,z⟩
   .exact absurd (Vy z) (co.own x A)
   .exact V7.mp (WC _ _ _<|.inr<|by rw[z];rfl)
  obtain⟨c,S⟩:=r;refine#[c,S,?_];have Q:cl.lookup x=ap c:=by
   rcases g S with z|⟨_,_,z⟩
   .exact z
   .exact absurd z (co.own x A)
  rcases lo with⟨Y,_⟩|⟨_,c',e',z⟩
  .rcases Z with q|q<;>(rw[q]at Y;cases Y)
  .rw[co.cells x c Q]at e'
   cases e';obtain⟨o,O,hd⟩:=z;exact#[o,w _ _ O,hd]
 .rcases g e with z|⟨_,z,_⟩
  .obtain⟨v,o,O,hd⟩:=I.cell x c (co.cells x c z)
   exact#[v,o,w _ _ O,hd]
  .exact#[_,z]
 .rcases g e with z|⟨z,_,_⟩
  .exact I.freeC x c (co.cells x c z)
  .exact I.hok.fresh (Yl z)
 .have L:p∈X.pn++a:=by
   have q:p∈(X.pn++a)++[]:=hp;simpa using q
  obtain⟨e,n,ne,nf,d⟩:=I.pin p L;refine#[w _ _ e,n,lk _ _ e,λl=>?_,d];rcases UK.mp (I.stkSub p.1 l) with z|z
  .exact ne z
  .exact nf z
 .show (dy ls B U).length=(ls++fs).length
  unfold dy;rw[UU,UA,UA,UU,co.frees.length]
theorem rg{R:ax->eg->abm->ez->Prop}{Q:VK}(hc:X.calm=true)(co:CompOkC X scope cl ls fs js)(hY:∀(C:eg)(s₀:ez)(H₀:Hp)(h:acb)(pl:acg),PG (bn X (ls++fs) scope cl C s₀ H₀ h pl) tg g/\Qb (bn X (ls++fs) scope cl C s₀ H₀ h pl) ifs tt/\PE (bn X (ls++fs) scope cl C s₀ H₀ h pl) elt te)(I:Inv X a U H1 s2)(T:Turn X.prog X.w X.K tg J h it tn)(st:tn 0 s2.heap)(M:∀b∈h,kO X a H1 b)(q:∀p,H1 p=ay->∃W:Nat->Nat->St->Hp->Prop,(∃m,W 0 m (dy ls js U) (upd H1 p<|.lst []))/\∀i m j H',W i m j H'->
   (J.stop i H'/\Q (.ref p) H')\/(J.go i H'/\∃N:St->Hp->Prop,(∀σ2 H2,N σ2 H2->∃m',m'<m/\W (i+1) m' σ2 H2)/\∀x H2,J.yld i H' x H2->g x j H2 λσ3 H3=>tt σ3 H3 λc H4=>
    if c=true then te σ3 H4 λy H5=>∃ys,H5 p=ap (.lst ys)/\ys.length<sizeLine/\N σ3 (upd H5 p<|.lst (ys++[y])) else N σ3 H4))(hR:∀(p C:eg)(H':Hp)(s':ez)(m:ach),s'.heap.Ns C m->Inv X a U H' s'->H' C=ay->C≠X.env.locals->X.s₀.heap.objs.size<=C->(∀x c,X.env.cells.lookup x=ap c->c≠C)->(∀pp∈X.pn++a,pp.1≠C)->Q (.ref p) H'->R (.ref p) C (.ok .next) s'):
  eS (fv X.prog X.w) X.A (newList []) (λab5 s₃=>eS (fv X.prog X.w) X.A (newFunctionEnv scope X.env.globals cl [] X.env.qual ay .none<|some X.env) (λcenv s₄=>
   y' (fv X.prog X.w) X.A (.compStart (.ListComp elt [#[tg,iter,ifs,0]] scope pos) 0 (.ref it) ab5 { cenv with scope:=UF scope X.env }) (R ab5 cenv.locals) s₄) E s₃) E s2:=by
 have hp0:H1 s2.heap.objs.size=none:=I.hok.fresh (UQ _);obtain⟨W,⟨m0,w0⟩,turn⟩:=q s2.heap.objs.size hp0;refine x9 (vI ?_);dsimp only;have I3:Inv X a U (upd H1 s2.heap.objs.size<|.lst []) _:=
  I.lnew (ab8:=[]) (t':=s2.toks) .nil (WM _)
 generalize S:({ s2 with heap:=s2.heap.push { cls:=.type "list",dict:=ay,data:=.seq ([]:aca).toArray } }:ez)=s3 at I3;have H:s2.heap.push { cls:=.type "list",dict:=ay,data:=.seq ([]:aca).toArray }=s3.heap:=by rw[<- S]
 rw[H];have hsz3:s3.heap.objs.size=s2.heap.objs.size+1:=by rw[<- H,Vw]
 have hk3:∀b o,s2.heap.get? b=ap o->s3.heap.get? b=ap o:=λb o e=>by rw[<- H];exact UB _ e
 have hlt:∀b∈h,b<s2.heap.objs.size:=λb f=>by
  obtain⟨o,e,_⟩:=T.obj _ _ st b f;exact UD e
 have Y:∀b∈h,upd H1 s2.heap.objs.size (.lst []) b=none:=λb f=>by
  rw[aM (UT<|hlt b f)];exact(M b f).1
 have hf3:∀b∈h,kO X a (upd H1 s2.heap.objs.size<|.lst []) b/\b<s3.heap.objs.size:=λb f=>#[#[Y b f,(M b f).2],by rw[hsz3];exact WX (hlt b f)]
 have hk4:∀b o,s3.heap.get? b=ap o->(F' (s3.heap.push { cls:=.type "dict",data:=.dict (tX []) }) scope.names).get? b=ap o:=λb o e=>Y_ _ _ _ _ (UB _ e);have I4:=DC (t':=s3.toks) I3 co hf3;generalize F' (s3.heap.push { cls:=.type "dict",data:=.dict (tX []) }) scope.names=h₁ at hk4 I4;have st4:tn 0 h₁:=T.keep _ _ _ st λb f o e=>hk4 b o (hk3 b o e);obtain⟨hg,ht,he⟩:=hY s3.heap.objs.size s3 (upd H1 s2.heap.objs.size<|.lst []) h a;have B:∀{H':Hp},(∀b∈h,H' b=ay)->∀b∈h,kO _ [] H' b:=λ{H'} hn b f=>by
  obtain⟨f0,f1,f2,f3,f4,f5⟩:=M b f;refine#[hn b f,UT (hf3 b f).2,λz=>?_,.inl f,λx c e=>(I4.ok.exf b f).2 x c e,λpp P=>f5 pp ?_]
  .rcases UK.mp (I3.stkSub b z) with y|y
   .exact f1 y
   .exact f2 y
  .have q:pp∈(X.pn++a)++[]:=P
   simpa using q
 have loop:∀s₄:ez,s₄={ s3 with heap:=h₁,toks:=s3.toks }->
   y' (fv X.prog X.w) X.A (.compLoop (.ListComp elt [#[tg,iter,ifs,0]] scope pos) 0 (.ref it) (.ref s2.heap.objs.size)<|compEnvC scope (ox (s3.heap.objs.size+1) scope.names cl) s3.heap.objs.size X.env) (R (.ref s2.heap.objs.size) s3.heap.objs.size) s₄:=by
  rintro s₄ rfl
  refine sL (λn s'=>∃i j H',Inv _ [] j H' s'/\tn i s'.heap/\(∀b∈h,H' b=ay)/\W i n j H') ?_ m0 #[0,_,_,I4,st4,Y,w0]
  rintro n s5 ⟨i,G,H5,I5,st5,Z,w5⟩
  rcases turn i n G H5 w5 with⟨stop,qn⟩|⟨go,N,hN,step⟩
  .refine bE (T.done (bn X (ls++fs) scope cl s3.heap.objs.size s3 (upd H1 s2.heap.objs.size<|.lst []) h a) rfl rfl rfl hc i [] s5 G H5 _ I5 (B Z) st5 stop) λr s6 l=>?_
   obtain⟨hr,I6⟩:=l;subst hr;obtain⟨m6,hn6,_⟩:=I6.loc;have IX:Inv X a U H5 s6:=I3.call' I6.os I6.base I6.hok I6.bare λb f=>#[(M b f).2.2.2.1,(M b f).2.1,(M b f).2.2.2.2.1,(M b f).2.2.2.2.2];refine hR _ _ H5 s6 m6 hn6 IX I6.free (Ww I3.lt) I3.sz (λx c e z=>?_) (λpp P z=>?_) qn
   .obtain⟨v,l⟩:=I3.cell x c e
    have zl:=l.lt;rw[z]at zl;exact Vs _ zl
   .have zl:=UD (I3.pin pp P).1
    rw[z]at zl;exact Vs _ zl
  .refine bE (T.item (bn X (ls++fs) scope cl s3.heap.objs.size s3 (upd H1 s2.heap.objs.size<|.lst []) h a) rfl rfl rfl hc i [] s5 G H5 _ I5 (B Z) st5 go) λr s6 l=>?_
   obtain⟨u,hr,h6⟩:=l;subst hr;refine bE h6 λ_ s7 l=>?_;obtain⟨x,H7,I7,r7,y7,L,fr7⟩:=l;have I7':=I7.pinned (B fr7) (T.obj _ _ L);refine bE (hg _ s7 G H7 x u _ I7' r7<|step x H7 y7) λ_ s8 l=>?_;obtain⟨σ8,H8,I8,q8⟩:=l
   have again:∀{s:St}{H9:Hp}{O:ez},Inv _ ([]++oX h s7.heap) s H9 O->N s H9->
     ∃m,m<n/\∃i j H',Inv (bn X (ls++fs) scope cl s3.heap.objs.size s3 (upd H1 s2.heap.objs.size<|.lst []) h a) [] j H' O/\tn i O.heap/\(∀b∈h,H' b=ay)/\W i m j H':=λ{s H9 O} I9 n9=>by
    obtain⟨m',hm,w9⟩:=hN s H9 n9;refine#[m',hm,i+1,s,H9,I9.unpinned,T.keep _ _ _ L λb f o e=>(I9.pin (b,o)<|Vm _<|Vm _<|f_ f e).1,λb f=>?_,w9];obtain⟨o,e,d⟩:=T.obj _ _ L b f;exact(I9.pin (b,o)<|Vm _<|Vm _<|f_ f e).2.1
   refine bE (ht _ s8 σ8 H8 _ I8 q8) λok O l=>?_;obtain⟨H9,I9,q9⟩:=l;cases ok with
   |false=>exact again I9 q9
   |true=>
    refine bE (he _ O σ8 H9 _ I9 q9) λxv s10 l=>?_;obtain⟨y,H10,I10,r10,ys,P,hl,n10⟩:=l;obtain⟨z,ab8,n',r,hl',e⟩:=I10.lstM P;refine ot X0 #[_,e,rfl] F.entry_list_append (F.args_list_append_2 _ _) (Zy s2.heap.objs.size ab8.toArray n' xv<|by rw[US];lia) #[e,?_]
    refine again (I10.lset (its':=ab8++[xv]) P e (by simp) (r.append<|.cons r10 .nil) ?_) n10
    rw[UU,Wi];lia
 have se:({ s2 with heap:=h₁ }:ez)={ s3 with heap:=h₁,toks:=s3.toks }:=by rw[<- S]
 exact codeAny_compStart_list (loop _ se) (T.self _ 0 _ _ _ st4<|loop _ se)
theorem Fl(G:X.calm=true)(co:CompOkC X scope cl ls fs js)(F:PI X tg iter wi)(K:∀(C:eg)(a:ez)(H₀:Hp)(f:acb)(pl:acg),PG (bn X (ls++fs) scope cl C a H₀ f pl) tg g/\Qb (bn X (ls++fs) scope cl C a H₀ f pl) ifs tt/\PE (bn X (ls++fs) scope cl C a H₀ f pl) elt te)(E:∀x,re iter X.env x=pure x):PE X (.ListComp elt [#[tg,iter,ifs,0]] scope pos) (Hb wi ls js g tt te):=by
 intro l s U H Q I h;refine abA rfl E co.clos co.kind co.locs (bE (F _ s U H _ I h) λN O w=>bE w λB s2 A=>?_);obtain⟨L,f,P,J,H2,e,I2,T,i,o,q⟩:=A;subst e;refine rg G co K I2 T i o q ?_;intro p C H' R m r IX y z j b c u;exact#[m,r,λM v=>#[.ref p,H',IX.turned v.extBut y z (.inr j) b c,rfl,u]]
end _2
namespace _3
open PySem _2
theorem SY(h:N.Nodup):(bn X N scope cl C a H₀ b pl).N.Nodup:=h
theorem B0(h:FC X scope fs js cl)(s:scope.kind=.function)(f:∀y∈scope.names,(y.2=.free->y.1∈fs)/\(y.2=.cell->y.1∉fs/\scope.names.lookup y.1=ap .cell))(r:∀x∈scope.names,x.2=.local->scope.names.lookup x.1=ap .local)(l:abv scope X.env=pure cl):CompOkC X scope cl ls fs js:=by
 obtain⟨b,u,a,m,p⟩:=h.ok;subst m;refine#[s,r,l,λy d h=>p _ (Vy h),λy h=>?_,b,λx i j=>((f _ j).2 rfl).1 i,λx i j c e=>((f _ i).2 j).1 (WE<|Vy e).1];have q:scope.names.lookup y=ap .cell\/y∈fs:=by
  rcases h with h|h
  .obtain⟨o,b,a|⟨a,_⟩⟩:=io h
   .exact .inl ((f _ b).2 a.symm).2
   exact .inr ((f _ b).1 a)
  obtain⟨o,b,a|⟨a,_⟩⟩:=io h
  .exact .inr ((f _ b).1 a.symm)
  trivial
 exact q.imp id (lH a)
theorem Hv(p:X.calm=true)(h:FC X scope fs js cl)(i:scope.kind=.function)(o:∀y∈scope.names,(y.2=.free->y.1∈fs)/\(y.2=.cell->y.1∉fs/\scope.names.lookup y.1=ap .cell))(e:∀x∈scope.names,x.2=.local->scope.names.lookup x.1=ap .local)(c:abv scope X.env=pure cl)(m:DI X B tg iter wi)(j:∀(C:eg)(a:ez)(H₀:Hp)(b:acb)(pl:acg),DG (bn X (ls++fs) scope cl C a H₀ b pl) L8 tg g)(f:∀(C:eg)(a:ez)(H₀:Hp)(b:acb)(pl:acg),RS (bn X (ls++fs) scope cl C a H₀ b pl) L8 ifs tt)(hE:∀(C:eg)(a:ez)(H₀:Hp)(b:acb)(pl:acg),DE (bn X (ls++fs) scope cl C a H₀ b pl) L8 elt te)(l:∀x,re iter X.env x=pure x):DE X B (.ListComp elt [#[tg,iter,ifs,0]] scope pos) (aZ wi ls js g tt te):=
 aT (Fl p (B0 h i o e c) m (λC a H₀ b pl=>#[GS (j C _ _ b pl),Dm (f C _ _ b pl),Io<|hE C _ _ b pl]) l) λ_ _ _ h=>rR h
section
variable{K:UE}{f:eg}{fd:hG}{ps:ab'}{x ab3:Str}{st:om}{dv:Int}
abbrev OkV(P:fx)(w:hB)(mg:ach)(base:h9)(_:FunV K x ab3 st f fd)(_:Binds K fd ps [])(k:Nat)(S:Sd):Prop:=FnOk P w K mg base (kI P w) k f fd ps (bC K ps.length S)
theorem Qd(i:S=aE N T)(F:FunV K x ab3 st f fd)(b:Binds K fd ps [])(e:FnScope N ps (aJ st))(g:FnScope N ps (aJ st)->∀(c:ax)(A:gx)(a:List Env)(s:ez)(H:Hp)(E:XK)(B:Bd)(EE:DX),Room k (A.deeper<|V5 ab3 (aJ st) s.heap.objs.size f c)->tm K B EE E->
   xI (fk (kI P w) P w K mg base N ab3 (aJ st) f c A a s H E) B (bt st) (T EE)):OkV P w mg base F b (k+1) S:=by
 subst i;exact (λF S p=>by
    obtain⟨L,G,kV,l,I,J,b,y,g,_,rfl,lk,c⟩:=F.ex;refine NJ lk c S (λm H Q E h=>h.1) λA a s H m Q E i e=>?_;obtain⟨v,z,M,QQ,EE,rh,r,j,u,ux⟩:=e;exact#[_,p _ A _ s H E (Bd.of M H) _ i ux.drp,_,M,_,#[Frm.refl,rh,.startN N r],j,#[λY M' q U H' f o=>u.drp _ M' q _ H' o.rh f rfl,u.drp,λY M' q=>q.elim,λY M' q=>q.elim]]) F e (g e)
structure NV(K:UE)(x:Str)(st:om)(f:eg)(fd:hG)(dv:Int):Prop where
 a:VB K ff x=ap (ap<|.ref f)
 F:∃(oc:ax)(od:Option eg)(kV doc pm:ax)(an:Option eg)(cdv ct:ax)(osl:Array (Option ax))(T:eg)(ob:Obj)(m:Nat)(t:Tok),
  fd=WO x x (cj st) (bt st) (aJ st) (.ref T) kV doc pm an cdv ct/\K.lookup f=ap #[oc,od,.func fd,osl]/\X2 K cdv x=true/\K.lookup T=ap ob/\ob.data=.seq (tX [.int dv t]) m
 kp:VJ K (.ref f)=true
theorem SA{kV:ax}(a:VB K ff x=ap (ap<|.ref f))(l:K.lookup f=ap #[u,s,.func (WO x x (cj st) (bt st) (aJ st) (.ref T) kV e o j b p),i])(c:X2 K b x=true)(k:VJ K (.ref f)=true)(lt:K.lookup T=ap #[r,q,.seq (tX [.int dv t]) m,g]):NV K x st f (WO x x (cj st) (bt st) (aJ st) (.ref T) kV e o j b p) dv:=
 #[a,#[u,s,kV,_,o,j,_,p,_,T,_,m,t,rfl,l,c,lt,rfl],k]
abbrev BndV(ps:ab')(x:Str)(st:om)(dv:Int):Prop:=∀(kV doc pm:ax)(an:Option eg)(cdv ct:ax)(T:eg)(t:Tok),
 (∀u:ax,∃k,abx (WO x x (cj st) (bt st) (aJ st) (.ref T) kV doc pm an cdv ct) #[[u],[]]=seqItems? (.ref T) >>= k/\k (ap (tX [.int dv t]))=pure (ps.zip [u,.int dv t]))/\
 ∀u v:ax,∃k,abx (WO x x (cj st) (bt st) (aJ st) (.ref T) kV doc pm an cdv ct) #[[u,v],[]]=seqItems? (.ref T) >>= k/\k (ap (tX [.int dv t]))=pure (ps.zip [u,v])
theorem gv(X:K.In h)(G:h.Ns ff mg)(l:NV K x st f fd dv)(F:ps.length=2)(q:BndV ps x st dv):GV K mg x st f fd ps dv:=by
 obtain⟨a,⟨z,E,kV,B,j,e,A,g,r,T,H,m,t,rfl,y,c,lt,p⟩,kp⟩:=l;refine#[#[#[z,E,kV,_,j,e,_,g,_,T,rfl,y,c],kp],λs us KX b=>?_,#[t,λs us KX b=>?_],kp,V9 X G a]
 .rcases us with _|⟨u,_|⟨v,_|_⟩⟩<;>try simp_all
  obtain⟨k,o,i⟩:=(q kV _ j e _ g T t).2 u v;exact W.binds_K KX rfl lt p o i
 rw[UU,F]at b;rcases us with _|⟨u,_|_⟩<;>try cases b
 obtain⟨k,o,i⟩:=(q kV _ j e _ g T t).1 u;exact W.binds_K KX rfl lt p o i
end
section
variable{dv:Int}
def y8(T:Sd)(EE:DX)(n:Nat)(dv:Int)(t:dG):bh:=λY M Q=>t Y M λa M1=>a.length+1=n/\calls T EE (a++[.int dv]) M1 Q #[]
def Jl(X:Cx)(B:Bd)(x:Str)(T:Sd)(EE:DX)(n:Nat)(dv:Int):Prop:=∃(st:om)(f:eg)(fd:hG)(ps:ab')(k:Nat)(CX:m4)(E:XK),GV X.K X.mg x st f fd ps dv/\FnOk X.prog X.w X.K X.mg X.base CX k f fd ps (bC X.K n T)/\Room k X.A/\bW CX X E/\tm X.K B EE E
theorem GR(h:Jl X B x T EE n dv)(r:Gl X x)(w:DA X B (e::es) t)(b:(x==("__debug__":Str))=eC)(v:eH (e::es) X.env=(eC,g3 e X.env)::eH es X.env)(c:(j0 pos<|starEach es X.env).any (·.1)=eC):
  DE X B (.Call (.Name x p) (e::es) [] pos) (y8 T EE n dv t):=by
 obtain⟨_,_,_,_,_,_,_,h,F,q,o,ux⟩:=h;obtain⟨j,l⟩:=h.d;refine aT (zU F q r h.m h.k l (dvs:=[.int dv]) (.cons #[j,rfl] .nil) o w b v c) ?_
 rintro U H Q ⟨Y,M,QQ,s,h,u⟩
 exact#[Y,M,_,s,h,λy M1 g z H1 a i1 i=>cF g.2 a (i.append<|.cons rfl .nil) (by rw[UU,<- i.length];exact g.1) (u.go i1) ((s.ux ux).go i1)]
theorem Ep(h:GV X.K X.mg x st f fd ps dv)(F:FnOk X.prog X.w X.K X.mg X.base (kI X.prog X.w) k f fd ps (bC X.K m T))(Y:GF X.K X.mg q sg g fg pg)(G:FnOkN X.prog X.w X.K X.mg X.base (kI X.prog X.w) k2 g fg pg (iH X.K C Tk))(O:X.stack=X.env::X.outer)(J:X.env.frame=ap X.env.locals)(v:X.ex=[])(hr:Room k X.A)(hg:Gl X x)(ha:DA X.nox B (e::es) t)(ES:XS X.K C S)(hgC:Gl X u)(hmC:X.mg u=ap (.ref S))(L:Room k2 X.A)(P:Gl X q)(hN:X.N.Nodup)(hi:X.N[i]?=ap y)(hy:xH X.env.scope y)(hj:X.N[j]?=ap n)(hn:X.env.kindOf n=ap .local)(hl:X.N[l]?=ap z)(hz:xH X.env.scope z)(Q:(x==("__debug__":Str))=eC)(I:(u==("__debug__":Str))=eC)(Z:(q==("__debug__":Str))=eC)(hdn:(n==("__debug__":Str))=eC)(R:(n==("__classdict__":Str))=eC)(he:eH (e::es) X.env=(eC,g3 e X.env)::eH es X.env)(hpl:(j0 W<|starEach es X.env).any (·.1)=eC)(M:mo (.Call (.Name x p) (e::es) [] W) (ap<|.Name y yp) ep.line X.env=pure eC)(a:mo (.Call (.Name q gp) [.Name n s] [] r) (ap<|.Name z zp) o.line X.env=pure eC)(hf:X.fn y=true\/X.env.scope.names.lookup y=ap .local)(H:X.fn n=true\/X.env.scope.names.lookup n=ap .local)(U:X.fn z=true\/X.env.scope.names.lookup z=ap .local):
  DS X B (.Try [.Assign [.Name y yp] (.Call (.Name x p) (e::es) [] W) ep] [.ExceptHandler (ap<|.Name u np) (ap n) [.Assign [.Name z zp] (.Call (.Name q gp) [.Name n s] [] r) o] c] [] [] pos) (sY C T m [dv] t i j l Tk):=by
 obtain⟨tk,hb⟩:=h.d;exact Dt O J v F hr hg h.m h.k hb (.cons #[tk,rfl] .nil) ha ES hgC hmC G L P Y.m Y.k Y.b hN hi hy hj hn hl hz Q I Z hdn R he hpl M a hf H U
end
end _3
namespace _3
open PySem _2 PyProof.Rows
def FS:g9:=λx y M Q=>onR x λa=>mLe (M a) (λb=>onI y λi=>0<=i/\so b[i.toNat]? λd=>Q d M) (s2 (uF M a y) λd=>Q d M)
theorem JC(R:X.A.units+1<n7):S2 X (liftR2 X FS):=by
 rintro l s U H x y v u Q I m o ⟨d1,d2,M,QQ,c,F,p,h,j⟩
 unfold FS at h
 replace h:=h.inv;obtain⟨a,rfl,h⟩:=h
 cases F
 replace h:=h.inv;rcases h with⟨xs,N,h⟩|h
 .replace h:=h.inv;obtain⟨i,rfl,E,h⟩:=h
  obtain⟨d,f,h⟩:=h.inv;cases p;cases m;obtain⟨t,rfl⟩:=o;obtain⟨K,G,L⟩:=c _ _ N;obtain⟨C,r,pl,hz⟩:=I.list (SqL.of G);obtain⟨z,J,P⟩:=L.get f;obtain⟨w,S,b⟩:=r.get J;have W:=ia;have O:i.toNat<K.length:=by
   rcases VX _ _ with q|q
   .exact q
   simp_all
  exact wpAny_getItem_list pl.isList E (by lia) (by simp_all) #[z,H,I,b,j _ M h _ H c Frm.refl P]
 obtain⟨d,f,h⟩:=h.inv;cases m;rcases nC c p f with⟨z,_⟩|⟨d',w,z,g,b⟩
 .cases z
 cases z;exact rF R I g o λZ Y I3 e=>#[w,H,I3,e,j _ M h _ H c Frm.refl b]
def vx(to ti te:bh)(r:g9):av:=λD Y M=>to Y M λo M1=>ti Y M1 λi M2=>FS o i M2 λx M3=>te Y M3 λy M4=>r x y M4 λz M5=>kL o i z M5 λM6=>D.nx Y M6
theorem zT(G:X.A.units+1<n7)(ho:DE X B o to)(hi:DE X B i ti)(he:DE X B e te)(hp:Im X F (liftR2 X r))
  (ha:∀m p new,augStore i m p new=(do py [new,m,p] (abq m p new);release [new,m,p] [];pure .next)):DS X B (.AugAssign (.Subscript o i tpos) F e pos) (vx to ti te r):=by
 refine bR (LO ho hi (JC G) he hp (zf G) ha) ?_
 rintro D U H ⟨Y,M,DD,s,h,I⟩
 refine#[Y,M,_,s,h,λz M1 O v1 H1 a w y=>?_];refine#[Y,M1,_,s.go a w,O,λC M2 W v2 H2 c g E=>?_];refine#[z,C,M2,_,c,y.mf a g,E,W,λN M3 K v3 H3 b j R=>?_];refine#[Y,M3,_,s.go b ((w.trans g).trans j),K,λP M4 Z v4 H4 x l L=>?_];refine#[N,P,M4,_,x,R.mf b l,L,Z,λd5 M5 J v5 H5 v q S=>?_];refine#[z,C,d5,M5,_,v,y.mf a (((g.trans j).trans l).trans q),E.mf c ((j.trans l).trans q),S,J,λM6 Q H6 u f6=>?_];have f:=((((w.trans g).trans j).trans l).trans q).trans f6;exact I.nx Y M6 Q U H6 f (s.go u f)
end _3
namespace _3
open PySem _2
def LQ:qr:=λc M Q=>one c λb=>onI b λa=>Q (.int (if a<0 then -a else a)) M
theorem DJ:bH X (.builtin "abs") (liftC X LQ):=by
 rintro a s U H m us Q I r ⟨ds,M,QQ,i,f,h,c⟩
 unfold LQ at h
 replace h:=h.inv;obtain⟨j,rfl,h⟩:=h
 replace h:=h.inv;obtain⟨b,rfl,h⟩:=h
 obtain⟨v,rfl,g⟩:=gy (ds:=[]) f;cases g;obtain⟨u,rfl,e⟩:=gD r;obtain⟨t,rfl⟩:=e;exact PyProof.Rows.call_abs_int λu l=>#[.int _,H,I.tok _,#[_,rfl],c _ M h _ H i Frm.refl rfl]
theorem Jf:fy "abs"=ap (.builtin "abs"):=by rfl
end _3
namespace _2
open PySem PySem.Spec PyProof.Rows
theorem GU(hN:X.N.Nodup)(E:X.N[i]?=ap x)(hx:xH X.env.scope x)(hc:X.calm=true)(co:CompOkC X scope cl ls fs js)(hi:PI X tg iter wi)
  (hY:∀(C:eg)(c:ez)(H₀:Hp)(l:acb)(pl:acg),PG (bn X (ls++fs) scope cl C c H₀ l pl) tg g/\Qb (bn X (ls++fs) scope cl C c H₀ l pl) ifs tt/\PE (bn X (ls++fs) scope cl C c H₀ l pl) elt te)
  (B:mo (.ListComp elt [#[tg,iter,ifs,0]] scope pos) (ap<|.Name x G) f.line X.env=pure true)
  (hs:∀x,re iter X.env x=pure x) (hf:X.fn x=true\/X.env.scope.names.lookup x=ap .local):
  PS X (.Assign [.Name x G] (.ListComp elt [#[tg,iter,ifs,0]] scope pos) f) (N_ i<|Hb wi ls js g tt te):=by
 intro F s U H D I h;rw[exec_Assign_Name_used _ _ _ _ B];refine cT (aa8<|wpAny_bind ?_)
 refine cT (kr (abA rfl hs co.clos co.kind co.locs
  (bE (hi _ s U H _ I h) λxv s1 P=>bE P λitv s2 Z=>?_)) (λ_ s' o=>eX (eX o)) λ_ _ e=>e)
 obtain⟨it,l,tn,J,H2,e,I2,T,u,K,q⟩:=Z;subst e;refine rg (Q:=λv=>D.nx (U.set i<|some v)) hc co hY I2 T u K q ?_;intro p C H' s' m M IX W Y A b j o;refine wpAny_assign_Name (rJ IX hN E hx (v:=.ref p) rfl (λR I'' S=>?_) hf);obtain⟨a,O,L⟩:=S;have w:C≠a:=by
  rcases L with z|z
  .simp_all
  exact λy=>b x a z y.symm
 refine#[m,M.sameBut O w,λh3 r=>?_];exact#[_,H',I''.turned (r.extBut) W Y (.inr A) b j,o]
end _2
namespace _3
open PySem _2
theorem Ho(L:X.N.Nodup)(c:X.N[i]?=ap x)(G:xH X.env.scope x)(u:X.calm=true)(h:FC X scope fs js cl)(J:scope.kind=.function)(p:∀y∈scope.names,(y.2=.free->y.1∈fs)/\(y.2=.cell->y.1∉fs/\scope.names.lookup y.1=ap .cell))(m:∀x∈scope.names,x.2=.local->scope.names.lookup x.1=ap .local)
  (e:abv scope X.env=pure cl) (F:DI X B tg iter wi)
  (K:∀(C:eg)(a:ez)(H₀:Hp)(b:acb)(pl:acg),DG (bn X (ls++fs) scope cl C a H₀ b pl) L8 tg g)
  (w:∀(C:eg)(a:ez)(H₀:Hp)(b:acb)(pl:acg),RS (bn X (ls++fs) scope cl C a H₀ b pl) L8 ifs tt)
  (hE:∀(C:eg)(a:ez)(H₀:Hp)(b:acb)(pl:acg),DE (bn X (ls++fs) scope cl C a H₀ b pl) L8 elt te)
  (E:X.env.blockKind=.function) (I:X.env.scope.names.lookup x=ap .local) (o:px.line=pos.line) (O:(scope.names.any λ(n,k)=>n==x&&(k==.local||k==.cell))=eC) (A:∀x,re iter X.env x=pure x) (z:X.fn x=true\/X.env.scope.names.lookup x=ap .local):
  DS X B (.Assign [.Name x px] (.ListComp elt [#[tg,iter,ifs,0]] scope pos) spos) (eZ i<|aZ wi ls js g tt te):=by
 refine bR (GU (g:=liftG0 _ g) (tt:=liftT0 _ tt) (te:=liftE0 _ te) L c G u (B0 h J p m e) F (λC a H₀ b pl=>#[GS (K C _ _ b pl),Dm (w C _ _ b pl),Io<|hE C _ _ b pl]) (JJ E I o O) A z) ?_
 rintro D U H ⟨Y,M,DD,s,h,j⟩
 exact rR #[Y,M,_,s,h,λd M' q v H' l f r=>j.nx _ M' q _ H' f ((s.go l f).set r)]
end _3
namespace _T
open PySem _2 _3
noncomputable def top(i:Nat):Stmt:=PySem.Challenge.pw_twinstride_k54_mean_shares.main.body.getD i (.Pass #[0,0,0,0])
abbrev SV:Stmt:=eQ (top 13) 0
abbrev Tn:Stmt:=eQ (top 13) 1
abbrev ME:Stmt:=eQ (top 13) 2
abbrev Ml:Stmt:=top 14
abbrev Mz:Stmt:=top 15
abbrev Mn:Stmt:=top 16
abbrev NP:Stmt:=top 17
abbrev Nl:Stmt:=top 19
abbrev Nu:Stmt:=top 20
abbrev Mt:Stmt:=top 21
abbrev MX:Stmt:=top 22
abbrev Nc:Stmt:=top 23
abbrev ML:Stmt:=top 25
abbrev NA:Stmt:=top 26
abbrev MV:Stmt:=top 27
abbrev Mu:Stmt:=top 29
abbrev NS:Stmt:=top 31
abbrev N5:Stmt:=top 33
abbrev Ni:Stmt:=top 34
abbrev MI:Stmt:=top 35
abbrev T7:Stmt:=eQ (top 37) 0
abbrev Ub:Stmt:=eQ (top 37) 1
abbrev TZ:Stmt:=eQ (top 38) 0
abbrev SZ:Stmt:=eQ (top 38) 1
abbrev NE:Stmt:=top 39
abbrev N8:Stmt:=top 40
abbrev Mr:Stmt:=top 41
abbrev NL:Stmt:=top 42
abbrev MW:Stmt:=top 43
abbrev Ny:Stmt:=top 45
abbrev MF:Stmt:=top 46
abbrev NH:Stmt:=top 47
abbrev Nt:Stmt:=top 48
abbrev Tj:Stmt:=eQ (top 50) 0
abbrev NI:Stmt:=top 51
abbrev MN:Stmt:=top 52
abbrev Mg:Stmt:=top 54
abbrev MH:Stmt:=top 55
abbrev M_:Stmt:=top 56
abbrev Mo:Stmt:=top 57
abbrev MT:Stmt:=top 58
abbrev Tc:Stmt:=top 59
abbrev NC:Stmt:=top 61
abbrev Ng:Stmt:=top 62
abbrev Nb:Stmt:=top 63
abbrev MP:Stmt:=top 64
abbrev MZ:Stmt:=top 65
abbrev Nm:Stmt:=top 66
abbrev Nd:Stmt:=top 67
abbrev Mi:Stmt:=top 68
abbrev NO:Stmt:=top 69
abbrev Ms:Stmt:=top 70
abbrev MM:Stmt:=top 71
abbrev Nj:Stmt:=top 72
abbrev Mj:Stmt:=top 73
abbrev NM:Stmt:=top 74
abbrev Nx:Stmt:=top 75
abbrev Mp:Stmt:=top 76
abbrev Mv:Stmt:=top 77
abbrev NG:Stmt:=top 78
abbrev Us:Stmt:=top 79
abbrev Mx:Stmt:=top 80
abbrev Mq:Stmt:=top 81
abbrev Mh:Stmt:=top 82
abbrev TU:Stmt:=top 84
abbrev Mm:Stmt:=top 85
abbrev NF:Stmt:=top 86
abbrev No:Stmt:=top 87
abbrev MG:Stmt:=top 88
abbrev lR:Stmt:=top 89
set_option genInjectivity false in
structure Ad where
 C_Ends:eg
 C_Going:eg
 C_Outcome:eg
 C_Walk:eg
 C_Dry:eg
 C_NoBuild:eg
 C_NoCase:eg
 C_NoLine:eg
 C_NoMoment:eg
 C_NoPlace:eg
 C_NoRow:eg
 C_NoText:eg
 C_StrideError:eg
 C_TooBig:eg
 C_TooMany:eg
 (a1 a2 a3 a4 a5 a6 a7 a8 a9 a10 a11 a12 a13 a14 a15 a16 a17 a18 a19 a20 a21 a22 a23 a24 a25 a26 a27 a28 a29 a30 a31 a32 a33 a34 a35 a36 a37 a38 a39 a40 a41 a42 a43 a44 a45 a46 a47 a48 a49 a50 a51 a52 a53 a54 a55 a56 a57 a58 a59 a60 a61 a62 a63 a64 a65 a66 a67 a68 a69 a70:eg)
 (d1 d2 d3 d4 d5 d6 d7 d8 d9 d10 d11 d12 d13 d14 d15 d16 d17 d18 d19 d20 d21 d22 d23 d24 d25 d26 d27 d28 d29 d30 d31 d32 d33 d34 d35 d36 d37 d38 d39 d40 d41 d42 d43 d44 d45 d46 d47 d48 d49 d50 d51 d52 d53 d54 d55 d56 d57 d58 d59 d60 d61 d62 d63 d64 d65 d66 d67 d68 d69 d70:hG)
section
variable{ad:Ad}{M:Mem}{Q:DK}{E:DX}
local macro_rules|`($q⁻¹)=>`({ nx:=λ_ x=>drp $q .non x,rt:=drp $q })
local macro_rules|`(¬$k:num)=>`(dC (.int $k))|`(¬$k:str)=>`(dC (.str $k))
def Fp(w:Ad)(y:DX):av:=ah (cG w.C_Walk (ac 0) (ac 3) "most") (cG w.C_Walk (ac 0) (bP ag) "steps")
def Ha(w:Ad)(y:DX):av:=ah (cG w.C_Walk (ac 0) (ai aw (ac 2) ¬1) "pieces") (Fp w y)
def Ir(w:Ad)(y:DX):av:=ah (cG w.C_Walk (ac 0) (ib<|aa (ai aw (ac 1) ¬1)<|aa (ai aw (ac 2) ¬0) ag) "numbers") (Ha w y)
def J7(w:Ad)(y:DX):av:=ah (cG w.C_Walk (ac 0) (ac 1) "plan") (Ir w y)
def Km(ad:Ad):Sd:=aE ["self","plan","stand","most"] (J7 ad)
theorem u_q7{x0 b a c:D}:Km ad [x0,b,a,c] M Q E=J7 ad (aF E) Q⁻¹ [ap x0,ap b,ap a,ap c] M:=rfl
def Hq(w:Ad)(y:DX):av:=b6 (jd "list" bv (aW w.C_Walk (ac 0) "steps")<|aa (aQ<|aa (ac 1)<|aa (ac 2) ag) ag)
def Lp(w:Ad)(y:DX):av:=ah (aC (ao<|ai oGe (bc bj<|aa (aW w.C_Walk (ac 0) "steps") ag)<|aW w.C_Walk (ac 0) "most") (gZ w.C_Dry y) aB) (Hq w y)
def yb(ad:Ad):Sd:=aE ["self","place","number"] (Lp ad)
theorem u_q2{x0 b a:D}:yb ad [x0,b,a] M Q E=Lp ad (aF E) Q⁻¹ [ap x0,ap b,ap a] M:=rfl
def Ai(w:Ad)(y:DX):av:=ah (b6<|dA w.C_Walk "note_step" (yb w) y 3 (ac 0)<|aa (ac 1)<|aa (ac 3) ag) (az<|ac 3)
def CI(w:Ad)(y:DX):av:=ah (ar (qz (ao<|ai bX (ai aw (aW w.C_Walk (ac 0) "numbers")<|ac 2) ¬0) (¬0) ¬1)<|af 3) (Ai w y)
def qJ(ad:Ad):Sd:=aE ["self","place","name","seen"] (CI ad)
theorem Ui{x0 b a:D}:qJ ad [x0,b,a] M Q E=CI ad (aF E) Q⁻¹ [ap x0,ap b,ap a,ay] M:=rfl
def Cp(w:Ad)(y:DX):av:=az (ai dR (aq<|ai aU (ac 1)<|ac 2)<|ac 3)
def Aw(w:Ad)(y:DX):av:=az (qz (ao<|ai EW (ac 1)<|ac 2) (¬1) ¬0)
def AI(w:Ad)(y:DX):av:=az (qz (ao<|ai bX (ac 1)<|ac 2) (¬1) ¬0)
def D5(w:Ad)(y:DX):av:=ah (aC (ao<|ai bX (ac 0) ¬"less") (Aw w y) aB) (AI w y)
def zJ(w:Ad)(y:DX):av:=ah (aC (ao<|ai bX (ac 0) ¬"by") (az<|ai dR (ai cB (ac 1)<|ac 2)<|ac 3) aB) (D5 w y)
def C9(w:Ad)(y:DX):av:=ah (aC (ao<|ai bX (ac 0) ¬"sum") (Cp w y) aB) (zJ w y)
def AG(ad:Ad):Sd:=aE ["word","y","z","wheel"] (C9 ad)
theorem T6{x0 b a c:D}:AG ad [x0,b,a,c] M Q E=C9 ad (aF E) Q⁻¹ [ap x0,ap b,ap a,ap c] M:=rfl
def BY(w:Ad)(y:DX):av:=az (ai dR (ai aw (ac 1)<|ai aw (ac 2) ¬2)<|ai aw (ac 0) ¬2)
def D4(w:Ad)(y:DX):av:=ah (aC (ao<|ai bX (ai aw (ac 2) ¬0) ¬"pick") (BY w y) aB) (az<|dC .non)
def ju(w:Ad)(y:DX):av:=ah (aC (ao<|ai bX (ai aw (ac 2) ¬0) ¬"take") (az<|ai aw (ac 2) ¬2) aB) (D4 w y)
def nY(ad:Ad):Sd:=aE ["plan","numbers","row"] (ju ad)
theorem qP{x0 b a:D}:nY ad [x0,b,a] M Q E=ju ad (aF E) Q⁻¹ [ap x0,ap b,ap a] M:=rfl
def B2(w:Ad)(y:DX):av:=az (aj (AG w) y 4<|aa (ai aw (ac 3) ¬0)<|aa (ai aw (ac 1)<|ai aw (ac 3) ¬2)<|aa (ai aw (ac 1)<|ai aw (ac 3) ¬3)<|aa (ai aw (ac 0) ¬0) ag)
def Bm(w:Ad)(y:DX):av:=ah (aC (ao<|ai eq (ac 4)<|dC .non) (az<|ai aw (ac 2)<|ac 4) aB) (B2 w y)
def Bg(w:Ad)(y:DX):av:=ah (ar (aq<|aj (nY w) y 3<|aa (ac 0)<|aa (ac 1)<|aa (ac 3) ag)<|af 4) (Bm w y)
def gC(w:Ad)(y:DX):av:=ah (aC (ao<|ai bX (ai aw (ac 3) ¬0) ¬"put") (az<|ai aw (ac 3) ¬2) aB) (Bg w y)
def pw(ad:Ad):Sd:=aE ["plan","numbers","pieces","row","piece"] (gC ad)
theorem lZ{x0 b a c:D}:pw ad [x0,b,a,c] M Q E=gC ad (aF E) Q⁻¹ [ap x0,ap b,ap a,ap c,ay] M:=rfl
def Bi(w:Ad)(ZJ ZL ZM ZN:Sd)(y:DX):av:=b6 (aj ZL y 3<|aa (ac 0)<|aa (ac 4)<|aa (ai aU (ac 2)<|aQ<|aa (ac 3) ag) ag)
def AY(w:Ad)(ZJ ZL ZM ZN:Sd)(y:DX):av:=cJ (jy<|aa (ac 1) ag) (dE 2<|aP (af 3)<|aP (af 4) dh) (Bi w ZJ ZL ZM ZN y)
def zG(w:Ad)(ZJ ZL ZM ZN:Sd)(y:DX):av:=b6 (aj ZM y 3<|aa (ac 0)<|aa (ac 1)<|aa (ac 2) ag)
def CN(w:Ad)(ZJ ZL ZM ZN:Sd)(y:DX):av:=b6 (aj ZN y 3<|aa (ac 0)<|aa (ac 1)<|aa (ac 2) ag)
def Av(w:Ad)(ZJ ZL ZM ZN:Sd)(y:DX):av:=ar (ac 3) (cM (aW w.C_Walk (ac 0) "numbers")<|ai aw (ac 1) ¬1)
def Cn(w:Ad)(ZJ ZL ZM ZN:Sd)(y:DX):av:=ah (b6<|dA w.C_Walk "note_step" (yb w) y 3 (ac 0)<|aa (ac 2)<|aa (ac 3) ag) (Av w ZJ ZL ZM ZN y)
def D1(w:Ad)(ZJ ZL ZM ZN:Sd)(y:DX):av:=ah (ar (aq<|aj (pw w) y 4<|aa (aW w.C_Walk (ac 0) "plan")<|aa (aW w.C_Walk (ac 0) "numbers")<|aa (aW w.C_Walk (ac 0) "pieces")<|aa (ac 1) ag)<|af 3) (Cn w ZJ ZL ZM ZN y)
def CZ(w:Ad)(ZJ ZL ZM ZN:Sd)(y:DX):av:=aC (ao<|ai bX (ai aw (ac 1) ¬0) ¬"again") (CN w ZJ ZL ZM ZN y) (D1 w ZJ ZL ZM ZN y)
def rb(w:Ad)(ZJ ZL ZM ZN:Sd)(y:DX):av:=aC (ao<|ai bX (ai aw (ac 1) ¬0) ¬"if") (zG w ZJ ZL ZM ZN y) (CZ w ZJ ZL ZM ZN y)
def Ao(w:Ad)(ZJ ZL ZM ZN:Sd)(y:DX):av:=b6 (aj ZJ y 3<|aa (ac 0)<|aa (qz (ao<|ai bX (ac 3) ¬1) (ai aw (ac 1) ¬2)<|ai aw (ac 1) ¬3)<|aa (ai aU (ac 2)<|aQ<|aa (ac 3) ag) ag)
def B3(w:Ad)(ZJ ZL ZM ZN:Sd)(y:DX):av:=ah (ar (aq<|dA w.C_Walk "look" (qJ w) y 3 (ac 0)<|aa (ac 2)<|aa (ai aw (ac 1) ¬1) ag)<|af 3) (Ao w ZJ ZL ZM ZN y)
def Cg(w:Ad)(ZJ ZL ZM ZN:Sd)(y:DX):av:=ah (b6<|aj ZJ y 3<|aa (ac 0)<|aa (ai aw (ac 1) ¬2)<|aa (ai aU (ac 2)<|aQ<|aa (ac 3) ag) ag) (IJ 3 (¬1) qG)
def zS(w:Ad)(ZJ ZL ZM ZN:Sd)(y:DX):av:=kN (ao<|ai bX (aq<|dA w.C_Walk "look" (qJ w) y 3 (ac 0)<|aa (ai aU (ac 2)<|aQ<|aa (ac 3) ag)<|aa (ai aw (ac 1) ¬1) ag) ¬1) (Cg w ZJ ZL ZM ZN y)
def Iz(w:Ad)(ZJ ZL ZM ZN:Sd)(y:DX):av:=ah (ar (¬0)<|af 3) (zS w ZJ ZL ZM ZN y)
mutual
noncomputable def ZJ(ad:Ad):Nat->Sd
 |0=>λ_ _ _ _=>False
 |n+1=>aE ["walk","rows","place","j","row"] (AY ad (ZJ ad n) (ZL ad n) (ZM ad n)<|ZN ad n)
noncomputable def ZL(ad:Ad):Nat->Sd
 |0=>λ_ _ _ _=>False
 |n+1=>aE ["walk","row","place","number"] (rb ad (ZJ ad n) (ZL ad n) (ZM ad n)<|ZN ad n)
noncomputable def ZM(ad:Ad):Nat->Sd
 |0=>λ_ _ _ _=>False
 |n+1=>aE ["walk","row","place","seen"] (B3 ad (ZJ ad n) (ZL ad n) (ZM ad n)<|ZN ad n)
noncomputable def ZN(ad:Ad):Nat->Sd
 |0=>λ_ _ _ _=>False
 |n+1=>aE ["walk","row","place","turn"] (Iz ad (ZJ ad n) (ZL ad n) (ZM ad n)<|ZN ad n)
end
theorem Ta{n:Nat}{x0 b a:D}:ZJ ad (n+1) [x0,b,a] M Q E=AY ad (ZJ ad n) (ZL ad n) (ZM ad n) (ZN ad n) (aF E) Q⁻¹ [ap x0,ap b,ap a,ay,ay] M:=rfl
theorem GL{n:Nat}{x0 b a:D}:ZL ad (n+1) [x0,b,a] M Q E=rb ad (ZJ ad n) (ZL ad n) (ZM ad n) (ZN ad n) (aF E) Q⁻¹ [ap x0,ap b,ap a,ay] M:=rfl
theorem S7{n:Nat}{x0 b a:D}:ZM ad (n+1) [x0,b,a] M Q E=B3 ad (ZJ ad n) (ZL ad n) (ZM ad n) (ZN ad n) (aF E) Q⁻¹ [ap x0,ap b,ap a,ay] M:=rfl
theorem u_q51{n:Nat}{x0 b a:D}:ZN ad (n+1) [x0,b,a] M Q E=Iz ad (ZJ ad n) (ZL ad n) (ZM ad n) (ZN ad n) (aF E) Q⁻¹ [ap x0,ap b,ap a,ay] M:=rfl
def Cr(w:Ad)(y:DX):av:=az (aQ<|aa (aW w.C_Walk (ac 3) "steps")<|aa (bc ci<|aa (aq<|aZ (cg<|ai aw (ac 0) ¬1) ["name"] [3] (af 0) dL<|ai aw (aW w.C_Walk (ac 1) "numbers")<|ac 0) ag) ag)
def ze(w:Ad)(y:DX):av:=ah (Qw w.C_Dry (ZJ w 24) 3 (aa (ac 3)<|aa (ai aw (ac 0) ¬3)<|aa (aQ ag) ag)<|az<|aQ<|aa (aW w.C_Walk (ac 3) "steps")<|aa (dC .non) ag) (Cr w y)
def CC(w:Ad)(y:DX):av:=ah (ar (iW w.C_Walk (Km w) y 4<|aa (ac 0)<|aa (ac 1)<|aa (ac 2) ag)<|af 3) (ze w y)
def wZ(ad:Ad):Sd:=aE ["plan","stand","most","walk"] (CC ad)
theorem To{x0 b a:D}:wZ ad [x0,b,a] M Q E=CC ad (aF E) Q⁻¹ [ap x0,ap b,ap a,ay] M:=rfl
def Bo(w:Ad)(y:DX):av:=az (ai aw (ac 3)<|NU jc (ai aw (ac 0) ¬1)<|aa (ai aw (ac 0) ¬4) ag)
def B1(w:Ad)(y:DX):av:=ah (aC (ao<|ai ji (ac 3)<|dC .non) (az<|dC .non) aB) (Bo w y)
def Dh(w:Ad)(y:DX):av:=ah (ar (ai aw (zc<|aj (wZ w) y 3<|aa (ac 0)<|aa (ac 1)<|aa (ac 2) ag) ¬1)<|af 3) (B1 w y)
def qV(ad:Ad):Sd:=aE ["plan","stand","most","end"] (Dh ad)
theorem Sv{x0 b a:D}:qV ad [x0,b,a] M Q E=Dh ad (aF E) Q⁻¹ [ap x0,ap b,ap a,ay] M:=rfl
def CA(w:Ad)(y:DX):av:=az (ai aU (aq<|bc eL<|aa (ai aw (ac 0) ¬1) ag)<|aq<|wB<|aa (ai aw (ac 0) ¬2) ag)
def xl(ad:Ad):Sd:=aE ["plan"] (CA ad)
theorem U3{x0:D}:xl ad [x0] M Q E=CA ad (aF E) Q⁻¹ [ap x0] M:=rfl
def nI(w:Ad)(y:DX):av:=az (aZ (cg<|aq<|aj (xl w) y 1<|aa (ac 0) ag) ["thing"] [2] (af 0) (ao<|ai FX (ac 0)<|ac 1)<|ac 0)
def A4(w:Ad)(y:DX):av:=ah (ar (bc h7<|aa (aq<|aZ (cg<|ac 1) ["thing"] [] (af 0) dL<|aQ<|aa (ac 0)<|aa (dC<|.bl true) ag) ag)<|af 2) (nI w y)
def Am(ad:Ad):Sd:=aE ["plan","things","wanted"] (A4 ad)
theorem RV{x0 a:D}:Am ad [x0,a] M Q E=A4 ad (aF E) Q⁻¹ [ap x0,ap a,ay] M:=rfl
def Ay(w:Ad)(y:DX):av:=az (ai aw (ai aw (ac 1) ¬0)<|NU jc (ai aw (ac 0) ¬1)<|aa (ac 2) ag)
def wf(w:Ad)(y:DX):av:=ah (aC (cz<|bc cX<|aa (ac 2)<|aa (dC<|.ty "str") ag) (Ay w y) aB) (az<|ai aw (ai aw (ac 1) ¬1)<|ac 2)
def pH(ad:Ad):Sd:=aE ["plan","stand","thing"] (wf ad)
theorem MS{x0 b a:D}:pH ad [x0,b,a] M Q E=wf ad (aF E) Q⁻¹ [ap x0,ap b,ap a] M:=rfl
def A6(w:Ad)(y:DX):av:=az (bc eL<|aa (aq<|qS (ac 0) (cC ¬2) bu) ag)
def C0(w:Ad)(y:DX):av:=ah (aC (yQ (ao<|ai bX (ai aw (ac 0) ¬0) ¬"put")<|ao<|ai bX (ai aw (ac 0) ¬0) ¬"take") (az<|bP ag) aB) (A6 w y)
def jt(w:Ad)(y:DX):av:=ah (aC (yQ (ao<|ai bX (ai aw (ac 0) ¬0) ¬"if")<|ao<|ai bX (ai aw (ac 0) ¬0) ¬"again") (az<|bP<|aa (ai aw (ac 0) ¬1) ag) aB) (C0 w y)
def Ck(ad:Ad):Sd:=aE ["row"] (jt ad)
theorem rl{x0:D}:Ck ad [x0] M Q E=jt ad (aF E) Q⁻¹ [ap x0] M:=rfl
def Hz(w:Ad)(y:DX):av:=az (aZ (cg<|aq<|aj (xl w) y 1<|aa (ac 0) ag) ["thing"] [0,2,1] (af 0) (ao<|ai fX (aq<|aj (pH w) kP 3<|aa (ac 1)<|aa (ac 3)<|aa (ac 0) ag)<|aq<|aj (pH w) kP 3<|aa (ac 1)<|aa (ac 2)<|aa (ac 0) ag)<|ac 0)
def Be(ad:Ad):Sd:=aE ["plan","one","other"] (Hz ad)
theorem u_q60{x0 b a:D}:Be ad [x0,b,a] M Q E=Hz ad (aF E) Q⁻¹ [ap x0,ap b,ap a] M:=rfl
def mW(w:Ad)(y:DX):av:=ah (aC (ao<|ai bX (ac 1)<|ac 2) (gZ w.C_NoCase y) aB) (az<|aQ<|aa (ac 1)<|aa (ac 2) ag)
def kx(w:Ad)(y:DX):av:=ah (aC (yQ (ao<|ai ji (ac 1)<|dC .non)<|ao<|ai ji (ac 2)<|dC .non) (gZ w.C_NoCase y) aB) (mW w y)
def mj(w:Ad)(y:DX):av:=ah (ar (aq<|aj (qV w) y 3<|aa (ai aw (ac 0) ¬0)<|aa (ai aw (ac 0) ¬2)<|aa (ai aw (ac 0) ¬3) ag)<|af 2) (kx w y)
def vG(w:Ad)(y:DX):av:=ah (ar (aq<|aj (qV w) y 3<|aa (ai aw (ac 0) ¬0)<|aa (ai aw (ac 0) ¬1)<|aa (ai aw (ac 0) ¬3) ag)<|af 1) (mj w y)
def jA(ad:Ad):Sd:=aE ["case","sound","faulty"] (vG ad)
theorem MU{x0:D}:jA ad [x0] M Q E=vG ad (aF E) Q⁻¹ [ap x0,ay,ay] M:=rfl
def Fw(w:Ad)(y:DX):av:=az (aj (Be w) y 3<|aa (ai aw (ac 0) ¬0)<|aa (ai aw (ac 0) ¬1)<|aa (ai aw (ac 0) ¬2) ag)
def lU(ad:Ad):Sd:=aE ["case"] (Fw ad)
theorem u_q40{x0:D}:lU ad [x0] M Q E=Fw ad (aF E) Q⁻¹ [ap x0] M:=rfl
def Cy(w:Ad)(y:DX):av:=ah (aC (ao<|ai bX (ac 1)<|ai aw (ac 0) ¬1) (az ¬"faulty") aB) (az ¬"other")
def wJ(w:Ad)(y:DX):av:=ah (aC (ao<|ai bX (ac 1)<|ai aw (ac 0) ¬0) (az ¬"sound") aB) (Cy w y)
def C7(ad:Ad):Sd:=aE ["two","one"] (wJ ad)
theorem NR{x0 a:D}:C7 ad [x0,a] M Q E=wJ ad (aF E) Q⁻¹ [ap x0,ap a] M:=rfl
def FZ(w:Ad)(y:DX):av:=ah (cG w.C_Going (ac 0) (ac 4) "todo") (cG w.C_Going (ac 0) (ac 5) "left")
def G2(w:Ad)(y:DX):av:=ah (cG w.C_Going (ac 0) (ac 3) "unsettled") (FZ w y)
def GB(w:Ad)(y:DX):av:=ah (cG w.C_Going (ac 0) (ac 2) "pieces") (G2 w y)
def JS(w:Ad)(y:DX):av:=ah (cG w.C_Going (ac 0) (ac 1) "numbers") (GB w y)
def IU(ad:Ad):Sd:=aE ["self","numbers","pieces","unsettled","todo","left"] (JS ad)
theorem u_q3{x0 e b c a f:D}:IU ad [x0,e,b,c,a,f] M Q E=JS ad (aF E) Q⁻¹ [ap x0,ap e,ap b,ap c,ap a,ap f] M:=rfl
def IT(w:Ad)(y:DX):av:=ar (ac 2) (cM (aW w.C_Going (ac 3) "numbers")<|ac 1)
def IM(w:Ad)(y:DX):av:=ar (ac 2) (cM (aW w.C_Going (ac 3) "pieces")<|ac 1)
def Gb(w:Ad)(y:DX):av:=ah (aC (cz<|bc cX<|aa (ac 1)<|aa (dC<|.ty "str") ag) (IT w y)<|IM w y) (az<|ac 3)
def yh(w:Ad)(y:DX):av:=ah (b6<|IC (aW w.C_Going (ac 3) "unsettled")<|ac 1) (Gb w y)
def KP(w:Ad)(y:DX):av:=ah (ar (iW w.C_Going (IU w) y 6<|aa (bc kR<|aa (aW w.C_Going (ac 0) "numbers") ag)<|aa (bc eL<|aa (aW w.C_Going (ac 0) "pieces") ag)<|aa (bc kR<|aa (aW w.C_Going (ac 0) "unsettled") ag)<|aa (aW w.C_Going (ac 0) "todo")<|aa (aW w.C_Going (ac 0) "left") ag)<|af 3) (yh w y)
def HR(ad:Ad):Sd:=aE ["self","thing","number","other"] (KP ad)
theorem u_q5{x0 b a:D}:HR ad [x0,b,a] M Q E=KP ad (aF E) Q⁻¹ [ap x0,ap b,ap a,ay] M:=rfl
def Kw(w:Ad)(y:DX):av:=ah (cG w.C_Ends (ac 0) (ac 1) "limit") (cG w.C_Ends (ac 0) (¬0) "count")
def Pf(ad:Ad):Sd:=aE ["self","limit"] (Kw ad)
theorem u_q9{x0 a:D}:Pf ad [x0,a] M Q E=Kw ad (aF E) Q⁻¹ [ap x0,ap a] M:=rfl
def y4(w:Ad)(y:DX):av:=aC (ao<|ai Ef (aW w.C_Ends (ac 0) "count")<|aW w.C_Ends (ac 0) "limit") (gZ w.C_TooMany y) aB
def Jo(w:Ad)(y:DX):av:=ah (sJ w.C_Ends (ac 0) (¬1) "count") (y4 w y)
def Hd(ad:Ad):Sd:=aE ["self"] (Jo ad)
theorem u_q8{x0:D}:Hd ad [x0] M Q E=Jo ad (aF E) Q⁻¹ [ap x0] M:=rfl
def t8(w:Ad)(y:DX):av:=ar (aQ<|aa (ac 2)<|aa (ac 1) ag) (af 1)
def zE(w:Ad)(y:DX):av:=ah (cJ (Rn<|aa (ac 0) ag) (af 2)<|t8 w y) (az<|ac 1)
def oF(ad:Ad):Sd:=aE ["rows","todo","row"] (zE ad)
theorem SC{x0 a:D}:oF ad [x0,a] M Q E=zE ad (aF E) Q⁻¹ [ap x0,ap a,ay] M:=rfl
def tN(w:Ad)(y:DX):av:=az (iW w.C_Going (IU w) y 6<|aa (ib<|aa (ai aw (ac 1) ¬1)<|aa (ai aw (ac 2) ¬0) ag)<|aa (bc eL<|aa (ai aw (ac 2) ¬1) ag)<|aa (ac 3)<|aa (aq<|aj (oF w) y 2<|aa (ai aw (ac 1) ¬3)<|aa (dC .non) ag)<|aa (ai aw (ac 0) ¬3) ag)
def D6(w:Ad)(y:DX):av:=ah (ar (bc h7<|aa (aq<|aZ (cg<|aq<|aj (lU w) y 1<|aa (ac 0) ag) ["thing"] [] (af 0) dL<|aQ<|aa (ac 0)<|aa (dC<|.bl true) ag) ag)<|af 3) (tN w y)
def C8(w:Ad)(y:DX):av:=ah (ar (ai aw (ac 0) ¬1)<|af 2) (D6 w y)
def HC(w:Ad)(y:DX):av:=ah (ar (ai aw (ac 0) ¬0)<|af 1) (C8 w y)
def AM(ad:Ad):Sd:=aE ["case","plan","sound","unsettled"] (HC ad)
theorem Si{x0:D}:AM ad [x0] M Q E=HC ad (aF E) Q⁻¹ [ap x0,ay,ay,ay] M:=rfl
def AZ(w:Ad)(y:DX):av:=az (ai aw (aq<|aj (Am w) y 2<|aa (ac 0)<|aa (ac 3) ag) ¬0)
def uT(w:Ad)(y:DX):av:=az (qz (ao<|ai GZ (ac 4)<|aW w.C_Going (ac 1) "unsettled") (ac 4)<|dC .non)
def su(w:Ad)(y:DX):av:=ah (ar (aq<|aj (nY w) y 3<|aa (ac 0)<|aa (aW w.C_Going (ac 1) "numbers")<|aa (ac 2) ag)<|af 4) (uT w y)
def nS(w:Ad)(y:DX):av:=ah (aC (cz<|ac 3) (AZ w y) aB) (su w y)
def Ah(w:Ad)(y:DX):av:=ah (cO (eZ 3<|aZ (cg<|aq<|aj (Ck w) y 1<|aa (ac 2) ag) ["name"] [1] (af 0) (ao<|ai FX (ac 0)<|aW w.C_Going (ac 1) "unsettled")<|ac 0) 3) (nS w y)
def BA(w:Ad)(y:DX):av:=ah (aC (gs<|cz<|aW w.C_Going (ac 1) "unsettled") (az<|dC .non) aB) (Ah w y)
def BP(ad:Ad):Sd:=aE ["plan","going","row","found","piece"] (BA ad)
theorem Sj{x0 b a:D}:BP ad [x0,b,a] M Q E=BA ad (aF E) Q⁻¹ [ap x0,ap b,ap a,ay,ay] M:=rfl
def AL(w:Ad)(y:DX):av:=cG w.C_Going (ac 1) (aq<|aj (oF w) y 2<|aa (qz (ao<|ai bX (ai aw (aW w.C_Going (ac 1) "numbers")<|ai aw (ac 2) ¬1) ¬0) (ai aw (ac 2) ¬3)<|ai aw (ac 2) ¬2)<|aa (aW w.C_Going (ac 1) "todo") ag) "todo"
def A9(w:Ad)(y:DX):av:=cG w.C_Going (ac 1) (aq<|aj (oF w) y 2<|aa (ai aw (ac 2) ¬2)<|aa (aQ<|aa (ac 2)<|aa (aW w.C_Going (ac 1) "todo") ag) ag) "todo"
def CG(w:Ad)(y:DX):av:=aC (ao<|ai fX (ai aw (aW w.C_Going (ac 1) "numbers")<|ai aw (ac 2) ¬1) ¬0) (A9 w y) aB
def uC(w:Ad)(y:DX):av:=b6 (HA (aW w.C_Going (ac 1) "unsettled") (ai aw (ac 2) ¬1)<|dC .non)
def iE(w:Ad)(y:DX):av:=ah (ar (aq<|aj (pw w) y 4<|aa (ac 0)<|aa (aW w.C_Going (ac 1) "numbers")<|aa (aW w.C_Going (ac 1) "pieces")<|aa (ac 2) ag)<|cM (aW w.C_Going (ac 1) "numbers")<|ai aw (ac 2) ¬1) (uC w y)
def CQ(w:Ad)(y:DX):av:=aC (ao<|ai bX (ai aw (ac 2) ¬0) ¬"again") (CG w y) (iE w y)
def z_(w:Ad)(y:DX):av:=aC (ao<|ai bX (ai aw (ac 2) ¬0) ¬"if") (AL w y) (CQ w y)
def sE(w:Ad)(y:DX):av:=ah (cG w.C_Going (ac 1) (ai aw (aW w.C_Going (ac 1) "todo") ¬1) "todo") (z_ w y)
def C3(w:Ad)(y:DX):av:=ah (uj w.C_Going (ac 1) (¬1) "left") (sE w y)
def C1(ad:Ad):Sd:=aE ["plan","going","row"] (C3 ad)
theorem Ut{x0 b a:D}:C1 ad [x0,b,a] M Q E=C3 ad (aF E) Q⁻¹ [ap x0,ap b,ap a] M:=rfl
def sf(w:Ad)(y:DX):av:=b6 (aj (C1 w) y 3<|aa (ac 0)<|aa (ac 1)<|aa (ac 2) ag)
def sM(w:Ad)(y:DX):av:=ah (aC (ao<|ai eq (ac 3)<|dC .non) (az<|ac 3) aB) (sf w y)
def tF(w:Ad)(y:DX):av:=ah (ar (aq<|aj (BP w) y 3<|aa (ac 0)<|aa (ac 1)<|aa (ac 2) ag)<|af 3) (sM w y)
def tq(w:Ad)(y:DX):av:=ah (ar (ai aw (aW w.C_Going (ac 1) "todo") ¬0)<|af 2) (tF w y)
def iA(w:Ad)(y:DX):av:=ah (aC (ao<|ai oLe (aW w.C_Going (ac 1) "left") ¬0) (az<|dC .non) aB) (tq w y)
def uL(w:Ad)(y:DX):av:=az (qz (ao<|ai FX (ai aw (ac 0) ¬4)<|aW w.C_Going (ac 1) "unsettled") (ai aw (ac 0) ¬4)<|dC .non)
def H_(w:Ad)(y:DX):av:=ah (kN (ao<|ai eq (aW w.C_Going (ac 1) "todo")<|dC .non)<|iA w y) (uL w y)
def Cs(ad:Ad):Sd:=aE ["plan","going","row","asked"] (H_ ad)
theorem u_q61{x0 a:D}:Cs ad [x0,a] M Q E=H_ ad (aF E) Q⁻¹ [ap x0,ap a,ay,ay] M:=rfl
def Bn(w:Ad)(y:DX):av:=az (qz (ao<|ai ji (aW w.C_Going (ac 1) "todo")<|dC .non) (ai aw (aW w.C_Going (ac 1) "numbers")<|ai aw (ac 0) ¬4)<|dC .non)
def BM(ad:Ad):Sd:=aE ["plan","going"] (Bn ad)
theorem Uj{x0 a:D}:BM ad [x0,a] M Q E=Bn ad (aF E) Q⁻¹ [ap x0,ap a] M:=rfl
def BE(w:Ad)(y:DX):av:=az (aZ (cg<|aq<|qS (ac 0) (cC ¬1)<|cC ¬3) ["stand"] [2,1,0] (af 0) dL<|aq<|dA w.C_Going "settled" (HR w) kP 3 (ac 2)<|aa (ac 1)<|aa (aq<|aj (pH w) kP 3<|aa (ai aw (ac 3) ¬0)<|aa (ac 0)<|aa (ac 1) ag) ag)
def zL(ad:Ad):Sd:=aE ["case","going","thing"] (BE ad)
theorem SI{x0 b a:D}:zL ad [x0,b,a] M Q E=BE ad (aF E) Q⁻¹ [ap x0,ap b,ap a] M:=rfl
def Bj(w:Ad)(ZP:Sd)(y:DX):av:=az (aQ<|aa (¬"end")<|aa (aj (BM w) y 2<|aa (ai aw (ac 0) ¬0)<|aa (ac 1) ag) ag)
def Dg(w:Ad)(ZP:Sd)(y:DX):av:=az (aQ<|aa (¬"ask")<|aa (ac 3)<|aa (aj ZP y 3<|aa (ac 0)<|aa (ai aw (ac 4) ¬0)<|aa (ac 2) ag)<|aa (aj ZP y 3<|aa (ac 0)<|aa (ai aw (ac 4) ¬1)<|aa (ac 2) ag) ag)
def zu(w:Ad)(ZP:Sd)(y:DX):av:=ah (ar (aq<|aj (zL w) y 3<|aa (ac 0)<|aa (ac 1)<|aa (ac 3) ag)<|af 4) (Dg w ZP y)
def zC(w:Ad)(ZP:Sd)(y:DX):av:=ah (b6<|dA w.C_Ends "one_more" (Hd w) y 1 (ac 2) ag) (zu w ZP y)
def sB(w:Ad)(ZP:Sd)(y:DX):av:=ah (aC (ao<|ai ji (ac 3)<|dC .non) (Bj w ZP y) aB) (zC w ZP y)
def BI(w:Ad)(ZP:Sd)(y:DX):av:=ah (ar (aq<|aj (Cs w) y 2<|aa (ai aw (ac 0) ¬0)<|aa (ac 1) ag)<|af 3) (sB w ZP y)
def ZP(ad:Ad):Nat->Sd
 |0=>λ_ _ _ _=>False
 |n+1=>aE ["case","going","ends","asked","ways"] (BI ad<|ZP ad n)
theorem Tq{n:Nat}{x0 b a:D}:ZP ad (n+1) [x0,b,a] M Q E=BI ad (ZP ad n) (aF E) Q⁻¹ [ap x0,ap b,ap a,ay,ay] M:=rfl
def A0(w:Ad)(y:DX):av:=az (aj (ZP w 24) y 3<|aa (ac 0)<|aa (aq<|aj (AM w) y 1<|aa (ac 0) ag)<|aa (ac 2) ag)
def zh(w:Ad)(y:DX):av:=ah (b6<|dA w.C_Ends "one_more" (Hd w) y 1 (ac 2) ag) (A0 w y)
def Ct(w:Ad)(y:DX):av:=ah (ar (iW w.C_Ends (Pf w) y 2<|aa (ac 1) ag)<|af 2) (zh w y)
def Ge(w:Ad)(y:DX):av:=ah (b6<|aj (jA w) y 1<|aa (ac 0) ag) (Ct w y)
def Ag(ad:Ad):Sd:=aE ["case","limit","ends"] (Ge ad)
theorem u_q67{x0 a:D}:Ag ad [x0,a] M Q E=Ge ad (aF E) Q⁻¹ [ap x0,ap a,ay] M:=rfl
def Ib(w:Ad)(y:DX):av:=ah (cG w.C_Outcome (ac 0) (ac 2) "sound") (cG w.C_Outcome (ac 0) (ac 3) "faulty")
def JO(w:Ad)(y:DX):av:=ah (cG w.C_Outcome (ac 0) (ac 1) "verdict") (Ib w y)
def LP(ad:Ad):Sd:=aE ["self","verdict","sound","faulty"] (JO ad)
theorem u_q0{x0 b a c:D}:LP ad [x0,b,a,c] M Q E=JO ad (aF E) Q⁻¹ [ap x0,ap b,ap a,ap c] M:=rfl
def ue(w:Ad)(y:DX):av:=b6 (jd "list" bv (ac 4)<|aa (iW w.C_Outcome (LP w) y 4<|aa (aq<|aj (C7 w) y 2<|aa (ac 2)<|aa (ai aw (ai aw (ac 6) ¬0) ¬1) ag)<|aa (ac 7)<|aa (ac 8) ag) ag)
def uk(w:Ad)(y:DX):av:=b6 (jd "list" bv (ac 5)<|aa (aQ<|aa (ai aw (ai aw (ac 6) ¬0) ¬3)<|aa (ac 7)<|aa (ai oOr (ac 8)<|ac 9) ag) ag)
def tD(w:Ad)(y:DX):av:=ah (b6<|jd "list" bv (ac 5)<|aa (aQ<|aa (ai aw (ai aw (ac 6) ¬0) ¬2)<|aa (ai oOr (ac 7)<|ac 9)<|aa (ac 8) ag) ag) (uk w y)
def tH(w:Ad)(y:DX):av:=ah (ar (ai aw (ac 3)<|ai aw (ai aw (ac 6) ¬0) ¬1)<|af 9) (tD w y)
def tU(w:Ad)(y:DX):av:=aC (ao<|ai bX (ai aw (ai aw (ac 6) ¬0) ¬0) ¬"end") (ue w y) (tH w y)
def t6(w:Ad)(y:DX):av:=ah (ar (ai aw (ac 6) ¬2)<|af 8) (tU w y)
def u_(w:Ad)(y:DX):av:=ah (ar (ai aw (ac 6) ¬1)<|af 7) (t6 w y)
def iD(w:Ad)(y:DX):av:=ah (ar (jd "list" EH (ac 5) ag)<|af 6) (u_ w y)
def zK(w:Ad)(y:DX):av:=ah (kN (cz<|ac 5)<|iD w y) (az<|ac 4)
def wH(w:Ad)(y:DX):av:=ah (ar (bP<|aa (aQ<|aa (aj (Ag w) y 2<|aa (ac 0)<|aa (ac 1) ag)<|aa (¬0)<|aa (¬0) ag) ag)<|af 5) (zK w y)
def we(w:Ad)(y:DX):av:=ah (ar (bc h7<|aa (aq<|aZ (jy<|aa (aq<|aj (lU w) y 1<|aa (ac 0) ag) ag) ["number","thing"] [] (dE 2<|aP (af 0)<|aP (af 1) dh) dL<|aQ<|aa (ac 1)<|aa (ai Se (¬1)<|ac 0) ag) ag)<|af 3) (ah (ar (bP ag)<|af 4)<|wH w y)
def Gc(w:Ad)(y:DX):av:=ah (ar (aq<|aj (jA w) y 1<|aa (ac 0) ag)<|af 2) (we w y)
def BR(ad:Ad):Sd:=aE ["case","limit","two","bit_of","found","waiting","here","sound","faulty","bit"] (Gc ad)
theorem u_q48{x0 a:D}:BR ad [x0,a] M Q E=Gc ad (aF E) Q⁻¹ [ap x0,ap a,ay,ay,ay,ay,ay,ay,ay,ay] M:=rfl
def BF(w:Ad)(y:DX):av:=az (aZ (fW<|aa (jd "int" uG (ac 0) ag) ag) ["number"] [0] (af 0) (ao<|ai bX (ai PN (ai S_ (ac 1)<|ac 0) ¬1) ¬1)<|ac 0)
def wv(ad:Ad):Sd:=aE ["bits"] (BF ad)
theorem R_{x0:D}:wv ad [x0] M Q E=BF ad (aF E) Q⁻¹ [ap x0] M:=rfl
def yU(w:Ad)(y:DX):av:=ah (ar (ac 3)<|af 2) (ar (ac 4)<|af 3)
def ph(w:Ad)(y:DX):av:=ah (ar (ai dR (ac 2)<|ac 3)<|af 4) (yU w y)
def Ih(w:Ad)(y:DX):av:=az (aQ<|aa (ai gR (ac 0)<|ac 2)<|aa (ai gR (ac 1)<|ac 2) ag)
def yf(w:Ad)(y:DX):av:=ah (kN (ao<|ai fX (ac 3) ¬0)<|ph w y) (Ih w y)
def yg(w:Ad)(y:DX):av:=ah (ar (ai dR (ac 0)<|ac 1)<|af 3) (yf w y)
def Lh(w:Ad)(y:DX):av:=ah (ar (ac 1)<|af 2) (yg w y)
def Lz(ad:Ad):Sd:=aE ["n","d","divisor","rest","behind"] (Lh ad)
theorem u_q1{x0 a:D}:Lz ad [x0,a] M Q E=Lh ad (aF E) Q⁻¹ [ap x0,ap a,ay,ay,ay] M:=rfl
def uY(w:Ad)(y:DX):av:=b6 (jd "list" bv (ac 1)<|aa (ai cB (ai aw (ac 1)<|qk ¬1)<|ai aU (ac 2) ¬1) ag)
def Al(w:Ad)(y:DX):av:=ah (cJ (fW<|aa (ac 0) ag) (af 2)<|uY w y) (az<|ac 1)
def HK(w:Ad)(y:DX):av:=ah (ar (bP<|aa (¬1) ag)<|af 1) (Al w y)
def vM(ad:Ad):Sd:=aE ["count","told","number"] (HK ad)
theorem u_q13{x0:D}:vM ad [x0] M Q E=HK ad (aF E) Q⁻¹ [ap x0,ay,ay] M:=rfl
def um(w:Ad)(y:DX):av:=vx (ac 3) (ac 10) (ai cB (ai cB (ac 9)<|ai aw (ac 5)<|ai gu (bc bj<|aa (ac 7) ag) ¬1)<|ai aw (ac 5)<|bc bj<|aa (ac 8) ag) qG
def t9(w:Ad)(y:DX):av:=vx (ac 3) (ac 10) (ai cB (ai cB (ac 9)<|ai aw (ac 5)<|bc bj<|aa (ac 7) ag)<|ai aw (ac 5)<|ai gu (bc bj<|aa (ac 8) ag) ¬1) gu
def mE(w:Ad)(y:DX):av:=ah (cJ (cg<|ac 7) (af 10)<|um w y) (cJ (cg<|ac 8) (af 10)<|t9 w y)
def mw(w:Ad)(y:DX):av:=ah (ar (ai gR (ai aw (ac 5)<|qk ¬1)<|ai aw (ac 5)<|aq<|ai aU (bc bj<|aa (ac 7) ag)<|bc bj<|aa (ac 8) ag)<|af 9) (mE w y)
def mH(w:Ad)(y:DX):av:=ah (ar (aq<|aj (wv w) y 1<|aa (aW w.C_Outcome (ac 6) "sound") ag)<|af 8) (mw w y)
def iL(w:Ad)(y:DX):av:=ah (ar (aq<|aj (wv w) y 1<|aa (aW w.C_Outcome (ac 6) "faulty") ag)<|af 7) (mH w y)
def uZ(w:Ad)(y:DX):av:=ah (cJ (cg<|ac 4) (af 6)<|iL w y) (az<|ac 3)
def nK(w:Ad)(y:DX):av:=ah (ar (aq<|aj (vM w) y 1<|aa (bc bj<|aa (ac 2) ag) ag)<|af 5) (uZ w y)
def nk(w:Ad)(y:DX):av:=ah (cO (eZ 4<|aZ (cg<|aq<|aj (BR w) y 2<|aa (ac 0)<|aa (ac 1) ag) ["one"] [] (af 0) (ao<|ai bX (aW w.C_Outcome (ac 0) "verdict") ¬"faulty")<|ac 0) 4) (nK w y)
def kj(w:Ad)(y:DX):av:=ah (eZ 3<|aZ (cg<|ac 2) ["thing"] [] (af 0) dL ¬0) (nk w y)
def B5(w:Ad)(y:DX):av:=ah (ar (aq<|aj (lU w) y 1<|aa (ac 0) ag)<|af 2) (kj w y)
def qY(ad:Ad):Sd:=aE ["case","limit","things","told","ends","many","end","faulty","sound","each","number"] (B5 ad)
theorem T4{x0 a:D}:qY ad [x0,a] M Q E=B5 ad (aF E) Q⁻¹ [ap x0,ap a,ay,ay,ay,ay,ay,ay,ay,ay,ay] M:=rfl
def iQ(w:Ad)(y:DX):av:=aC (yQ (ao<|ai fX (ai aw (ac 2) ¬0)<|ai aw (ai aw (ac 0) ¬0) ¬0)<|ao<|ai fX (aq<|aj (lU w) y 1<|aa (ac 2) ag)<|ac 4) (gZ w.C_NoCase y) aB
def iy(w:Ad)(y:DX):av:=az (aZ (jy<|aa (ac 4) ag) ["number","thing"] [5,3] (dE 2<|aP (af 0)<|aP (af 1) dh) dL<|aQ<|aa (ac 1)<|aa (aq<|aj (Lz w) kP 2<|aa (bc wo<|aa (aq<|aZ (cg<|ac 3) ["orders"] [0] (af 0) dL<|ai aw (ac 0)<|ac 1) ag)<|aa (ac 2) ag) ag)
def iu(w:Ad)(y:DX):av:=ah (ar (ai cB (ai aw (aq<|aj (vM w) y 1<|aa (bc bj<|aa (ac 4) ag) ag)<|qk ¬1)<|bc bj<|aa (ac 0) ag)<|af 5) (iy w y)
def iB(w:Ad)(y:DX):av:=ah (cJ (cg<|ac 0) (af 2)<|iQ w y) (iu w y)
def iz(w:Ad)(y:DX):av:=ah (ar (aq<|aj (lU w) y 1<|aa (ai aw (ac 0) ¬0) ag)<|af 4) (iB w y)
def wY(w:Ad)(y:DX):av:=ah (ar (aq<|aZ (cg<|ac 0) ["case"] [1] (af 0) dL<|aq<|aj (qY w) kP 2<|aa (ac 0)<|aa (ac 1) ag)<|af 3) (iz w y)
def qR(ad:Ad):Sd:=aE ["cases","limit","case","held","things","whole"] (wY ad)
theorem Nh{x0 a:D}:qR ad [x0,a] M Q E=wY ad (aF E) Q⁻¹ [ap x0,ap a,ay,ay,ay,ay] M:=rfl
def zm(w:Ad)(y:DX):av:=az (aj (qR w) y 2<|aa (aq<|bP<|aa (ac 0) ag)<|aa (ac 1) ag)
def vt(ad:Ad):Sd:=aE ["case","limit"] (zm ad)
theorem RK{x0 a:D}:vt ad [x0,a] M Q E=zm ad (aF E) Q⁻¹ [ap x0,ap a] M:=rfl
def uw(w:Ad)(y:DX):av:=az (aj (qR w) y 2<|aa (ac 0)<|aa (ac 1) ag)
def CK(w:Ad)(y:DX):av:=ah (cJ (cg<|ac 0) (af 2)<|b6<|aj (jA w) y 1<|aa (ac 2) ag) (uw w y)
def ww(ad:Ad):Sd:=aE ["cases","limit","case"] (CK ad)
theorem SW{x0 a:D}:ww ad [x0,a] M Q E=CK ad (aF E) Q⁻¹ [ap x0,ap a,ay] M:=rfl
def CY(w:Ad)(y:DX):av:=ah (ar (ai dR (ai cB (ai Tz (ac 2)<|ai gR (ac 2) ¬2147483648) ¬2685821657736338717) ¬18446744073709551616)<|af 2) (az<|ai gR (ac 2) ¬1048576)
def Ar(w:Ad)(y:DX):av:=ah (ar (ai dR (ai aU (ai aU (ai cB (ac 0) ¬6364136223846793005)<|ai cB (ac 1) ¬1442695040888963407) ¬97) ¬18446744073709551616)<|af 2) (CY w y)
def on(ad:Ad):Sd:=aE ["cell","turn","one"] (Ar ad)
theorem Sa{x0 a:D}:on ad [x0,a] M Q E=Ar ad (aF E) Q⁻¹ [ap x0,ap a,ay] M:=rfl
def C6(w:Ad)(y:DX):av:=ar (ai dR (ai aU (ai cB (ac 1) ¬1000003)<|ac 2) ¬18446744073709551616) (af 1)
def A2(w:Ad)(y:DX):av:=az (bP<|aa (bc eL<|aa (aq<|qS (ac 0) bu<|cC ¬63) ag)<|aa (¬0)<|aa (¬0)<|aa (ac 1) ag)
def zw(w:Ad)(y:DX):av:=ah (cJ (cg<|aq<|qS (ac 0) bu<|cC ¬63) (af 2)<|C6 w y) (A2 w y)
def B8(w:Ad)(y:DX):av:=ah (ar (¬7)<|af 1) (zw w y)
def zD(ad:Ad):Sd:=aE ["script","seed","cell"] (B8 ad)
theorem Ss{x0:D}:zD ad [x0] M Q E=B8 ad (aF E) Q⁻¹ [ap x0,ay,ay] M:=rfl
def At(w:Ad)(y:DX):av:=az (ai dR (aq<|aj (on w) y 2<|aa (ac 2)<|aa (ai aw (ac 0) ¬1) ag)<|ac 1)
def Aq(w:Ad)(y:DX):av:=ah (aC (ao<|ai EW (ac 2)<|ai OI (¬10) ¬18) (At w y) aB) (ar (ac 2)<|cM (ac 0) ¬2)
def Cd(w:Ad)(y:DX):av:=ah (ar (jd "list" EH (ai aw (ac 0) ¬0)<|aa (¬0) ag)<|af 2) (Aq w y)
def Au(w:Ad)(y:DX):av:=az (ai dR (aq<|aj (on w) y 2<|aa (ai aw (ac 0) ¬3)<|aa (ai aw (ac 0) ¬1) ag)<|ac 1)
def BL(w:Ad)(y:DX):av:=ah (ar (ai gR (ai aw (ac 0) ¬2)<|ac 1)<|cM (ac 0) ¬2) (az<|ac 3)
def BQ(w:Ad)(y:DX):av:=ah (ar (ai dR (ai aw (ac 0) ¬2)<|ac 1)<|af 3) (BL w y)
def zR(w:Ad)(y:DX):av:=ah (aC (ao<|ai bX (ai aw (ac 0) ¬2) ¬0) (Au w y) aB) (BQ w y)
def CU(w:Ad)(y:DX):av:=ah (aC (va (ao<|ai bX (ai aw (ac 0) ¬2) ¬0)<|ao<|ai fX (ai aw (ac 0) ¬0)<|aq<|bP ag) (Cd w y) aB) (zR w y)
def IF(w:Ad)(y:DX):av:=ah (ar (ai aU (ai aw (ac 0) ¬1) ¬1)<|cM (ac 0) ¬1) (CU w y)
def aY(ad:Ad):Sd:=aE ["pot","many","cell","found"] (IF ad)
theorem u_q34{x0 a:D}:aY ad [x0,a] M Q E=IF ad (aF E) Q⁻¹ [ap x0,ap a,ay,ay] M:=rfl
def ng(w:Ad)(y:DX):av:=b6 (jd "list" bv (ac 3)<|aa (ai cB (ac 5)<|ai aU (¬1)<|aq<|aj (aY w) y 2<|aa (ac 0)<|aa (¬8) ag) ag)
def mP(w:Ad)(y:DX):av:=ah (ar (ai aw (¬"abcdefghijklmnopqrstuvwxyz")<|ai dR (ai aU (ac 2)<|ai cB (¬7)<|ac 4) ¬26)<|af 5) (ng w y)
def nB(w:Ad)(y:DX):av:=ah (cJ (fW<|aa (ac 1) ag) (af 4)<|mP w y) (az<|bc ci<|aa (ac 3) ag)
def zr(w:Ad)(y:DX):av:=ah (ar (aq<|aj (aY w) y 2<|aa (ac 0)<|aa (¬26) ag)<|af 2) (ah (ar (bP ag)<|af 3)<|nB w y)
def AH(ad:Ad):Sd:=aE ["pot","many","turn","names","k","sign"] (zr ad)
theorem RN{x0 a:D}:AH ad [x0,a] M Q E=zr ad (aF E) Q⁻¹ [ap x0,ap a,ay,ay,ay,ay] M:=rfl
def Bp(w:Ad)(y:DX):av:=az (aQ<|aa (ac 6)<|aa (ac 7)<|aa (aj (aY w) y 2<|aa (ac 0)<|aa (ac 2) ag) ag)
def Dj(w:Ad)(y:DX):av:=az (aQ<|aa (ac 6)<|aa (ac 7)<|aa (aj (aY w) y 2<|aa (ac 0)<|aa (ac 4) ag) ag)
def AF(w:Ad)(y:DX):av:=az (aQ<|aa (ac 6)<|aa (ac 7)<|aa (ac 8) ag)
def C5(w:Ad)(y:DX):av:=az (aQ<|aa (ac 6)<|aa (ac 7)<|aa (ac 8)<|aa (ai aw (ac 3)<|aq<|aj (aY w) y 2<|aa (ac 0)<|aa (bc bj<|aa (ac 3) ag) ag) ag)
def zH(w:Ad)(y:DX):av:=ah (aC (ao<|ai bX (ac 6) ¬"pick") (AF w y) aB) (C5 w y)
def Bq(w:Ad)(y:DX):av:=ah (ar (ai aw (ac 3)<|aq<|aj (aY w) y 2<|aa (ac 0)<|aa (bc bj<|aa (ac 3) ag) ag)<|af 8) (zH w y)
def zV(w:Ad)(y:DX):av:=ah (aC (ao<|ai bX (ac 6) ¬"take") (Dj w y) aB) (Bq w y)
def B7(w:Ad)(y:DX):av:=ah (aC (ao<|ai bX (ac 6) ¬"put") (Bp w y) aB) (zV w y)
def Ap(w:Ad)(y:DX):av:=ah (ar (ai aw (ac 3)<|aq<|aj (aY w) y 2<|aa (ac 0)<|aa (bc bj<|aa (ac 3) ag) ag)<|af 7) (B7 w y)
def wT(w:Ad)(y:DX):av:=ah (ar (ai aw (ac 5)<|aq<|aj (aY w) y 2<|aa (ac 0)<|aa (qz (ao<|ai Ef (ac 4) ¬0) (¬9) ¬7) ag)<|af 6) (Ap w y)
def xy(w:Ad)(y:DX):av:=ah (ar (aq<|bP<|aa (¬"put")<|aa (¬"sum")<|aa (¬"by")<|aa (¬"less")<|aa (¬"same")<|aa (¬"sum")<|aa (¬"put")<|aa (¬"take")<|aa (¬"pick") ag)<|af 5) (wT w y)
def AW(w:Ad)(y:DX):av:=ah (ar (ac 1)<|dE 3<|aP (af 2)<|aP (af 3)<|aP (af 4) dh) (xy w y)
def xi(ad:Ad):Sd:=aE ["pot","told","m","names","many","ways","way","x","y"] (AW ad)
theorem T1{x0 a:D}:xi ad [x0,a] M Q E=AW ad (aF E) Q⁻¹ [ap x0,ap a,ay,ay,ay,ay,ay,ay,ay] M:=rfl
def BH(w:Ad)(ZI ZH:Sd)(y:DX):av:=az (bP<|aa (aQ<|aa (¬"if")<|aa (ac 7)<|aa (ac 8)<|aa (aj ZH y 5<|aa (ac 0)<|aa (ac 1)<|aa (ac 2)<|aa (ai aU (ac 3) ¬1)<|aa (¬5) ag) ag) ag)
def Bu(w:Ad)(ZI ZH:Sd)(y:DX):av:=az (bP<|aa (aQ<|aa (¬"again")<|aa (ac 7)<|aa (ac 8) ag) ag)
def BK(w:Ad)(ZI ZH:Sd)(y:DX):av:=az (bP<|aa (aQ<|aa (¬"put")<|aa (ac 7)<|aa (aj (aY w) y 2<|aa (ac 0)<|aa (bc FR<|aa (ac 4)<|aa (¬9) ag) ag) ag)<|aa (aQ<|aa (¬"put")<|aa (ac 10)<|aa (ai gu (ac 4) ¬1) ag)<|aa (aQ<|aa (¬"again")<|aa (ac 7)<|aa (ai aU (ac 8)<|aQ<|aa (aQ<|aa (¬"sum")<|aa (ac 7)<|aa (ac 7)<|aa (ac 10) ag) ag) ag) ag)
def C_(w:Ad)(ZI ZH:Sd)(y:DX):av:=ah (ar (ai aw (ac 5)<|aq<|aj (aY w) y 2<|aa (ac 0)<|aa (bc bj<|aa (ac 5) ag) ag)<|af 10) (BK w ZI ZH y)
def D8(w:Ad)(ZI ZH:Sd)(y:DX):av:=ah (aC (ao<|ai bX (ac 9) ¬2) (Bu w ZI ZH y) aB) (C_ w ZI ZH y)
def A_(w:Ad)(ZI ZH:Sd)(y:DX):av:=ah (aC (ao<|ai EW (ac 9) ¬2) (BH w ZI ZH y) aB) (D8 w ZI ZH y)
def AC(w:Ad)(ZI ZH:Sd)(y:DX):av:=ah (ar (aq<|aj (aY w) y 2<|aa (ac 0)<|aa (¬5) ag)<|af 9) (A_ w ZI ZH y)
def Di(w:Ad)(ZI ZH:Sd)(y:DX):av:=ah (ar (aq<|aj ZH y 5<|aa (ac 0)<|aa (ac 1)<|aa (ac 2)<|aa (ai aU (ac 3) ¬1)<|aa (¬5) ag)<|af 8) (AC w ZI ZH y)
def Br(w:Ad)(ZI ZH:Sd)(y:DX):av:=ah (ar (ai aw (ac 5)<|aq<|aj (aY w) y 2<|aa (ac 0)<|aa (bc bj<|aa (ac 5) ag) ag)<|af 7) (Di w ZI ZH y)
def Dc(w:Ad)(ZI ZH:Sd)(y:DX):av:=ah (ar (ac 1)<|dE 3<|aP (af 4)<|aP (af 5)<|aP (af 6) dh) (Br w ZI ZH y)
def By(w:Ad)(ZI ZH:Sd)(y:DX):av:=ar (ai aU (ac 5)<|aq<|aj ZI y 4<|aa (ac 0)<|aa (ac 1)<|aa (ac 2)<|aa (ac 3) ag) (af 5)
def zN(w:Ad)(ZI ZH:Sd)(y:DX):av:=ah (ar (ai gu (ai aw (ac 2) ¬0) ¬4)<|cM (ac 2) ¬0) (By w ZI ZH y)
def Cz(w:Ad)(ZI ZH:Sd)(y:DX):av:=b6 (jd "list" bv (ac 5)<|aa (aq<|aj (xi w) y 2<|aa (ac 0)<|aa (ac 1) ag) ag)
def Cq(w:Ad)(ZI ZH:Sd)(y:DX):av:=ah (ar (ai gu (ai aw (ac 2) ¬0) ¬1)<|cM (ac 2) ¬0) (Cz w ZI ZH y)
def zq(w:Ad)(ZI ZH:Sd)(y:DX):av:=aC (ao<|ai Ef (ai aw (ac 2) ¬0) ¬0) (Cq w ZI ZH y) aB
def Ae(w:Ad)(ZI ZH:Sd)(y:DX):av:=aC (va (ao<|ai Ef (ai aw (ac 2) ¬0) ¬4)<|va (ao<|ai EW (ac 3) ¬4)<|ao<|ai bX (aq<|aj (aY w) y 2<|aa (ac 0)<|aa (¬4) ag) ¬0) (zN w ZI ZH y) (zq w ZI ZH y)
def AU(w:Ad)(ZI ZH:Sd)(y:DX):av:=ah (cJ (fW<|aa (aq<|aj (aY w) y 2<|aa (ac 0)<|aa (ac 4) ag) ag) (af 6)<|Ae w ZI ZH y) (az<|bc ci<|aa (ac 5) ag)
def zy(w:Ad)(ZI ZH:Sd)(y:DX):av:=ah (ar (bP ag)<|af 5) (AU w ZI ZH y)
mutual
noncomputable def ZI(ad:Ad):Nat->Sd
 |0=>λ_ _ _ _=>False
 |n+1=>aE ["pot","told","room","deep","m","names","many","x","first","way","y"] (Dc ad (ZI ad n)<|ZH ad n)
noncomputable def ZH(ad:Ad):Nat->Sd
 |0=>λ_ _ _ _=>False
 |n+1=>aE ["pot","told","room","deep","most","rows","k"] (zy ad (ZI ad n)<|ZH ad n)
end
theorem U4{n:Nat}{x0 b a c:D}:ZI ad (n+1) [x0,b,a,c] M Q E=Dc ad (ZI ad n) (ZH ad n) (aF E) Q⁻¹ [ap x0,ap b,ap a,ap c,ay,ay,ay,ay,ay,ay,ay] M:=rfl
theorem SB{n:Nat}{x0 b a e c:D}:ZH ad (n+1) [x0,b,a,e,c] M Q E=zy ad (ZI ad n) (ZH ad n) (aF E) Q⁻¹ [ap x0,ap b,ap a,ap e,ap c,ay,ay] M:=rfl
def zF(w:Ad)(y:DX):av:=az (aQ<|aa (ac 2)<|aa (ac 3)<|aa (ac 4)<|aa (ac 5)<|aa (ai aw (ac 3)<|aq<|aj (aY w) y 2<|aa (ac 0)<|aa (bc bj<|aa (ac 3) ag) ag) ag)
def A3(w:Ad)(y:DX):av:=ah (ar (aq<|aj (ZH w 24) y 5<|aa (ac 0)<|aa (aQ<|aa (ac 2)<|aa (ac 3)<|aa (ac 4) ag)<|aa (bP<|aa (ac 1) ag)<|aa (¬0)<|aa (ai aw (aq<|bP<|aa (¬6)<|aa (¬12)<|aa (¬30) ag)<|aq<|aj (aY w) y 2<|aa (ac 0)<|aa (¬3) ag) ag)<|af 5) (zF w y)
def zj(w:Ad)(y:DX):av:=ah (ar (ai aw (aq<|bP<|aa (¬0)<|aa (ai aU (¬1)<|aq<|aj (aY w) y 2<|aa (ac 0)<|aa (¬4) ag)<|aa (aq<|aj (aY w) y 2<|aa (ac 0)<|aa (¬41) ag) ag)<|aq<|aj (aY w) y 2<|aa (ac 0)<|aa (¬3) ag)<|af 4) (A3 w y)
def Ak(w:Ad)(y:DX):av:=ah (ar (aq<|aj (AH w) y 2<|aa (ac 0)<|aa (ai aU (¬1)<|aq<|aj (aY w) y 2<|aa (ac 0)<|aa (ai aw (aq<|bP<|aa (¬3)<|aa (¬5)<|aa (¬12) ag)<|aq<|aj (aY w) y 2<|aa (ac 0)<|aa (¬3) ag) ag) ag)<|af 3) (zj w y)
def AX(w:Ad)(y:DX):av:=ah (ar (ai aw (aq<|bP<|aa (¬2)<|aa (¬3)<|aa (ai aU (¬2)<|aq<|aj (aY w) y 2<|aa (ac 0)<|aa (¬9) ag)<|aa (ai aU (¬2)<|aq<|aj (aY w) y 2<|aa (ac 0)<|aa (¬996) ag) ag)<|aq<|aj (aY w) y 2<|aa (ac 0)<|aa (¬4) ag)<|af 2) (Ak w y)
def Cc(ad:Ad):Sd:=aE ["pot","most","m","names","many","rows"] (AX ad)
theorem U1{x0 a:D}:Cc ad [x0,a] M Q E=AX ad (aF E) Q⁻¹ [ap x0,ap a,ay,ay,ay,ay] M:=rfl
def Dk(w:Ad)(y:DX):av:=az (aQ<|aa (ac 2)<|aa (bc ci<|aa (aq<|aZ (fW<|aa (ai aw (ac 1) ¬2) ag) ["k"] [0,1] (af 0) dL<|aq<|aj (aY w) kP 2<|aa (ac 1)<|aa (ai aw (ac 2) ¬0) ag) ag) ag)
def G7(w:Ad)(y:DX):av:=ah (ar (bc ci<|aa (aq<|aZ (cg<|ai aw (ac 1) ¬1) ["name"] [0,1] (af 0) dL<|aq<|aj (aY w) kP 2<|aa (ac 1)<|aa (ai aw (ac 2) ¬0) ag) ag)<|af 2) (Dk w y)
def vk(ad:Ad):Sd:=aE ["pot","plan","numbers"] (G7 ad)
theorem u_q27{x0 a:D}:vk ad [x0,a] M Q E=G7 ad (aF E) Q⁻¹ [ap x0,ap a,ay] M:=rfl
def CW(w:Ad)(y:DX):av:=az (ai aw (ac 3)<|ai dR (ai aw (ac 2)<|ai aw (ac 1) ¬2)<|bc bj<|aa (ac 3) ag)
def BZ(w:Ad)(y:DX):av:=az (ai dR (aq<|ai aU (ac 7)<|ac 8)<|ac 6)
def Az(w:Ad)(y:DX):av:=az (qz (ao<|ai EW (ac 7)<|ac 8) (¬1) ¬0)
def zM(w:Ad)(y:DX):av:=az (qz (ao<|ai bX (ac 7)<|ac 8) (¬1) ¬0)
def Dd(w:Ad)(y:DX):av:=ah (aC (ao<|ai bX (ai aw (ac 1) ¬0) ¬"less") (Az w y) aB) (zM w y)
def CT(w:Ad)(y:DX):av:=ah (aC (ao<|ai bX (ai aw (ac 1) ¬0) ¬"by") (az<|ai dR (ai cB (ac 7)<|ac 8)<|ac 6) aB) (Dd w y)
def CH(w:Ad)(y:DX):av:=ah (aC (ao<|ai bX (ai aw (ac 1) ¬0) ¬"sum") (BZ w y) aB) (CT w y)
def D3(w:Ad)(y:DX):av:=ah (ar (ai aw (ac 2)<|ai aw (ac 1) ¬3)<|af 8) (CH w y)
def zP(w:Ad)(y:DX):av:=ah (ar (ai aw (ac 2)<|ai aw (ac 1) ¬2)<|af 7) (D3 w y)
def wG(w:Ad)(y:DX):av:=ah (aC (ao<|ai bX (ai aw (ac 1) ¬0) ¬"pick") (CW w y) aB) (zP w y)
def vC(w:Ad)(y:DX):av:=ah (aC (ao<|ai bX (ai aw (ac 1) ¬0) ¬"take") (az<|ai aw (ac 3)<|ai aw (ac 1) ¬2) aB) (wG w y)
def vz(w:Ad)(y:DX):av:=ah (aC (ao<|ai bX (ai aw (ac 1) ¬0) ¬"put") (az<|ai aw (ac 1) ¬2) aB) (vC w y)
def pS(w:Ad)(y:DX):av:=ah (ar (ac 0)<|EF 5<|aP (af 2)<|aP (af 3)<|aP (af 4)<|aP (af 5)<|aP (af 6) dh) (vz w y)
def vh(ad:Ad):Sd:=aE ["gone","row","numbers","pieces","steps","most","m","one","other"] (pS ad)
theorem BN{x0 a:D}:vh ad [x0,a] M Q E=pS ad (aF E) Q⁻¹ [ap x0,ap a,ay,ay,ay,ay,ay,ay,ay] M:=rfl
def zb(w:Ad)(y:DX):av:=ah (b6<|jd "list" bv (ai aw (ac 0) ¬2)<|aa (aQ<|aa (ac 1)<|aa (ac 2) ag) ag) (az<|dC<|.bl true)
def Bb(w:Ad)(y:DX):av:=ah (aC (ao<|ai bX (bc bj<|aa (ai aw (ac 0) ¬2) ag)<|ai aw (ac 0) ¬3) (az<|dC<|.bl eC) aB) (zb w y)
def lK(ad:Ad):Sd:=aE ["gone","place","number"] (Bb ad)
theorem Tp{x0 b a:D}:lK ad [x0,b,a] M Q E=Bb ad (aF E) Q⁻¹ [ap x0,ap b,ap a] M:=rfl
def uz(w:Ad)(ZK ZG:Sd)(y:DX):av:=aC (gs<|cz<|aq<|aj ZG y 3<|aa (ac 0)<|aa (ai aw (ac 1) ¬2)<|aa (ai aU (ac 2)<|aQ<|aa (ac 3) ag) ag) (az<|dC<|.bl eC) aB
def Da(w:Ad)(ZK ZG:Sd)(y:DX):av:=ah (aC (ao<|ai bX (ac 4) ¬0) (az<|dC<|.bl true) aB) (uz w ZK ZG y)
def uA(w:Ad)(ZK ZG:Sd)(y:DX):av:=ah (aC (gs<|cz<|aq<|aj (lK w) y 3<|aa (ac 0)<|aa (ai aU (ac 2)<|aQ<|aa (ac 3) ag)<|aa (ac 4) ag) (az<|dC<|.bl eC) aB) (Da w ZK ZG y)
def mZ(w:Ad)(ZK ZG:Sd)(y:DX):av:=ah (ar (qz (ao<|ai bX (ai aw (ai aw (ac 0) ¬0)<|ai aw (ac 1) ¬1) ¬0) (¬0) ¬1)<|af 4) (uA w ZK ZG y)
def zX(w:Ad)(ZK ZG:Sd)(y:DX):av:=ah (cJ (fW<|aa (ai aU (ai aw (ac 0) ¬3) ¬1) ag) (af 3)<|mZ w ZK ZG y) (az<|dC<|.bl eC)
def sU(w:Ad)(ZK ZG:Sd)(y:DX):av:=aC (gs<|cz<|aq<|aj ZK y 3<|aa (ac 0)<|aa (ac 4)<|aa (ac 5) ag) (az<|dC<|.bl eC) aB
def tL(w:Ad)(ZK ZG:Sd)(y:DX):av:=aC (yQ (gs<|cz<|aq<|aj (lK w) y 3<|aa (ac 0)<|aa (ac 5)<|aa (ac 6) ag)<|gs<|cz<|aq<|aj ZG y 3<|aa (ac 0)<|aa (ac 7)<|aa (ai aU (ac 5)<|aQ<|aa (ac 6) ag) ag) (az<|dC<|.bl eC) aB
def ud(w:Ad)(ZK ZG:Sd)(y:DX):av:=ah (ar (ai aw (aq<|bP<|aa (ai aw (ac 4) ¬3)<|aa (ai aw (ac 4) ¬2) ag)<|ac 6)<|af 7) (tL w ZK ZG y)
def s_(w:Ad)(ZK ZG:Sd)(y:DX):av:=ah (ar (qz (ao<|ai bX (ai aw (ai aw (ac 0) ¬0)<|ai aw (ac 4) ¬1) ¬0) (¬0) ¬1)<|af 6) (ud w ZK ZG y)
def A5(w:Ad)(ZK ZG:Sd)(y:DX):av:=ar (ac 8) (cM (ai aw (ac 0) ¬0)<|ai aw (ac 4) ¬1)
def nr(w:Ad)(ZK ZG:Sd)(y:DX):av:=ah (aC (gs<|cz<|aq<|aj (lK w) y 3<|aa (ac 0)<|aa (ac 5)<|aa (ac 8) ag) (az<|dC<|.bl eC) aB) (A5 w ZK ZG y)
def mI(w:Ad)(ZK ZG:Sd)(y:DX):av:=ah (ar (aq<|aj (vh w) y 2<|aa (ac 0)<|aa (ac 4) ag)<|af 8) (nr w ZK ZG y)
def nF(w:Ad)(ZK ZG:Sd)(y:DX):av:=aC (ao<|ai bX (ai aw (ac 4) ¬0) ¬"if") (s_ w ZK ZG y) (mI w ZK ZG y)
def tI(w:Ad)(ZK ZG:Sd)(y:DX):av:=aC (ao<|ai bX (ai aw (ac 4) ¬0) ¬"again") (sU w ZK ZG y) (nF w ZK ZG y)
def p_(w:Ad)(ZK ZG:Sd)(y:DX):av:=ah (ar (ai aU (ac 2)<|aQ<|aa (ac 3) ag)<|af 5) (tI w ZK ZG y)
def zo(w:Ad)(ZK ZG:Sd)(y:DX):av:=ah (cJ (jy<|aa (ac 1) ag) (dE 2<|aP (af 3)<|aP (af 4) dh)<|p_ w ZK ZG y) (az<|dC<|.bl true)
mutual
noncomputable def ZK(ad:Ad):Nat->Sd
 |0=>λ_ _ _ _=>False
 |n+1=>aE ["gone","row","place","turn","look"] (zX ad (ZK ad n)<|ZG ad n)
noncomputable def ZG(ad:Ad):Nat->Sd
 |0=>λ_ _ _ _=>False
 |n+1=>aE ["gone","rows","place","at","row","here","look","inner","number"] (zo ad (ZK ad n)<|ZG ad n)
end
theorem Uo{n:Nat}{x0 b a:D}:ZK ad (n+1) [x0,b,a] M Q E=zX ad (ZK ad n) (ZG ad n) (aF E) Q⁻¹ [ap x0,ap b,ap a,ay,ay] M:=rfl
theorem Uq{n:Nat}{x0 b a:D}:ZG ad (n+1) [x0,b,a] M Q E=zo ad (ZK ad n) (ZG ad n) (aF E) Q⁻¹ [ap x0,ap b,ap a,ay,ay,ay,ay,ay,ay] M:=rfl
def AA(w:Ad)(y:DX):av:=az (aQ<|aa (ai aw (ac 3) ¬2)<|aa (dC .non) ag)
def BD(w:Ad)(y:DX):av:=az (aQ<|aa (ai aw (ac 3) ¬2)<|aa (bc ci<|aa (aq<|aZ (cg<|ai aw (ac 0) ¬1) ["name"] [3] (af 0) dL<|ai aw (ai aw (ac 1) ¬0)<|ac 0) ag) ag)
def Db(w:Ad)(y:DX):av:=ah (aC (gs<|cz<|aq<|aj (ZG w 24) y 3<|aa (ac 3)<|aa (ai aw (ac 0) ¬3)<|aa (aQ ag) ag) (AA w y) aB) (BD w y)
def AD(w:Ad)(y:DX):av:=ah (ar (bP<|aa (ib<|aa (ai aw (ac 0) ¬1)<|aa (ai aw (ac 1) ¬0) ag)<|aa (ai aw (ac 1) ¬1)<|aa (bP ag)<|aa (ac 2)<|aa (ai aw (ac 0) ¬0) ag)<|af 3) (Db w y)
def qW(ad:Ad):Sd:=aE ["plan","stand","most","gone"] (AD ad)
theorem T3{x0 b a:D}:qW ad [x0,b,a] M Q E=AD ad (aF E) Q⁻¹ [ap x0,ap b,ap a,ay] M:=rfl
def IB(w:Ad)(y:DX):av:=az (bc ci<|aa (aq<|aZ (cg<|ac 0) ["row"] [] (af 0) (ao<|ai yd (ai aw (ac 0) ¬0)<|aq<|bP<|aa (¬"if")<|aa (¬"again") ag)<|ac 0) ag)
def vF(ad:Ad):Sd:=aE ["rows"] (IB ad)
theorem u_q43{x0:D}:vF ad [x0] M Q E=IB ad (aF E) Q⁻¹ [ap x0] M:=rfl
def sS(w:Ad)(y:DX):av:=az (aQ<|aa (ai aw (ai aw (ac 4) ¬0)<|ac 5)<|aa (ai aw (ai aw (ac 4) ¬1)<|ac 5) ag)
def mm(w:Ad)(y:DX):av:=ah (ar (NU jc (ai aw (ac 0) ¬1)<|aa (ai aw (ac 0) ¬4) ag)<|af 5) (sS w y)
def mR(w:Ad)(y:DX):av:=ah (aC (ao<|ai FX (dC .non)<|ac 4) (az<|dC .non) aB) (mm w y)
def BW(w:Ad)(y:DX):av:=ah (cO (eZ 4<|aZ (cg<|aq<|bP<|aa (ac 1)<|aa (ac 2) ag) ["stand"] [0,3] (af 0) dL<|ai aw (zc<|aj (qW w) kP 3<|aa (ac 1)<|aa (ac 0)<|aa (ac 2) ag) ¬1) 4) (mR w y)
def lO(ad:Ad):Sd:=aE ["plan","sound","faulty","most","last","at"] (BW ad)
theorem So{x0 b a c:D}:lO ad [x0,b,a,c] M Q E=BW ad (aF E) Q⁻¹ [ap x0,ap b,ap a,ap c,ay,ay] M:=rfl
def CF(w:Ad)(y:DX):av:=az (ai dR (aq<|ai aU (ai aU (ac 2) ¬1)<|aq<|aj (aY w) y 2<|aa (ac 0)<|aa (ai gu (ac 1) ¬1) ag)<|ac 1)
def kd(ad:Ad):Sd:=aE ["pot","m","number"] (CF ad)
theorem SH{x0 b a:D}:kd ad [x0,b,a] M Q E=CF ad (aF E) Q⁻¹ [ap x0,ap b,ap a] M:=rfl
def nj(w:Ad)(y:DX):av:=ar (ai aU (aq<|qS (ac 0) bu<|cC ¬3)<|aQ<|aa (ai aU (ac 5)<|aQ<|aa (ac 7) ag)<|aa (ai aw (ac 0) ¬4) ag) (af 0)
def mO(w:Ad)(y:DX):av:=ah (ar (aQ<|aa (¬"sum")<|aa (ai aw (ac 0) ¬4)<|aa (ai aw (ac 0) ¬4)<|aa (ac 4) ag)<|af 7) (nj w y)
def nG(w:Ad)(y:DX):av:=ah (aC (ao<|ai bX (ai aw (ac 6) ¬0)<|ai aw (ac 6) ¬1) (mO w y) aB) (az<|ac 0)
def mJ(w:Ad)(y:DX):av:=ah (ar (aq<|aj (lO w) y 4<|aa (ac 0)<|aa (ac 1)<|aa (ac 2)<|aa (ac 3) ag)<|af 6) (nG w y)
def nR(w:Ad)(y:DX):av:=ah (ar (ai aU (aq<|qS (ac 0) bu<|cC ¬3)<|aQ<|aa (ac 5)<|aa (ai aw (ac 0) ¬4) ag)<|af 0) (mJ w y)
def De(w:Ad)(y:DX):av:=ah (ar (bc ci<|aa (aq<|aZ (cg<|aq<|aj (vF w) y 1<|aa (ai aw (ac 0) ¬3) ag) ["row"] [4] (af 0) (ao<|ai fX (ai aw (ac 0) ¬1)<|ac 1)<|ac 0) ag)<|af 5) (nR w y)
def Bv(ad:Ad):Sd:=aE ["plan","sound","faulty","most","name","rows","both","more"] (De ad)
theorem TK{x0 b a e c:D}:Bv ad [x0,b,a,e,c] M Q E=De ad (aF E) Q⁻¹ [ap x0,ap b,ap a,ap e,ap c,ay,ay,ay] M:=rfl
def ub(w:Ad)(y:DX):av:=ar (aQ<|aa (aQ<|aa (¬"take")<|aa (ai aw (ac 2) ¬0)<|aa (¬0) ag)<|aa (aQ<|aa (¬"sum")<|aa (ai aw (ac 0) ¬4)<|aa (ai aw (ac 0) ¬4)<|aa (ai aw (ac 2) ¬0) ag) ag) (af 1)
def pL(w:Ad)(y:DX):av:=az (ai aU (aq<|qS (ac 0) bu<|cC ¬3)<|aQ<|aa (aq<|ai aU (ai aw (ac 0) ¬3)<|ac 1)<|aa (ai aw (ac 0) ¬4) ag)
def uX(w:Ad)(y:DX):av:=ah (aC (ao<|ai fX (ac 2)<|aq<|bP ag) (ub w y) aB) (pL w y)
def uo(w:Ad)(y:DX):av:=ah (cO (eZ 2<|aZ (cg<|ai aw (ac 0) ¬1) ["one"] [0] (af 0) (ao<|ai fX (ac 0)<|ai aw (ac 1) ¬4)<|ac 0) 2) (uX w y)
def Ko(w:Ad)(y:DX):av:=ah (ar (aQ<|aa (aQ<|aa (¬"take")<|aa (ai aw (ac 0) ¬4)<|aa (¬0) ag) ag)<|af 1) (uo w y)
def Jt(ad:Ad):Sd:=aE ["plan","more","rest"] (Ko ad)
theorem u_q4{x0:D}:Jt ad [x0] M Q E=Ko ad (aF E) Q⁻¹ [ap x0,ay,ay] M:=rfl
def sj(w:Ad)(y:DX):av:=ar (aq<|aj (kd w) y 3<|aa (ac 0)<|aa (ai aw (ac 3) ¬0)<|aa (ai aw (ac 5)<|ac 7) ag) (cM (ac 5)<|ac 7)
def ut(w:Ad)(y:DX):av:=ar (aq<|ai aU (ac 8)<|bc FR<|aa (bc bj<|aa (ac 6) ag)<|aa (ai cB (¬2)<|ac 2) ag) (af 8)
def tP(w:Ad)(y:DX):av:=ah (ar (aq<|aj (kd w) y 3<|aa (ac 0)<|aa (ai aw (ac 3) ¬0)<|aa (ai aw (ac 6) ¬0) ag)<|cM (ac 6) ¬0) (ut w y)
def si(w:Ad)(y:DX):av:=ar (aq<|aj (kd w) y 3<|aa (ac 0)<|aa (ai aw (ac 3) ¬0)<|aa (ai aw (ai aw (ac 4) ¬0)<|ac 10) ag) (cM (ac 5)<|ac 10)
def sh(w:Ad)(y:DX):av:=ar (aq<|aj (kd w) y 3<|aa (ac 0)<|aa (ai aw (ac 3) ¬0)<|aa (ai aw (ai aw (ac 4) ¬1)<|ac 10) ag) (cM (ac 6)<|ac 10)
def rW(w:Ad)(y:DX):av:=ah (ar (ai gu (ac 10)<|bc bj<|aa (ac 5) ag)<|af 10) (sh w y)
def sQ(w:Ad)(y:DX):av:=aC (ao<|ai EW (ac 10)<|bc bj<|aa (ac 5) ag) (si w y) (rW w y)
def ug(w:Ad)(y:DX):av:=ah (ar (aq<|aj (aY w) y 2<|aa (ac 0)<|aa (ac 8) ag)<|af 10) (sQ w y)
def B9(w:Ad)(y:DX):av:=ar (ai aU (aq<|qS (ac 3) bu<|cC ¬3)<|aQ<|aa (aq<|aj (vF w) y 1<|aa (ai aw (ac 3) ¬3) ag)<|aa (ai aw (ac 3) ¬4) ag) (af 3)
def pB(w:Ad)(y:DX):av:=ar (aq<|aj (Bv w) y 5<|aa (ac 3)<|aa (ac 4)<|aa (ac 11)<|aa (ac 12)<|aa (ai aw (ai aw (ac 3) ¬1)<|ac 7) ag) (af 3)
def wu(w:Ad)(y:DX):av:=ar (aq<|aj (Jt w) y 1<|aa (ac 3) ag) (af 3)
def jF(w:Ad)(y:DX):av:=aC (ao<|ai EW (ac 7)<|bc bj<|aa (ac 5) ag) (pB w y) (wu w y)
def ku(w:Ad)(y:DX):av:=az (aQ<|aa (ac 3)<|aa (ac 4)<|aa (ac 11)<|aa (ac 12) ag)
def pz(w:Ad)(y:DX):av:=ah (aC (ao<|ai bX (ai aw (ac 13) ¬0)<|ai aw (ac 13) ¬1) (jF w y) aB) (ku w y)
def jJ(w:Ad)(y:DX):av:=ah (ar (aq<|aj (lO w) y 4<|aa (ac 3)<|aa (ac 4)<|aa (ac 11)<|aa (ac 12) ag)<|af 13) (pz w y)
def jI(w:Ad)(y:DX):av:=ah (aC (ao<|ai ji (aq<|aj (lO w) y 4<|aa (ac 3)<|aa (ac 4)<|aa (ac 11)<|aa (ai gu (ac 12) ¬4) ag)<|dC .non) (B9 w y) aB) (jJ w y)
def pk(w:Ad)(y:DX):av:=ah (ar (ai aU (¬30)<|aq<|aj (aY w) y 2<|aa (ac 0)<|aa (¬20) ag)<|af 12) (jI w y)
def qc(w:Ad)(y:DX):av:=ah (ar (aQ<|aa (bc ci<|aa (ac 5) ag)<|aa (bc ci<|aa (ac 6) ag) ag)<|af 11) (pk w y)
def jz(w:Ad)(y:DX):av:=ah (cJ (fW<|aa (ai gu (ac 2) ¬1) ag) (af 9)<|ug w y) (qc w y)
def o7(w:Ad)(y:DX):av:=ah (aC (ao<|ai EW (ac 7)<|bc bj<|aa (ac 5) ag) (sj w y)<|tP w y) (jz w y)
def pi(w:Ad)(y:DX):av:=ah (ar (bc bj<|aa (ac 5) ag)<|af 8) (o7 w y)
def oE(w:Ad)(y:DX):av:=ah (ar (aq<|aj (aY w) y 2<|aa (ac 0)<|aa (ai cB (¬4)<|bc bj<|aa (ac 5) ag) ag)<|af 7) (pi w y)
def oQ(w:Ad)(y:DX):av:=ah (ar (bc eL<|aa (ai aw (ac 4) ¬1) ag)<|af 6) (oE w y)
def oY(w:Ad)(y:DX):av:=ah (ar (bc eL<|aa (ai aw (ac 4) ¬0) ag)<|af 5) (oQ w y)
def pN(w:Ad)(y:DX):av:=ah (ar (aq<|aj (vk w) y 2<|aa (ac 0)<|aa (ac 3) ag)<|af 4) (oY w y)
def oR(w:Ad)(y:DX):av:=ah (ar (aq<|ai aU (ai aU (aq<|qS (ac 3) bu<|cC ¬2)<|aQ<|aa (bc DR<|aa (¬1)<|aa (ai aw (ac 3) ¬2) ag) ag)<|aq<|qS (ac 3) (cC ¬3) bu)<|af 3) (pN w y)
def zg(w:Ad)(y:DX):av:=ah (ar (aq<|aj (Cc w) y 2<|aa (ac 0)<|aa (ac 1) ag)<|af 3) (oR w y)
def Ba(ad:Ad):Sd:=aE ["pot","most_rows","few","plan","sound","numbers","pieces","first","some","k","at","faulty","most","both"] (zg ad)
theorem TB{x0 b a:D}:Ba ad [x0,b,a] M Q E=zg ad (aF E) Q⁻¹ [ap x0,ap b,ap a,ay,ay,ay,ay,ay,ay,ay,ay,ay,ay,ay] M:=rfl
def tz(w:Ad)(y:DX):av:=az (ai aU (ac 5)<|aq<|aZ (fW<|aa (ai aw (ac 1) ¬2) ag) ["k"] [2,3] (af 0) (ao<|ai fX (ai aw (ai aw (ac 1) ¬1)<|ac 0)<|ai aw (ai aw (ac 2) ¬1)<|ac 0)<|ac 0)
def rX(w:Ad)(y:DX):av:=ah (cO (eZ 5<|aZ (HB<|aa (ai aw (ac 1) ¬1)<|aa (ai aw (ac 2) ¬0)<|aa (ai aw (ac 3) ¬0) ag) ["name","one","other"] [] (dE 3<|aP (af 0)<|aP (af 1)<|aP (af 2) dh) (ao<|ai fX (ac 1)<|ac 2)<|ac 0) 5) (tz w y)
def BC(w:Ad)(y:DX):av:=ah (ar (ac 0)<|dE 4<|aP (af 1)<|aP (af 2)<|aP (af 3)<|aP (af 4) dh) (rX w y)
def oo(ad:Ad):Sd:=aE ["case","plan","sound","faulty","most","found"] (BC ad)
theorem Ul{x0:D}:oo ad [x0] M Q E=BC ad (aF E) Q⁻¹ [ap x0,ay,ay,ay,ay,ay] M:=rfl
def zk(w:Ad)(ZO:Sd)(y:DX):av:=az (fJ (bc cX<|aa (ac 0)<|aa (dC<|.ty "bool") ag)<|ai bX (ac 0)<|ac 1)
def A8(w:Ad)(ZO:Sd)(y:DX):av:=az (fJ (bc cX<|aa (ac 0)<|aa (dC<|.ty "int") ag)<|fJ (My<|bc cX<|aa (ac 0)<|aa (dC<|.ty "bool") ag)<|ai bX (ac 0)<|ac 1)
def Bh(w:Ad)(ZO:Sd)(y:DX):av:=az (fJ (bc cX<|aa (ac 0)<|aa (dC<|.ty "str") ag)<|ai bX (ac 0)<|ac 1)
def CB(w:Ad)(ZO:Sd)(y:DX):av:=az (bc QO<|aa (aq<|aZ (SJ<|aa (ac 0)<|aa (ac 1) ag) ["one","other"] [] (dE 2<|aP (af 0)<|aP (af 1) dh) dL<|aq<|aj ZO kP 2<|aa (ac 0)<|aa (ac 1) ag) ag)
def Aa(w:Ad)(ZO:Sd)(y:DX):av:=ah (aC (ao<|ai fX (bc bj<|aa (ac 0) ag)<|bc bj<|aa (ac 1) ag) (az<|dC<|.bl eC) aB) (CB w ZO y)
def AT(w:Ad)(ZO:Sd)(y:DX):av:=ah (aC (yQ (ao<|ai fX (bc cX<|aa (ac 1)<|aa (dC<|.ty "tuple") ag)<|bc cX<|aa (ac 0)<|aa (dC<|.ty "tuple") ag)<|ao<|ai fX (bc cX<|aa (ac 1)<|aa (dC<|.ty "list") ag)<|bc cX<|aa (ac 0)<|aa (dC<|.ty "list") ag) (az<|dC<|.bl eC) aB) (Aa w ZO y)
def B6(w:Ad)(ZO:Sd)(y:DX):av:=ah (aC (cz<|bc cX<|aa (ac 1)<|aa (dC<|.ty "str") ag) (Bh w ZO y) aB) (AT w ZO y)
def AQ(w:Ad)(ZO:Sd)(y:DX):av:=ah (aC (cz<|bc cX<|aa (ac 1)<|aa (dC<|.ty "int") ag) (A8 w ZO y) aB) (B6 w ZO y)
def Ac(w:Ad)(ZO:Sd)(y:DX):av:=ah (aC (cz<|bc cX<|aa (ac 1)<|aa (dC<|.ty "bool") ag) (zk w ZO y) aB) (AQ w ZO y)
def ic(w:Ad)(ZO:Sd)(y:DX):av:=ah (aC (ao<|ai ji (ac 1)<|dC .non) (az<|ai ji (ac 0)<|dC .non) aB) (Ac w ZO y)
def ZO(ad:Ad):Nat->Sd
 |0=>λ_ _ _ _=>False
 |n+1=>aE ["found","due"] (ic ad<|ZO ad n)
theorem lQ{n:Nat}{x0 a:D}:ZO ad (n+1) [x0,a] M Q E=ic ad (ZO ad n) (aF E) Q⁻¹ [ap x0,ap a] M:=rfl
def Hk(w:Ad)(y:DX):av:=ah (ar (ac 2)<|af 3) (ar (ac 4)<|af 2)
def uS(w:Ad)(y:DX):av:=ah (ar (ai dR (ac 3)<|ac 2)<|af 4) (Hk w y)
def Hf(w:Ad)(y:DX):av:=az (aQ<|aa (ai gR (ac 0)<|ac 3)<|aa (ai gR (ac 1)<|ac 3) ag)
def y1(w:Ad)(y:DX):av:=ah (kN (ao<|ai Ef (ac 2) ¬0)<|uS w y) (Hf w y)
def JF(w:Ad)(y:DX):av:=ah (ar (bc LQ<|aa (ac 0) ag)<|af 2) (ah (ar (ac 1)<|af 3)<|y1 w y)
def L6(ad:Ad):Sd:=aE ["top","bottom","one","other","rest"] (JF ad)
theorem u_q6{x0 a:D}:L6 ad [x0,a] M Q E=JF ad (aF E) Q⁻¹ [ap x0,ap a,ay,ay,ay] M:=rfl
def BV(w:Ad)(y:DX):av:=az (ai aw (ac 1)<|jd "list" sw (ac 0)<|aa (dC<|.bl true) ag)
def Bz(w:Ad)(y:DX):av:=ah (aC (yQ (ao<|ai fX (bc bj<|aa (ac 0) ag) ¬11)<|yQ (ao<|ai fX (jd "list" tY (aq<|qS (ac 0) bu<|cC ¬10)<|aa (dC<|.bl true) ag) ¬1)<|gs<|cz<|ai aw (ac 0) ¬10) (az ¬"unlike") aB) (BV w y)
def GT(w:Ad)(y:DX):av:=ah (ar (aq<|bP<|aa (¬"case")<|aa (¬"place")<|aa (¬"moment")<|aa (¬"build")<|aa (¬"many")<|aa (¬"big")<|aa (¬"dry")<|aa (¬"text")<|aa (¬"line")<|aa (¬"row") ag)<|af 1) (Bz w y)
def CS(ad:Ad):Sd:=aE ["flags","names"] (GT ad)
theorem u_q44{x0:D}:CS ad [x0] M Q E=GT ad (aF E) Q⁻¹ [ap x0,ay] M:=rfl
def CM(w:Ad)(ea:eg)(y:DX):av:=az (ai aU (ac 1)<|aq<|bP<|aa (lC ea (.ref w.C_NoLine) eC<|aa (ac 0)<|aa (dC<|.ref w.C_NoLine) ag)<|aa (lC ea (.ref w.C_NoRow) eC<|aa (ac 0)<|aa (dC<|.ref w.C_NoRow) ag)<|aa (lC ea (.ty "ValueError") true<|aa (ac 0)<|aa (dC<|.ty "ValueError") ag) ag)
def Cu(w:Ad)(ea:eg)(y:DX):av:=ah (ar (aq<|ai aU (ac 1)<|aq<|bP<|aa (lC ea (.ref w.C_TooMany) eC<|aa (ac 0)<|aa (dC<|.ref w.C_TooMany) ag)<|aa (lC ea (.ref w.C_TooBig) eC<|aa (ac 0)<|aa (dC<|.ref w.C_TooBig) ag)<|aa (lC ea (.ref w.C_Dry) eC<|aa (ac 0)<|aa (dC<|.ref w.C_Dry) ag)<|aa (lC ea (.ref w.C_NoText) eC<|aa (ac 0)<|aa (dC<|.ref w.C_NoText) ag) ag)<|af 1) (CM w ea y)
def Co(w:Ad)(ea:eg)(y:DX):av:=ah (ar (aq<|bP<|aa (lC ea (.ref w.C_NoCase) true<|aa (ac 0)<|aa (dC<|.ref w.C_NoCase) ag)<|aa (lC ea (.ref w.C_NoPlace) eC<|aa (ac 0)<|aa (dC<|.ref w.C_NoPlace) ag)<|aa (lC ea (.ref w.C_NoMoment) eC<|aa (ac 0)<|aa (dC<|.ref w.C_NoMoment) ag)<|aa (lC ea (.ref w.C_NoBuild) eC<|aa (ac 0)<|aa (dC<|.ref w.C_NoBuild) ag) ag)<|af 1) (Cu w ea y)
def zY(ad:Ad)(ea:eg):Sd:=aE ["e","found"] (Co ad ea)
theorem TF{ea:eg}{x0:D}:zY ad ea [x0] M Q E=Co ad ea (aF E) Q⁻¹ [ap x0,ay] M:=rfl
def ui(w:Ad)(y:DX):av:=ar (aq<|aj (kd w) y 3<|aa (ac 0)<|aa (ai aw (ac 2) ¬0)<|aa (ai aw (ac 9)<|ac 10) ag) (cM (ac 9)<|ac 10)
def sI(w:Ad)(y:DX):av:=ar (aq<|aj (kd w) y 3<|aa (ac 0)<|aa (ai aw (ac 2) ¬0)<|aa (ai aw (ac 8)<|ac 11) ag) (cM (ac 8)<|ac 11)
def uN(w:Ad)(y:DX):av:=ah (ar (NU jc (ai aw (ac 2) ¬1)<|aa (ac 10) ag)<|af 11) (sI w y)
def iC(w:Ad)(y:DX):av:=aC (cz<|bc cX<|aa (ac 10)<|aa (dC<|.ty "int") ag) (ui w y) (uN w y)
def nu(w:Ad)(y:DX):av:=az (aQ<|aa (ac 2)<|aa (ac 7)<|aa (aQ<|aa (bc ci<|aa (ac 8) ag)<|aa (bc ci<|aa (ac 9) ag) ag)<|aa (bc DR<|aa (ai gu (ac 5) ¬20)<|aa (ai gu (ai aU (ac 5) ¬10)<|aq<|aj (aY w) y 2<|aa (ac 0)<|aa (¬40) ag) ag) ag)
def nQ(w:Ad)(y:DX):av:=ah (cJ (cg<|ac 6) (af 10)<|iC w y) (nu w y)
def mM(w:Ad)(y:DX):av:=ah (ar (bc eL<|aa (ai aw (ac 7) ¬1) ag)<|af 9) (nQ w y)
def nJ(w:Ad)(y:DX):av:=ah (ar (bc eL<|aa (ai aw (ac 7) ¬0) ag)<|af 8) (mM w y)
def nV(w:Ad)(y:DX):av:=ah (ar (aq<|aj (vk w) y 2<|aa (ac 0)<|aa (ac 2) ag)<|af 7) (nJ w y)
def jS(w:Ad)(y:DX):av:=ah (ar (aq<|aj (oo w) y 1<|aa (ac 1) ag)<|af 6) (nV w y)
def AN(w:Ad)(y:DX):av:=ah (ar (ac 1)<|dE 4<|aP (af 2)<|aP (af 3)<|aP (af 4)<|aP (af 5) dh) (jS w y)
def CP(ad:Ad):Sd:=aE ["pot","case","plan","sound","faulty","most","some","one","numbers","pieces","thing","at"] (AN ad)
theorem Sb{x0 a:D}:CP ad [x0,a] M Q E=AN ad (aF E) Q⁻¹ [ap x0,ap a,ay,ay,ay,ay,ay,ay,ay,ay,ay,ay] M:=rfl
def sW(w:Ad)(y:DX):av:=az (aQ<|aa (ai aU (aq<|qS (ac 2) bu<|cC ¬4)<|aQ<|aa (ai aw (ai aw (ac 2) ¬1)<|aq<|aj (aY w) y 2<|aa (ac 0)<|aa (bc bj<|aa (ai aw (ac 2) ¬1) ag) ag) ag)<|aa (ac 3)<|aa (ac 4)<|aa (ac 5) ag)
def AR(w:Ad)(y:DX):av:=az (aQ<|aa (ac 2)<|aa (ac 3)<|aa (ac 3)<|aa (ac 5) ag)
def uO(w:Ad)(y:DX):av:=az (aQ<|aa (ac 2)<|aa (ac 3)<|aa (ac 7)<|aa (ac 5) ag)
def mh(w:Ad)(y:DX):av:=ah (ar (aQ<|aa (ai aw (ac 3) ¬0)<|aa (ai aU (aQ<|aa (ai aw (ai aw (ac 3) ¬1) ¬0) ag)<|aq<|qS (ai aw (ac 4) ¬1) (cC ¬1) bu) ag)<|af 7) (uO w y)
def mT(w:Ad)(y:DX):av:=ah (aC (ao<|ai bX (ac 6) ¬1) (AR w y) aB) (mh w y)
def nU(w:Ad)(y:DX):av:=ah (aC (ao<|ai bX (ac 6) ¬0) (sW w y) aB) (mT w y)
def nP(w:Ad)(y:DX):av:=ah (ar (aq<|aj (aY w) y 2<|aa (ac 0)<|aa (¬3) ag)<|af 6) (nU w y)
def CD(w:Ad)(y:DX):av:=ah (ar (ac 1)<|dE 4<|aP (af 2)<|aP (af 3)<|aP (af 4)<|aP (af 5) dh) (nP w y)
def Cw(ad:Ad):Sd:=aE ["pot","case","plan","sound","faulty","most","way","other"] (CD ad)
theorem T_{x0 a:D}:Cw ad [x0,a] M Q E=CD ad (aF E) Q⁻¹ [ap x0,ap a,ay,ay,ay,ay,ay,ay] M:=rfl
def uB(w:Ad)(y:DX):av:=aC (va (ao<|ai eq (ac 6)<|dC .non)<|ao<|ai fX (ai aw (ac 6) ¬0)<|ai aw (ac 6) ¬1) (b6<|jd "list" bv (ac 3)<|aa (ac 5) ag) aB
def mS(w:Ad)(y:DX):av:=ah (ar (aq<|aj (lO w) y 4<|aa (ai aw (ac 5) ¬0)<|aa (ai aw (ac 5) ¬1)<|aa (ai aw (ac 5) ¬2)<|aa (ai aw (ac 5) ¬3) ag)<|af 6) (uB w y)
def gg(w:Ad)(y:DX):av:=ah (ar (aq<|aj (CP w) y 2<|aa (ac 1)<|aa (ac 2) ag)<|af 5) (mS w y)
def mD(w:Ad)(y:DX):av:=ar (fJ (ac 7)<|fJ (ai eq (ac 6)<|dC .non)<|ai fX (ai aw (ac 6) ¬0)<|ai aw (ac 6) ¬1) (af 7)
def my(w:Ad)(y:DX):av:=ah (ar (fJ (ai bX (ai aw (ac 8) ¬0)<|ai aw (ac 2) ¬0)<|ai bX (aq<|aj (oo w) y 1<|aa (ac 8) ag)<|aq<|aj (oo w) y 1<|aa (ac 2) ag)<|af 7) (mD w y)
def m_(w:Ad)(y:DX):av:=ah (ar (ai aU (aq<|ai aU (aq<|qS (ac 3) bu<|cC<|ac 9)<|aq<|bP<|aa (ac 8) ag)<|aq<|qS (ac 3) (cC<|ac 9) bu)<|af 3) (my w y)
def nv(w:Ad)(y:DX):av:=ah (ar (aq<|aj (aY w) y 2<|aa (ac 1)<|aa (ai aU (bc bj<|aa (ac 3) ag) ¬1) ag)<|af 9) (m_ w y)
def mv(w:Ad)(y:DX):av:=ah (ar (aq<|aj (lO w) y 4<|aa (ai aw (ac 8) ¬0)<|aa (ai aw (ac 8) ¬1)<|aa (ai aw (ac 8) ¬2)<|aa (ai aw (ac 8) ¬3) ag)<|af 6) (nv w y)
def uK(w:Ad)(y:DX):av:=ah (ar (aq<|aj (Cw w) y 2<|aa (ac 1)<|aa (ac 2) ag)<|af 8) (mv w y)
def nZ(w:Ad)(y:DX):av:=az (fJ (ai fX (ac 11)<|aq<|bP ag)<|ai bX (aq<|aj (CS w) y 1<|aa (ac 11) ag) ¬"case")
def n_(w:Ad)(y:DX):av:=ar (ai cB (ac 19)<|ai aw (ai aw (ai aw (ac 15)<|ac 4) ¬1) ¬1) (af 19)
def fP(w:Ad)(y:DX):av:=ah (ar (ai aU (ai cB (ac 18)<|ai aw (ai aw (ai aw (ac 15)<|ac 4) ¬1) ¬1)<|ai cB (ai aw (ai aw (ai aw (ac 15)<|ac 4) ¬1) ¬0)<|ac 19)<|af 18) (n_ w y)
def oG(w:Ad)(y:DX):av:=b6 (jd "list" bv (ac 14)<|aa (aQ<|aa (ac 17)<|aa (aq<|aj (L6 w) y 2<|aa (ac 18)<|aa (ai cB (ac 19)<|bc bj<|aa (ac 3) ag) ag) ag) ag)
def vH(w:Ad)(y:DX):av:=ah (cJ (cg<|ac 16) (af 15)<|fP w y) (oG w y)
def gU(w:Ad)(y:DX):av:=ah (ar (¬0)<|af 18) (ah (ar (¬1)<|af 19)<|vH w y)
def jG(w:Ad)(y:DX):av:=az (aj (ZO w 24) y 2<|aa (aq<|y8 (ww w) y 2 (500)<|aa (ac 3) ag)<|aa (ac 14) ag)
def jN(w:Ad)(y:DX):av:=ah (b6<|jd "list" uV (ac 10) ag) (jG w y)
def kg(w:Ad)(y:DX):av:=ah (aC (yQ (ao<|ai fX (ac 11)<|aq<|bP ag)<|yQ (gs<|cz<|aq<|aj (ZO w 24) y 2<|aa (ac 10)<|aa (ac 14) ag)<|ao<|ai fX (bc pA<|aa (ac 3) ag)<|ac 12) (az<|dC<|.bl eC) aB) (jN w y)
def jW(w:Ad)(y:DX):av:=ah (cJ (jy<|aa (aq<|aj (oo w) y 1<|aa (ac 2) ag) ag) (dE 2<|aP (af 4)<|aP (af 17) dh)<|gU w y) (kg w y)
def jO(w:Ad)(y:DX):av:=ah (cO (eZ 16<|aZ (cg<|ac 3) ["one"] [] (af 0) dL<|aq<|y8 (vt w) kP 2 (500)<|aa (ac 0) ag) 16) (jW w y)
def gH(w:Ad)(y:DX):av:=ah (aC (gs<|cz<|ac 7) (nZ w y) aB) (ah (ar (bP ag)<|af 14)<|jO w y)
def jv(w:Ad)(y:DX):av:=ah (sY w.C_NoCase (ww w) 2 [500] (aa (ac 3) ag) 10 13 11<|zY w) (gH w y)
def kE(w:Ad)(y:DX):av:=ah (ar (bc pA<|aa (ac 3) ag)<|af 12) (jv w y)
def ii(w:Ad)(y:DX):av:=ah (ar (aq<|bP ag)<|af 11) (kE w y)
def kt(w:Ad)(y:DX):av:=ah (aC (ao<|ai bX (aq<|aj (aY w) y 2<|aa (ac 1)<|aa (¬4) ag) ¬0) (uK w y) aB) (ah (ar (dC .non)<|af 10)<|ii w y)
def jr(w:Ad)(y:DX):av:=ah (cJ (fW<|aa (aq<|aj (aY w) y 2<|aa (ac 1)<|aa (¬3) ag) ag) (af 4)<|gg w y) (ah (ar (dC<|.bl true)<|af 7)<|kt w y)
def jY(w:Ad)(y:DX):av:=ah (ar (bP<|aa (ac 2) ag)<|af 3) (jr w y)
def jZ(w:Ad)(y:DX):av:=ah (ar (aq<|aj (Ba w) y 3<|aa (ac 1)<|aa (¬24)<|aa (ai aU (¬1)<|aq<|aj (aY w) y 2<|aa (ac 1)<|aa (¬3) ag) ag)<|af 2) (jY w y)
def D7(w:Ad)(y:DX):av:=ah (ar (aj (zD w) y 1<|aa (ac 0) ag)<|af 1) (jZ w y)
def IG(ad:Ad):Sd:=aE ["script","pot","case","cases","k","more","both","good","strange","at","found","kinds","before","e","due","one","told","thing","top","bottom"] (D7 ad)
theorem RX{x0:D}:IG ad [x0] M Q E=D7 ad (aF E) Q⁻¹ [ap x0,ay,ay,ay,ay,ay,ay,ay,ay,ay,ay,ay,ay,ay,ay,ay,ay,ay,ay,ay] M:=rfl
end
set_option genInjectivity false in
structure En(P:fx)(w:hB)(K:UE)(mg:ach)(base:h9)(ad:Ad):Prop where
 u0:Cls K ad.C_Ends
 u1:mg "Ends"=ap (.ref ad.C_Ends)
 u2:Cls K ad.C_Going
 u3:mg "Going"=ap (.ref ad.C_Going)
 u4:Cls K ad.C_Outcome
 u5:mg "Outcome"=ap (.ref ad.C_Outcome)
 u6:Cls K ad.C_Walk
 u7:mg "Walk"=ap (.ref ad.C_Walk)
 u8:NoAttr K ad.C_Ends "count"
 u9:NoAttr K ad.C_Ends "limit"
 u10:NoAttr K ad.C_Going "left"
 u11:NoAttr K ad.C_Going "numbers"
 u12:NoAttr K ad.C_Going "pieces"
 u13:NoAttr K ad.C_Going "todo"
 u14:NoAttr K ad.C_Going "unsettled"
 u15:NoAttr K ad.C_Outcome "faulty"
 u16:NoAttr K ad.C_Outcome "sound"
 u17:NoAttr K ad.C_Outcome "verdict"
 u18:NoAttr K ad.C_Walk "most"
 u19:NoAttr K ad.C_Walk "numbers"
 u20:NoAttr K ad.C_Walk "pieces"
 u21:NoAttr K ad.C_Walk "plan"
 u22:NoAttr K ad.C_Walk "steps"
 u23:ExcAt K ad.C_Dry
 u24:mg "Dry"=ap (.ref ad.C_Dry)
 u25:mg "NoBuild"=ap (.ref ad.C_NoBuild)
 u26:ExcAt K ad.C_NoCase
 u27:mg "NoCase"=ap (.ref ad.C_NoCase)
 u28:mg "NoLine"=ap (.ref ad.C_NoLine)
 u29:mg "NoMoment"=ap (.ref ad.C_NoMoment)
 u30:mg "NoPlace"=ap (.ref ad.C_NoPlace)
 u31:mg "NoRow"=ap (.ref ad.C_NoRow)
 u32:mg "NoText"=ap (.ref ad.C_NoText)
 u33:mg "StrideError"=ap (.ref ad.C_StrideError)
 u34:mg "TooBig"=ap (.ref ad.C_TooBig)
 u35:ExcAt K ad.C_TooMany
 u36:mg "TooMany"=ap (.ref ad.C_TooMany)
 u37:LX.XC K ad.C_NoCase
 u38:XS K ad.C_NoCase ad.C_StrideError
 u39:jo K ad.C_NoCase (.ref ad.C_Dry) eC
 u40:jo K ad.C_NoCase (.ref ad.C_NoBuild) eC
 u41:jo K ad.C_NoCase (.ref ad.C_NoCase) true
 u42:jo K ad.C_NoCase (.ref ad.C_NoLine) eC
 u43:jo K ad.C_NoCase (.ref ad.C_NoMoment) eC
 u44:jo K ad.C_NoCase (.ref ad.C_NoPlace) eC
 u45:jo K ad.C_NoCase (.ref ad.C_NoRow) eC
 u46:jo K ad.C_NoCase (.ref ad.C_NoText) eC
 u47:jo K ad.C_NoCase (.ref ad.C_TooBig) eC
 u48:jo K ad.C_NoCase (.ref ad.C_TooMany) eC
 u49:jo K ad.C_NoCase (.ty "ValueError") true
 u50:mg "ValueError"=ay
 u51:mg "abs"=ay
 u52:mg "all"=ay
 u53:mg "bool"=ay
 u54:mg "dict"=ay
 u55:mg "enumerate"=ay
 u56:mg "int"=ay
 u57:mg "isinstance"=ay
 u58:mg "len"=ay
 u59:mg "list"=ay
 u60:mg "max"=ay
 u61:mg "min"=ay
 u62:mg "range"=ay
 u63:mg "repr"=ay
 u64:mg "reversed"=ay
 u65:mg "str"=ay
 u66:mg "sum"=ay
 u67:mg "tuple"=ay
 u68:mg "zip"=ay
 f1:GI K ad.C_Walk "__init__" "Walk.__init__" SV ad.a1 ad.d1 ["self","plan","stand","most"]
 f2:GM K ad.C_Walk "note_step" "Walk.note_step" Tn ad.a2 ad.d2 ["self","place","number"]
 f3:GM K ad.C_Walk "look" "Walk.look" ME ad.a3 ad.d3 ["self","place","name"]
 f4:GF K mg "run" Ml ad.a4 ad.d4 ["plan","stand","most"]
 f5:GF K mg "mark" Mz ad.a5 ad.d5 ["plan","stand","most"]
 f6:GF K mg "do_rows" Mn ad.a6 ad.d6 ["walk","rows","place"]
 f7:GA K mg "do_row_runs" "do_row" NP ad.a7 ad.d7 ["walk","row","place"]
 f8:GF K mg "do_if" Nl ad.a8 ad.d8 ["walk","row","place"]
 f9:GF K mg "do_again" Nu ad.a9 ad.d9 ["walk","row","place"]
 f10:GF K mg "number_of" Mt ad.a10 ad.d10 ["plan","numbers","pieces","row"]
 f11:GF K mg "piece_read" MX ad.a11 ad.d11 ["plan","numbers","row"]
 f12:GF K mg "joined" Nc ad.a12 ad.d12 ["word","y","z","wheel"]
 f13:GF K mg "all_things" ML ad.a13 ad.d13 ["plan"]
 f14:GF K mg "in_order" NA ad.a14 ad.d14 ["plan","things"]
 f15:GF K mg "number_in" MV ad.a15 ad.d15 ["plan","stand","thing"]
 f16:GF K mg "names_read" Mu ad.a16 ad.d16 ["row"]
 f17:GF K mg "unlike" NS ad.a17 ad.d17 ["plan","one","other"]
 f18:GF K mg "marks" N5 ad.a18 ad.d18 ["case"]
 f19:GF K mg "unlike_of" Ni ad.a19 ad.d19 ["case"]
 f20:GF K mg "verdict_of" MI ad.a20 ad.d20 ["two","one"]
 f21:GI K ad.C_Going "__init__" "Going.__init__" T7 ad.a21 ad.d21 ["self","numbers","pieces","unsettled","todo","left"]
 f22:GM K ad.C_Going "settled" "Going.settled" Ub ad.a22 ad.d22 ["self","thing","number"]
 f23:GI K ad.C_Ends "__init__" "Ends.__init__" TZ ad.a23 ad.d23 ["self","limit"]
 f24:GM K ad.C_Ends "one_more" "Ends.one_more" SZ ad.a24 ad.d24 ["self"]
 f25:GF K mg "start" NE ad.a25 ad.d25 ["case"]
 f26:GF K mg "put_ahead" N8 ad.a26 ad.d26 ["rows","todo"]
 f27:GF K mg "go_on" Mr ad.a27 ad.d27 ["plan","going"]
 f28:GF K mg "asked_by" NL ad.a28 ad.d28 ["plan","going","row"]
 f29:GA K mg "do_row_trees" "do_row" MW ad.a29 ad.d29 ["plan","going","row"]
 f30:GF K mg "mark_of" Ny ad.a30 ad.d30 ["plan","going"]
 f31:GF K mg "both_ways" MF ad.a31 ad.d31 ["case","going","thing"]
 f32:GV K mg "tree" NH ad.a32 ad.d32 ["case","limit"] (500)
 f33:GF K mg "grown" Nt ad.a33 ad.d33 ["case","going","ends"]
 f34:GI K ad.C_Outcome "__init__" "Outcome.__init__" Tj ad.a34 ad.d34 ["self","verdict","sound","faulty"]
 f35:GF K mg "outcomes" NI ad.a35 ad.d35 ["case","limit"]
 f36:GF K mg "numbers_of" MN ad.a36 ad.d36 ["bits"]
 f37:GV K mg "shares" Mg ad.a37 ad.d37 ["case","limit"] (500)
 f38:GV K mg "mean_shares" MH ad.a38 ad.d38 ["cases","limit"] (500)
 f39:GF K mg "mean_of" M_ ad.a39 ad.d39 ["cases","limit"]
 f40:GF K mg "orders_of" Mo ad.a40 ad.d40 ["case","limit"]
 f41:GF K mg "orders_up_to" MT ad.a41 ad.d41 ["count"]
 f42:GF K mg "in_lowest_terms" Tc ad.a42 ad.d42 ["n","d"]
 f43:GF K mg "_law_stirred" NC ad.a43 ad.d43 ["cell","turn"]
 f44:GF K mg "_law_pot" Ng ad.a44 ad.d44 ["script"]
 f45:GF K mg "_law_draw" Nb ad.a45 ad.d45 ["pot","many"]
 f46:GF K mg "_law_names" MP ad.a46 ad.d46 ["pot","many"]
 f47:GF K mg "_law_row" MZ ad.a47 ad.d47 ["pot","told"]
 f48:GF K mg "_law_block" Nm ad.a48 ad.d48 ["pot","told","room","deep"]
 f49:GF K mg "_law_rows" Nd ad.a49 ad.d49 ["pot","told","room","deep","most"]
 f50:GF K mg "_law_plan" Mi ad.a50 ad.d50 ["pot","most"]
 f51:GF K mg "_law_stand" NO ad.a51 ad.d51 ["pot","plan"]
 f52:GF K mg "_law_becomes" Ms ad.a52 ad.d52 ["gone","row"]
 f53:GF K mg "_law_stepped" MM ad.a53 ad.d53 ["gone","place","number"]
 f54:GF K mg "_law_rounds" Nj ad.a54 ad.d54 ["gone","row","place"]
 f55:GF K mg "_law_done" Mj ad.a55 ad.d55 ["gone","rows","place"]
 f56:GF K mg "_law_run" NM ad.a56 ad.d56 ["plan","stand","most"]
 f57:GF K mg "_law_flat" Nx ad.a57 ad.d57 ["rows"]
 f58:GF K mg "_law_marks" Mp ad.a58 ad.d58 ["plan","sound","faulty","most"]
 f59:GF K mg "_law_other" Mv ad.a59 ad.d59 ["pot","m","number"]
 f60:GF K mg "_law_by_name" NG ad.a60 ad.d60 ["plan","sound","faulty","most","name"]
 f61:GF K mg "_law_by_piece" Us ad.a61 ad.d61 ["plan"]
 f62:GF K mg "_law_case" Mx ad.a62 ad.d62 ["pot","most_rows","few"]
 f63:GF K mg "_law_things" Mq ad.a63 ad.d63 ["case"]
 f64:GF K mg "_law_alike" Mh ad.a64 ad.d64 ["found","due"]
 f65:GF K mg "_law_fraction" TU ad.a65 ad.d65 ["top","bottom"]
 f66:GF K mg "_law_name" Mm ad.a66 ad.d66 ["flags"]
 f67:GF K mg "_law_kinds" NF ad.a67 ad.d67 ["e"]
 f68:GF K mg "_law_anew" No ad.a68 ad.d68 ["pot","case"]
 f69:GF K mg "_law_strange" MG ad.a69 ad.d69 ["pot","case"]
 f70:GF K mg "law" lR ad.a70 ad.d70 ["script"]
section
section
variable{X:Cx}{B:Bd}{a b c o e:f'}{es:acd}{ta tb tc to:bh}{t:dG}{i:Nat}{x:Str}{pos p ab7 ab6:Pos}(hU:X.A.units+64<n7)(hu:X.A.units+1<n7)(hg:X.A.guards=ap [])(hc:X.calm=true)(ha:DE X B a ta)(hb:DE X B b tb)(hd:DE X B c tc){ea:eg}{dc:D}{bb:Bool}
def v0:=hW (pos:=pos) Jw ha hb
def v1:=hW (pos:=pos) Lb ha hb
def v2:=hW (pos:=pos) KQ ha hb
def v3:=hW (pos:=pos) JH ha hb
def v4:=hW (pos:=pos) Qp ha hb
def v5:=hW (pos:=pos) Ka ha hb
def v6:=hW (pos:=pos) LW ha hb
def v7:=hW (pos:=pos) GP ha hb
def v8:=hW (pos:=pos) KU ha hb
def v9:=hW (pos:=pos) Lq ha hb
def v10:=hW (pos:=pos) JY ha hb
def v11:=sG (pos:=pos) BJ ha hb
def v12:=sG (pos:=pos) (Fk hU) ha hb
def v13:=sG (pos:=pos) vY ha hb
def v14:=sG (pos:=pos) (IV hU) ha hb
def v15:=cI (X:=X) (B:=B) (p:=p) (pos:=pos) (e:=e) (es:=es) (t:=t) Dq LY
def v16:=gj (X:=X) (B:=B) (p:=p) (pos:=pos) (e:=e) (es:=es) (t:=t) vw r9
def v17:=gj (X:=X) (B:=B) (p:=p) (pos:=pos) (e:=e) (es:=es) (t:=t) yP pE
def v18:=gj (X:=X) (B:=B) (p:=p) (pos:=pos) (e:=e) (es:=es) (t:=t) (vK hc) wq
def v19:=cI (X:=X) (B:=B) (p:=p) (pos:=pos) (e:=e) (es:=es) (t:=t) uH gQ
def v20:=gj (X:=X) (B:=B) (p:=p) (pos:=pos) (e:=e) (es:=es) (t:=t) wU wq
def v21:=cI (X:=X) (B:=B) (p:=p) (pos:=pos) (e:=e) (es:=es) (t:=t) (EL hc) KS
def v22:=cI (X:=X) (B:=B) (p:=p) (pos:=pos) (e:=e) (es:=es) (t:=t) (EG hc) Kg
def v23:=cI (X:=X) (B:=B) (p:=p) (pos:=pos) (e:=e) (es:=es) (t:=t) (Eo hc) LF
def v24:=cI (X:=X) (B:=B) (p:=p) (pos:=pos) (e:=e) (es:=es) (t:=t) (Ee hc) Jr
def v25:=cI (X:=X) (B:=B) (p:=p) (pos:=pos) (e:=e) (es:=es) (t:=t) DJ Jf
def v26:=cI (X:=X) (B:=B) (p:=p) (pos:=pos) (e:=e) (es:=es) (t:=t) (xT hg hU) Gj
def v27:=lB (X:=X) (B:=B) (pos:=pos) JA
def v28:=lB (X:=X) (B:=B) (pos:=pos) FO
def v29:=lB (X:=X) (B:=B) (pos:=pos) JD
def v30:=lB (X:=X) (B:=B) (pos:=pos) r9
def v31:=lB (X:=X) (B:=B) (pos:=pos) pE
def v32:=lB (X:=X) (B:=B) (pos:=pos) nX
def v33:=vc (X:=X) (B:=B) (ab7:=ab7) (ab6:=ab6) (o:=o) (e:=e) (es:=es) (t:=t) (to:=to) VZ X0 PySem.F.type_list_append z0
def v34:=uP (X:=X) (B:=B) (ab7:=ab7) (ab6:=ab6) (o:=o) (to:=to) VZ Xd YW Ce
def v35:=uP (X:=X) (B:=B) (ab7:=ab7) (ab6:=ab6) (o:=o) (to:=to) PySem.F.plainAttrs_int PySem.F.slot_int_bit_length PySem.F.type_int_bit_length xP
def v36:=vc (X:=X) (B:=B) (ab7:=ab7) (ab6:=ab6) (o:=o) (e:=e) (es:=es) (t:=t) (to:=to) VZ Xd YW Ce
def v37:=vc (X:=X) (B:=B) (ab7:=ab7) (ab6:=ab6) (o:=o) (e:=e) (es:=es) (t:=t) (to:=to) VZ YH PySem.F.type_list_count EA
def v38:=vc (X:=X) (B:=B) (ab7:=ab7) (ab6:=ab6) (o:=o) (e:=e) (es:=es) (t:=t) (to:=to) VZ YG PySem.F.type_list_index DP
def v39:=uP (X:=X) (B:=B) (ab7:=ab7) (ab6:=ab6) (o:=o) (to:=to) VZ Zo PySem.F.type_list_clear ED
def v40:=Qh (X:=X) (B:=B) (ab7:=ab7) (ab6:=ab6) (o:=o) (e:=e) (es:=es) (to:=to) (t:=t) YC PySem.F.type_tuple_index yH
def v41:=LN (X:=X) (B:=B) (p:=p) (pos:=pos) (e:=e) (es:=es) (t:=t) (ea:=ea) (c:=dc) (b:=bb) gQ
def v42:=JT (X:=X) (B:=B) (x:=x) (pos:=pos) (e:=e) (i:=i) (te:=ta) (pos':=p) zO
def v43:=zT (X:=X) (B:=B) (pos:=pos) (tpos:=p) (o:=a) (i:=b) (e:=c) (to:=ta) (ti:=tb) (te:=tc) hu ha hb hd zO
def v44:=zT (X:=X) (B:=B) (pos:=pos) (tpos:=p) (o:=a) (i:=b) (e:=c) (to:=ta) (ti:=tb) (te:=tc) hu ha hb hd Jb
def v45:=dO (pos:=pos) OQ ha hb
def v46:=dO (pos:=pos) (Fk hU) ha hb
def v47:=dO (pos:=pos) OJ ha hb
def v48:=dO (pos:=pos) vY ha hb
def v49:=dO (pos:=pos) BJ ha hb
def v50:=dO (pos:=pos) (IR hU) ha hb
def v51:=dO (pos:=pos) (IV hU) ha hb
def v52:=dO (pos:=pos) PR ha hb
def v53:=dO (pos:=pos) (J5 hU) ha hb
def v54:=dO (pos:=pos) QZ ha hb
def v55:=dO (pos:=pos) (DV hU) ha hb
end
local macro_rules|`(tactic|exists $n:num)=>do
 let h<-`(?_);let u<-`(_);let I:=λs:String=>Lean.mkIdent s.toName;let p:=λa k=>Lean.Syntax.mkApp (I a) (Array.replicate k h)
 let t<-((["","dnm:u OU:0 Qu:1 T0:g:Qx Qq:0 Fq:6 GR:6 DE:ai:3:2 DE:bc:2:3 QI:1 Rr:1 OO:4 Gu:3 S5:0 Ro:0 DE:dC:1:4 DE:jd:4:5 v40:7 K0:3 v41:8 F7:3 PH:1 Q1:2 Ox:1 Os:1 KG:1 xS:9 yA:8 Hv:a Jz:3 JE:4 IN:a Ez:a Hi:a","v0:2 v1:2 v2:2 v3:2 v4:2 v5:2 v6:2 v7:2 v8:2 v9:2 v10:2 v11:3 v12:4 v13:3 v14:4","v15:7 v16:7 v17:7 v18:8 v19:7 v20:7 v21:8 v22:8 v23:8 v24:8 v25:7 v26:9","v27:4 v28:4 v29:4 v30:4 v31:4 v32:4","v33:8 v34:4 v35:4 v36:8 v37:8 v38:8 v39:4","S6:3 Og:6 Py:5 Pc:1 Kl:2 Pr:5 EJ:4 Es:4 Oo:6 HQ:3 F_:6 Ol:2 v42:5 v43:5 v44:5 Ho:a Ly:a Ep:a","DT:ao:1:8 Q3:1 Rf:2 Uv:1","v45:3 v46:4 v47:3 v48:3 v49:3 v50:4 v51:4 v52:3 v53:4 v54:3 v55:4","dg:2 eI:1 JK:0 JG:1 QW:1 Q7:2 SN:2 K_:0 Kd:1 Ky:4 Pl:4 Qy:4 PQ:4 Ie:3 LM:0 Kt:4 Ec:4 Lk:5 Rz:5 OF:4 Oz:1 FC.nil:a FC.cons:a Ki:0 KM:1"].getD n.getNat "").splitOn " ").toArray.mapM λs=>match s.splitOn ":" with
  |[a,"a"]=>`(Lean.Parser.Tactic.tacticSeq|apply $(I a))
  |[a,"d"]=>`(Lean.Parser.Tactic.tacticSeq|(apply $(I a);focus decide))
  |[a,"u"]=>`(Lean.Parser.Tactic.tacticSeq|refine $(I a) _ ?_ ?_ ?_ ?_)
  |[a,k]=>`(Lean.Parser.Tactic.tacticSeq|refine $(p a k.toNat!))
  |[a,_,b]=>`(Lean.Parser.Tactic.tacticSeq|refine $(I a) ($(p b 1)) ?_ ?_ ?_)
  |[d,a,k,m]=>`(Lean.Parser.Tactic.tacticSeq|(show $(I d) _ _ _ $(Lean.Syntax.mkApp (I a) (Array.replicate k.toNat! u));exists $(Lean.Syntax.mkNumLit m)))
  |_=>Lean.Macro.throwUnsupported
 `(tactic|first $[|$t]*)
local macro_rules | `(tactic| exists 0) => `(tactic| first
 |exact Or.inl rfl
 |exact⟨_,_,_,_,_,_,_,by assumption,by assumption,Room.mono (by assumption) (by first|decide|lia),G0,by assumption⟩
 |exact⟨_,_,_,_,_,_,_,by assumption,by assumption,Room.mono (by assumption) (by first|decide|lia),t7,uxN⟩
 |exact⟨_,_,_,_,_,_,_,by first|exact .g (by assumption)|exact .a (by assumption)|exact .v (by assumption),by assumption,Room.mono (by assumption) (by first|decide|lia),G0,by assumption⟩
 |exact⟨_,_,_,_,_,_,_,by first|exact .g (by assumption)|exact .a (by assumption)|exact .v (by assumption),by assumption,Room.mono (by assumption) (by first|decide|lia),t7,uxN⟩
 |assumption
 |exact Room.mono (by assumption) (by first|decide|lia)
 |with_reducible exact G0
 |with_reducible exact t7
 |with_reducible exact uxN
 |exact⟨by assumption,by assumption,by assumption⟩
 |exact FnScope.nd (by assumption)
 |(apply nomark;decide)
 |(apply SY;decide)
 |exact PassesOwn.leaving
 |exact λ_ _=>rfl
 |exact Or.inr (Or.inl rfl)
 |exact Or.inr rfl
 |exact Or.inr (Or.inr rfl)
 |rfl
 |exact λ_=>rfl
 |decide
 |exact λ_ _ _=>rfl
 |exact⟨rfl,rfl,rfl,rfl⟩
 |with_reducible intro _)
local macro_rules | `(tactic| trivial) => `(tactic| first
 |eq_refl
 |(with_reducible first
 |(show DE _ _ _ _;exists 1)
 |refine da_c ?_ ?_ ?_
 |exact Ri
 |(show DT _ _ _ _;exists 7)
 |(show DS _ _ _ _;exists 6)
 |exists 9)
 |exists 0)
set_option hygiene false in
local macro_rules | `(tactic| exists $t:ident, $g, [$fs,*]) => do let hs <- fs.getElems.mapM fun f => `(tactic| have := $f); `(tactic| exact fnS rfl ($g).F ($g).b #[rfl, rfl, rfl, by decide +kernel, rfl, by decide +kernel, by decide +kernel] fun hS _ A _ s _ _ _ _ hr ux => (by have hU := hr.units; have hu := rQ hr; have hg := hr.gd; ($[$hs];*); unfold $t:ident; (first | refine dg ?_ ?_ | refine eI ?_); repeat' trivial))
set_option hygiene false in
local macro_rules | `(tactic| exists $t:ident, $g, [$fs,*], $[$ps:ident],*) => `(tactic| exists (_), $t:ident, $g, [$fs,*], $[$ps:ident],*)
set_option hygiene false in
local macro_rules | `(tactic| exists ($k), $t:ident, $g, [$fs,*], $[$ps:ident],*) => do let hs <- fs.getElems.mapM fun f => `(tactic| have := $f); `(tactic| exact fnS (k := $k) rfl ($g).F ($g).b #[rfl, rfl, rfl, by decide +kernel, rfl, by decide +kernel, by decide +kernel] fun hS _ A _ s _ _ _ _ hr ux => (by have hU := hr.units; have hu := rQ hr; have hg := hr.gd; ($[$hs];*); unfold $t:ident $[$ps:ident]*; (first | refine dg ?_ ?_ | refine eI ?_); repeat' trivial))
variable{P:fx}{w:hB}{K:UE}{mg:ach}{base:h9}{ad:Ad}(E:En P w K mg base ad)
include E
theorem Uc:cw P w mg base E.f1.F E.f1.b 1 (Km ad):=by
 exists J7,E.f1,[E.u6,E.u21,E.u19,E.u68,E.u54,E.u20,E.u18,E.u22],Ir,Ha,Fp
theorem NQ:cw P w mg base E.f2.F E.f2.b 1 (yb ad):=by
 exists Lp,E.f2,[E.u58,E.u6,E.u22,E.u18,E.u23,E.u24],Hq
theorem Po:cw P w mg base E.f3.F E.f3.b 2 (qJ ad):=by
 have:=NQ E
 exists CI,E.f3,[E.u6,E.u19,E.f2],Ai
theorem Pu:cw P w mg base E.f12.F E.f12.b 1 (AG ad):=by
 exists C9,E.f12,[],zJ,D5,AI,Aw,Cp
theorem Hw:cw P w mg base E.f11.F E.f11.b 1 (nY ad):=by
 exists ju,E.f11,[],D4,BY
theorem Fz:cw P w mg base E.f10.F E.f10.b 2 (pw ad):=by
 have:=Pu E;have:=Hw E
 exists gC,E.f10,[E.f11,E.f12],Bg,Bm,B2
theorem vN:∀n:Nat,cw P w mg base E.f6.F E.f6.b (2+n) (ZJ ad n)/\cw P w mg base E.f7.F E.f7.b (2+n) (ZL ad n)/\cw P w mg base E.f8.F E.f8.b (2+n) (ZM ad n)/\cw P w mg base E.f9.F E.f9.b (2+n) (ZN ad n):=by
 have:=Po E;have:=NQ E;have:=Fz E;intro n
 induction n with
 |zero=>exact#[e_,e_,e_,e_]
 |succ n ih=>
  obtain⟨_,_,_,_⟩:=ih;refine#[?_,?_,?_,?_]
  .exists (2+n),AY,E.f6,[E.u55,E.f7],Bi
  .exists (2+n),rb,E.f7,[E.f8,E.f9,E.f10,E.u6,E.u21,E.u19,E.u20,E.f2],CZ,D1,Cn,Av,CN,zG
  .exists (2+n),B3,E.f8,[E.u6,E.f3,E.f6],Ao
  .exists (2+n),Iz,E.f9,[E.u6,E.f3,E.f6],zS,Cg
theorem QK:cw P w mg base E.f4.F E.f4.b 27 (wZ ad):=by
 have:=Uc E;obtain⟨_,_,_,_⟩:=vN E 24
 exists CC,E.f4,[E.f1,E.u7,E.u6,E.f6,E.u23,E.u24,E.u22,E.u67,E.u19],ze,Cr
theorem Q9:cw P w mg base E.f5.F E.f5.b 28 (qV ad):=by
 have:=QK E
 exists Dh,E.f5,[E.f4],B1,Bo
theorem F5:cw P w mg base E.f13.F E.f13.b 1 (xl ad):=by
 exists CA,E.f13,[E.u59,E.u62]
theorem Pb:cw P w mg base E.f14.F E.f14.b 2 (Am ad):=by
 have:=F5 E
 exists A4,E.f14,[E.u54,E.f13],nI
theorem IZ:cw P w mg base E.f15.F E.f15.b 1 (pH ad):=by
 exists wf,E.f15,[E.u57,E.u65],Ay
theorem Qr:cw P w mg base E.f16.F E.f16.b 1 (Ck ad):=by
 exists jt,E.f16,[E.u59],C0,A6
theorem PD:cw P w mg base E.f17.F E.f17.b 2 (Be ad):=by
 have:=F5 E;have:=IZ E
 exists Hz,E.f17,[E.f13,E.f15]
theorem y2:cw P w mg base E.f18.F E.f18.b 29 (jA ad):=by
 have:=Q9 E
 exists vG,E.f18,[E.f5,E.u26,E.u27],mj,kx,mW
theorem uv:cw P w mg base E.f19.F E.f19.b 3 (lU ad):=by
 have:=PD E
 exists Fw,E.f19,[E.f17]
theorem P7:cw P w mg base E.f20.F E.f20.b 1 (C7 ad):=by
 exists wJ,E.f20,[],Cy
theorem Np:cw P w mg base E.f21.F E.f21.b 1 (IU ad):=by
 exists JS,E.f21,[E.u2,E.u11,E.u12,E.u14,E.u13,E.u10],GB,G2,FZ
theorem Sn:cw P w mg base E.f22.F E.f22.b 3 (HR ad):=by
 have:=Np E
 exists KP,E.f22,[E.f21,E.u3,E.u2,E.u54,E.u11,E.u59,E.u12,E.u14,E.u13,E.u10,E.u57,E.u65],yh,Gb,IM,IT
theorem RL:cw P w mg base E.f23.F E.f23.b 1 (Pf ad):=by
 exists Kw,E.f23,[E.u0,E.u9,E.u8]
theorem Nq:cw P w mg base E.f24.F E.f24.b 1 (Hd ad):=by
 exists Jo,E.f24,[E.u0,E.u8,E.u9,E.u35,E.u36],y4
theorem GO:cw P w mg base E.f26.F E.f26.b 1 (oF ad):=by
 exists zE,E.f26,[E.u64],t8
theorem Pa:cw P w mg base E.f25.F E.f25.b 4 (AM ad):=by
 have:=Np E;have:=GO E;have:=uv E
 exists HC,E.f25,[E.u54,E.f19,E.f21,E.u3,E.u2,E.u68,E.u59,E.f26],C8,D6,tN
theorem Rl:cw P w mg base E.f28.F E.f28.b 3 (BP ad):=by
 have:=Pb E;have:=Qr E;have:=Hw E
 exists BA,E.f28,[E.u2,E.u14,E.f16,E.f14,E.f11,E.u11],Ah,nS,su,uT,AZ
theorem Ot:cw P w mg base E.f29.F E.f29.b 3 (C1 ad):=by
 have:=Fz E;have:=GO E
 exists C3,E.f29,[E.u2,E.u10,E.u13,E.f26,E.u11,E.f10,E.u12,E.u14],sE,z_,CQ,iE,uC,CG,A9,AL
theorem OL:cw P w mg base E.f27.F E.f27.b 4 (Cs ad):=by
 have:=Rl E;have:=Ot E
 exists H_,E.f27,[E.u2,E.u13,E.u10,E.f28,E.f29,E.u14],uL,iA,tq,tF,sM,sf
theorem Ql:cw P w mg base E.f30.F E.f30.b 1 (BM ad):=by
 exists Bn,E.f30,[E.u2,E.u13,E.u11]
theorem Pz:cw P w mg base E.f31.F E.f31.b 4 (zL ad):=by
 have:=Sn E;have:=IZ E
 exists BE,E.f31,[E.u2,E.f22,E.f15]
theorem Ek:∀n:Nat,cw P w mg base E.f33.F E.f33.b (4+n) (ZP ad n):=by
 have:=Nq E;have:=Pz E;have:=OL E;have:=Ql E;intro n
 induction n with
 |zero=>exact e_
 |succ n ih=>
  exists (4+n),BI,E.f33,[E.f33,E.f27,E.f30,E.u0,E.f24,E.f31],sB,zC,zu,Dg,Bj
theorem Oj:OkV P w mg base E.f32.F E.f32.b 30 (Ag ad):=by
 have:=RL E;have:=Nq E;have:=Ek E 24;have:=y2 E;have:=Pa E;exact Qd rfl E.f32.F E.f32.b #[rfl,rfl,rfl,by decide +kernel,rfl,by decide +kernel,by decide +kernel] λhS _ A _ s _ _ _ _ hr ux=>(by have hU:=hr.units;have hu:=rQ hr;have hg:=hr.gd;have:=E.f18;have:=E.f23;have:=E.u1;have:=E.u0;have:=E.f24;have:=E.f33;have:=E.f25;unfold Ge Ct zh A0;(first|refine dg ?_ ?_|refine eI ?_);repeat' trivial)
theorem S4:cw P w mg base E.f34.F E.f34.b 1 (LP ad):=by
 exists JO,E.f34,[E.u4,E.u17,E.u16,E.u15],Ib
theorem PP:cw P w mg base E.f35.F E.f35.b 31 (BR ad):=by
 have:=S4 E;have:=y2 E;have:=Oj E;have:=uv E;have:=P7 E
 exists Gc,E.f35,[E.f18,E.u54,E.u55,E.f19,E.f32,E.f34,E.u5,E.u4,E.f20],we,wH,zK,iD,u_,t6,tU,tH,tD,uk,ue
theorem PB:cw P w mg base E.f36.F E.f36.b 1 (wv ad):=by
 exists BF,E.f36,[E.u62]
theorem SQ:cw P w mg base E.f42.F E.f42.b 1 (Lz ad):=by
 exists Lh,E.f42,[],yg,yf,Ih,ph,yU
theorem He:cw P w mg base E.f41.F E.f41.b 1 (vM ad):=by
 exists HK,E.f41,[E.u62],Al,uY
theorem Ps:cw P w mg base E.f40.F E.f40.b 32 (qY ad):=by
 have:=PB E;have:=He E;have:=PP E;have:=uv E
 exists B5,E.f40,[E.f19,E.f35,E.u4,E.u17,E.f41,E.u58,E.f36,E.u15,E.u16],kj,nk,nK,uZ,iL,mH,mw,mE,t9,um
theorem Fd:cw P w mg base E.f39.F E.f39.b 33 (qR ad):=by
 have:=SQ E;have:=Ps E;have:=He E;have:=uv E
 exists wY,E.f39,[E.f40,E.f19,E.u26,E.u27,E.f41,E.u58,E.u55,E.f42,E.u66],iz,iB,iu,iy,iQ
theorem Qe:OkV P w mg base E.f37.F E.f37.b 34 (vt ad):=by
 have:=Fd E;exact Qd rfl E.f37.F E.f37.b #[rfl,rfl,rfl,by decide +kernel,rfl,by decide +kernel,by decide +kernel] λhS _ A _ s _ _ _ _ hr ux=>(by have hU:=hr.units;have hu:=rQ hr;have hg:=hr.gd;have:=E.f39;unfold zm;(first|refine dg ?_ ?_|refine eI ?_);repeat' trivial)
theorem Qt:OkV P w mg base E.f38.F E.f38.b 34 (ww ad):=by
 have:=y2 E;have:=Fd E;exact Qd rfl E.f38.F E.f38.b #[rfl,rfl,rfl,by decide +kernel,rfl,by decide +kernel,by decide +kernel] λhS _ A _ s _ _ _ _ hr ux=>(by have hU:=hr.units;have hu:=rQ hr;have hg:=hr.gd;have:=E.f18;have:=E.f39;unfold CK uw;(first|refine dg ?_ ?_|refine eI ?_);repeat' trivial)
theorem Re:cw P w mg base E.f43.F E.f43.b 1 (on ad):=by
 exists Ar,E.f43,[],CY
theorem Op:cw P w mg base E.f44.F E.f44.b 1 (zD ad):=by
 exists B8,E.f44,[E.u59],zw,A2,C6
theorem fc:cw P w mg base E.f45.F E.f45.b 2 (aY ad):=by
 have:=Re E
 exists IF,E.f45,[E.f43],CU,zR,BQ,BL,Au,Cd,Aq,At
theorem QJ:cw P w mg base E.f46.F E.f46.b 3 (AH ad):=by
 have:=fc E
 exists zr,E.f46,[E.f45,E.u62,E.u67],nB,mP,ng
theorem QS:cw P w mg base E.f47.F E.f47.b 3 (xi ad):=by
 have:=fc E
 exists AW,E.f47,[E.f45,E.u58],xy,wT,Ap,B7,zV,Bq,zH,C5,AF,Dj,Bp
theorem oM:∀n:Nat,cw P w mg base E.f48.F E.f48.b (3+n) (ZI ad n)/\cw P w mg base E.f49.F E.f49.b (3+n) (ZH ad n):=by
 have:=fc E;have:=QS E;intro n
 induction n with
 |zero=>exact#[e_,e_]
 |succ n ih=>
  obtain⟨_,_⟩:=ih;refine#[?_,?_]
  .exists (3+n),Dc,E.f48,[E.f45,E.u58,E.f49,E.u61],Br,Di,AC,A_,D8,C_,BK,Bu,BH
  .exists (3+n),zy,E.f49,[E.u62,E.f45,E.f48,E.f47,E.u67],AU,Ae,zq,Cq,Cz,zN,By
theorem QB:cw P w mg base E.f50.F E.f50.b 28 (Cc ad):=by
 have:=fc E;have:=QJ E;obtain⟨_,_⟩:=oM E 24
 exists AX,E.f50,[E.f45,E.f46,E.f49,E.u58],Ak,zj,A3,zF
theorem HG:cw P w mg base E.f51.F E.f51.b 3 (vk ad):=by
 have:=fc E
 exists G7,E.f51,[E.u67,E.f45,E.u62],Dk
theorem QH:cw P w mg base E.f52.F E.f52.b 1 (vh ad):=by
 exists pS,E.f52,[E.u58],vz,vC,wG,zP,D3,CH,CT,Dd,zM,Az,BZ,CW
theorem Pg:cw P w mg base E.f53.F E.f53.b 1 (lK ad):=by
 exists Bb,E.f53,[E.u58],zb
theorem m9:∀n:Nat,cw P w mg base E.f54.F E.f54.b (1+n) (ZK ad n)/\cw P w mg base E.f55.F E.f55.b (1+n) (ZG ad n):=by
 have:=QH E;have:=Pg E;intro n
 induction n with
 |zero=>exact#[e_,e_]
 |succ n ih=>
  obtain⟨_,_⟩:=ih;refine#[?_,?_]
  .exists (1+n),zX,E.f54,[E.u62,E.f53,E.f55],mZ,uA,Da,uz
  .exists (1+n),zo,E.f55,[E.f55,E.u55,E.f54,E.f53,E.f52],p_,tI,nF,mI,nr,A5,s_,ud,tL,sU
theorem OW:cw P w mg base E.f56.F E.f56.b 26 (qW ad):=by
 obtain⟨_,_⟩:=m9 E 24
 exists AD,E.f56,[E.u68,E.u54,E.f55,E.u67],Db,BD,AA
theorem F4:cw P w mg base E.f57.F E.f57.b 1 (vF ad):=by
 exists IB,E.f57,[E.u67]
theorem xY:cw P w mg base E.f58.F E.f58.b 27 (lO ad):=by
 have:=OW E
 exists BW,E.f58,[E.f56],mR,mm,sS
theorem Hu:cw P w mg base E.f59.F E.f59.b 3 (kd ad):=by
 have:=fc E
 exists CF,E.f59,[E.f45]
theorem Oq:cw P w mg base E.f60.F E.f60.b 28 (Bv ad):=by
 have:=F4 E;have:=xY E
 exists De,E.f60,[E.u67,E.f57,E.f58],nR,mJ,nG,mO,nj
theorem SD:cw P w mg base E.f61.F E.f61.b 1 (Jt ad):=by
 exists Ko,E.f61,[],uo,uX,pL,ub
theorem RA:cw P w mg base E.f62.F E.f62.b 29 (Ba ad):=by
 have:=Oq E;have:=SD E;have:=fc E;have:=F4 E;have:=xY E;have:=Hu E;have:=QB E;have:=HG E
 exists zg,E.f62,[E.f50,E.u60,E.f51,E.u59,E.f45,E.u58,E.f59,E.u61,E.u62,E.u67,E.f58,E.f57,E.f60,E.f61],oR,pN,oY,oQ,oE,pi,o7,jz,qc,pk,jI,jJ,pz,ku,jF,wu,pB,B9,ug,sQ,rW,sh,si,tP,ut,sj
theorem IE:cw P w mg base E.f63.F E.f63.b 1 (oo ad):=by
 exists BC,E.f63,[E.u68,E.u62],rX,tz
theorem pJ:∀n:Nat,cw P w mg base E.f64.F E.f64.b (0+n) (ZO ad n):=by
 intro n
 induction n with
 |zero=>exact e_
 |succ n ih=>
  exists (0+n),ic,E.f64,[E.f64,E.u57,E.u53,E.u56,E.u65,E.u67,E.u59,E.u58,E.u52,E.u68],Ac,AQ,B6,AT,Aa,CB,Bh,A8,zk
theorem Sw:cw P w mg base E.f65.F E.f65.b 1 (L6 ad):=by
 exists JF,E.f65,[E.u51],y1,Hf,uS,Hk
theorem Rc:cw P w mg base E.f66.F E.f66.b 1 (CS ad):=by
 exists GT,E.f66,[E.u58],Bz,BV
theorem Ry:T5 P w mg base E.f67.F E.f67.b 1 ad.C_NoCase (zY ad):=by
 exact fnSE rfl E.f67.F E.f67.b #[rfl,rfl,rfl,by decide +kernel,rfl,by decide +kernel,by decide +kernel] rfl λhS _ _ A _ s _ _ _ _ hr ux h0=>(by have hU:=hr.units;have hu:=(λr=>by have:=r.units;lia) hr;have hg:=hr.gd;have:=E.u37;have:=E.u41;have:=E.u57;have:=E.u27;have:=E.u44;have:=E.u30;have:=E.u43;have:=E.u29;have:=E.u40;have:=E.u25;have:=E.u48;have:=E.u36;have:=E.u47;have:=E.u34;have:=E.u39;have:=E.u24;have:=E.u46;have:=E.u32;have:=E.u42;have:=E.u28;have:=E.u45;have:=E.u31;have:=E.u49;have:=E.u50;unfold Co Cu CM;(first|refine dg ?_ ?_|refine eI ?_);repeat' trivial)
theorem Rt:cw P w mg base E.f68.F E.f68.b 4 (CP ad):=by
 have:=fc E;have:=Hu E;have:=HG E;have:=IE E
 exists AN,E.f68,[E.f63,E.f51,E.u59,E.u57,E.u56,E.f59,E.u67,E.u60,E.f45],jS,nV,nJ,mM,nQ,nu,iC,uN,sI,ui
theorem Pv:cw P w mg base E.f69.F E.f69.b 3 (Cw ad):=by
 have:=fc E
 exists CD,E.f69,[E.f45,E.u58],nP,nU,mT,mh,uO,AR,sW
theorem Rq:cw P w mg base E.f70.F E.f70.b 35 (IG ad):=by
 have:=pJ E 24;have:=Rt E;have:=RA E;have:=fc E;have:=Sw E;have:=Ry E;have:=xY E;have:=Rc E;have:=Op E;have:=Pv E;have:=IE E;have:=Qt E;have:=Qe E
 exists D7,E.f70,[E.f44,E.f62,E.f45,E.u62,E.f68,E.f58,E.f69,E.u58,E.f63,E.u63,E.f38,E.u38,E.u33,E.f67,E.f66,E.u55,E.f65,E.f64,E.f37],jZ,jY,jr,kt,ii,kE,jv,gH,jO,jW,kg,jN,jG,gU,vH,oG,fP,n_,nZ,uK,mv,nv,m_,my,mD,gg,mS,uB
end
end _T
namespace _3
open PySem _2
theorem aH(c:∀Q' E',Q' d M->T ds M Q' E')(h:Q d M):calls T EE ds M Q b:=
 am λQ' E' a _=>c Q' E' (a d M h)
theorem bz(h:0<=i):fm xs i=xs[i.toNat]?:=by
 cases i with
 |ofNat k=>rfl
 |negSucc k=>exact absurd h (by lia)
@[simp] theorem atI_0:fm xs 0=xs[0]?:=rfl
@[simp] theorem atI_1:fm xs 1=xs[1]?:=rfl
@[simp] theorem atI_2:fm xs 2=xs[2]?:=rfl
@[simp] theorem atI_3:fm xs 3=xs[3]?:=rfl
@[simp] theorem atI_4:fm xs 4=xs[4]?:=rfl
theorem cA(I:List D->Dl->Mem->Prop)(c:∀xs Y M,I xs Y M->ok M)(f:∀Y M,I [] Y M->DD.nx Y M)
  (i:∀x xs Y M,I (x::xs) Y M->∀D':DEnds,(∀a M',I xs a M'->D'.nx a M')->(∀a M',I xs a M'->D'.ct a M')->D'.rt=DD.rt->D'.bk=DD.nx->g x Y M λδ2 M2=>j D' δ2 M2):∀xs Y M,I xs Y M->eV g j DD ok b xs Y M
 |[],Y,M,h=>#[c _ _ _ h,f Y M h]
 |x::xs,Y,M,h=>#[c _ _ _ h,i x xs Y M h _ (λa M' e=>cA I c f i xs a M' e) (λa M' e=>cA I c f i xs a M' e) rfl rfl]
theorem bV(I:List D->List D->Dl->Mem->Prop)(e:∀xs ab5 Y M,I xs ab5 Y M->ok M)(j:∀ab5 Y M,I [] ab5 Y M->Q ab5 M)
  (l:∀x xs ab5 Y M,I (x::xs) ab5 Y M->∀N:Bool->D->Dl->Mem->Prop,(∀y a M',ab5.length<sizeLine->I xs (ab5++[y]) a M'->N true y a M')->(∀y a M',I xs ab5 a M'->N eC y a M')->g x Y M λδ2 M2=>tt δ2 M2 λc M3=>if c=true then te δ2 M3 λy M4=>N true y δ2 M4 else N eC .non δ2 M3)
  (m:∀x xs ab5 Y M,I (x::xs) ab5 Y M->ab5.length<sizeLine):∀xs ab5 Y M,I xs ab5 Y M->di g tt te ok Q b xs ab5 Y M
 |[],ab5,Y,M,h=>#[e _ _ _ _ h,j ab5 Y M h]
 |x::xs,ab5,Y,M,h=>#[e _ _ _ _ h,l x xs ab5 Y M h (λk y a M'=>if k=true then ab5.length<sizeLine/\di g tt te ok Q b xs (ab5++[y]) a M' else di g tt te ok Q b xs ab5 a M')
   (λy a M' f i=>by rw[if_pos rfl];exact#[f,bV I e j l m xs _ a M' i]) (λy a M' i=>by rw[if_neg (by simp)];exact bV I e j l m xs _ a M' i) |> λz=>by simpa using z]
theorem bg(h:n<=1000000):n<=sizeLine:=UL h (by decide)
theorem gn(h:n<1000000):n<sizeLine:=UM h (by decide)
end _3
namespace _T
open PySem _2 _3
variable{x:Str}
set_option genInjectivity true in
inductive Rw where
 |put (x:Str) (k:Int)|take (x:Str) (i:Int)|pick (x y:Str)|two (w x y z:Str)|ifr (x:Str) (a b:List Rw)|again (x:Str) (a:List Rw)
mutual
noncomputable def Rw.d:Rw->D
 |.put x k=>.tup [.str "put",.str x,.int k]
 |.take x i=>.tup [.str "take",.str x,.int i]
 |.pick x y=>.tup [.str "pick",.str x,.str y]
 |.two w x y z=>.tup [.str w,.str x,.str y,.str z]
 |.ifr x a b=>.tup [.str "if",.str x,.tup (aD a),.tup (aD b)]
 |.again x a=>.tup [.str "again",.str x,.tup (aD a)]
noncomputable def aD:List Rw->List D
 |[]=>[]
 |r::rs=>r.d::aD rs
end
theorem iO:∀rs:List Rw,aD rs=rs.map Rw.d
 |[]=>rfl
 |r::rs=>by rw[aD,iO rs];rfl
abbrev cS:=List (Str×Int)
noncomputable def gN(n:cS)(x:Str):Option Int:=(n.find? λp=>decide (p.1=x)).map (·.2)
def nm(n:cS)(x:Str):Int:=(gN n x).getD 0
noncomputable def sN(n:cS)(x:Str)(v:Int):cS:=n.map λp=>if p.1=x then (p.1,v) else p
noncomputable def eE(n:cS):List (aI×D):=n.map λp=>(Vo p.1,D.int p.2)
theorem Na:∀{n:cS}{x:Str},x∈n.map (·.1)->gN n x=ap (nm n x)
 |[],_,h=>by simp at h
 |(y,v)::n,x,h=>by
  by_cases e:y=x
  .simp[gN,nm,e]
  simpa [gN,nm,e] using (Na<|by simpa [eq_comm,e] using h)
theorem ck:∀{n:cS}{x:Str},dm (eE n) (Vo x)=(gN n x).map D.int
 |[],x=>rfl
 |(y,v)::n,x=>by
  by_cases e:y=x
  .simp[dm,eE,gN,e]
  simpa [dm,eE,gN,e] using (ck)
theorem FY:∀{n:cS}{x:Str},x∈n.map (·.1)->((eE n).any λkv=>decide (kv.1=Vo x))=true
 |[],_,h=>by simp at h
 |(y,v)::n,x,h=>by
  by_cases e:y=x
  .simp[eE,e]
  .have:=FY (by simpa [eq_comm,e] using h)
   simp[eE]at this ⊢
   simp_all
theorem nN(h:x∈n.map (·.1)):fU (eE n) (Vo x) (.int v)=eE (sN n x v):=by
 unfold fU;rw[FY h];simp only[eE,sN,Vq];apply VH;intro p _
 by_cases e:p.1=x
 .simp[e]
 simp[e]
theorem n8:(sN n x v).map (·.1)=n.map (·.1):=by
 simp only[sN,Vq];apply VH;intro p _
 by_cases e:p.1=x<;>simp[e]
theorem U0(h:x∈n.map (·.1)):gN (sN n x v) y=if y=x then ap v else gN n y:=by
 induction n with
 |nil=>simp at h
 |cons p n ih=>
  obtain⟨k,u⟩:=p
  by_cases e:k=x
  .subst e
   by_cases a:y=k
   .subst a;simp[gN,sN]
   simp[if_neg a];have f:¬k=y:=λz=>a z.symm
   by_cases b:k∈n.map (·.1)
   .simpa [gN,sN,f,if_neg a] using (ih b)
   simp only[gN,sN,UG,if_pos,WG,f,decide_false];have:n.map (λp=>if p.1=k then (p.1,v) else p)=n:=by
    conv=>rhs;rw[<- V3 n]
    apply VH;intro p g;have:p.1≠k:=λz=>b (by rw[<- z];exact Va g)
    simp[this]
   rw[this]
  have:=ih (by simpa [Vb e,e] using h)
  by_cases a:y=x
  .subst a;simpa [gN,sN,e] using this
  by_cases c:k=y
  .subst c;simp[gN,sN,e]
  .simpa [gN,sN,e,c,a] using this
structure Cf where
 m:Int
 pieces:List Int
 most:Nat
structure Sx where
 nums:cS
 steps:List (List Int×Int)
noncomputable def EZ(w:Str)(y z m:Int):Int:=if w="sum" then (y+z) % m else if w="by" then y*z % m else if w="less" then (if y<z then 1 else 0) else if y=z then 1 else 0
def num(c:Cf)(n:cS):Rw->Int
 |.put _ k=>k
 |.take _ i=>(c.pieces[i.toNat]?).getD 0
 |.pick _ y=>(c.pieces[(nm n y % (c.pieces.length:Int)).toNat]?).getD 0
 |.two w _ y z=>EZ w (nm n y) (nm n z) c.m
 |_=>0
noncomputable def jq:Rw->Str
 |.put x _=>x
 |.take x _=>x
 |.pick x _=>x
 |.two _ x _ _=>x
 |.ifr x _ _=>x
 |.again x _=>x
noncomputable def nt(c:Cf)(pl:ab_)(v:Int)(s:Sx):Bool×Sx:=if s.steps.length<c.most then (true,#[s.nums,s.steps++[(pl,v)]]) else (eC,s)
def lk(n:cS)(x:Str):Int:=if nm n x=0 then 0 else 1
def fD(c:Cf)(x:Str)(pl:ab_)(body:Nat->Sx->Bool×Sx):Nat->Nat->Sx->Bool×Sx
 |0,_,s=>(eC,s)
 |f+1,t,s=>if (nt c (pl++[(t:Int)]) (lk s.nums x) s).1=true then
   (if lk s.nums x=1 then
    (if (body t (nt c (pl++[(t:Int)]) (lk s.nums x) s).2).1=true then fD c x pl body f (t+1) (body t (nt c (pl++[(t:Int)]) (lk s.nums x) s).2).2 else body t (nt c (pl++[(t:Int)]) (lk s.nums x) s).2)
   else nt c (pl++[(t:Int)]) (lk s.nums x) s)
  else nt c (pl++[(t:Int)]) (lk s.nums x) s
mutual
noncomputable def jp(c:Cf):Rw->List Int->Sx->Bool×Sx
 |.ifr x a b,pl,s=>if (nt c pl (lk s.nums x) s).1=true then (if lk s.nums x=1 then cc c a (pl++[lk s.nums x]) 0 (nt c pl (lk s.nums x) s).2 else cc c b (pl++[lk s.nums x]) 0 (nt c pl (lk s.nums x) s).2) else nt c pl (lk s.nums x) s
 |.again x a,pl,s=>fD c x pl (λt s=>cc c a (pl++[(t:Int)]) 0 s) (c.most+1) 0 s
 |.put x k,pl,s=>if (nt c pl (num c s.nums<|.put x k) s).1=true then (true,#[sN s.nums x (num c s.nums<|.put x k),(nt c pl (num c s.nums<|.put x k) s).2.steps]) else nt c pl (num c s.nums<|.put x k) s
 |.take x i,pl,s=>if (nt c pl (num c s.nums<|.take x i) s).1=true then (true,#[sN s.nums x (num c s.nums<|.take x i),(nt c pl (num c s.nums<|.take x i) s).2.steps]) else nt c pl (num c s.nums<|.take x i) s
 |.pick x y,pl,s=>if (nt c pl (num c s.nums<|.pick x y) s).1=true then (true,#[sN s.nums x (num c s.nums<|.pick x y),(nt c pl (num c s.nums<|.pick x y) s).2.steps]) else nt c pl (num c s.nums<|.pick x y) s
 |.two w x y z,pl,s=>if (nt c pl (num c s.nums<|.two w x y z) s).1=true then (true,#[sN s.nums x (num c s.nums<|.two w x y z),(nt c pl (num c s.nums<|.two w x y z) s).2.steps]) else nt c pl (num c s.nums<|.two w x y z) s
noncomputable def cc(c:Cf):List Rw->List Int->Nat->Sx->Bool×Sx
 |[],_,_,s=>(true,s)
 |r::rs,pl,j,s=>if (jp c r (pl++[(j:Int)]) s).1=true then cc c rs pl (j+1) (jp c r (pl++[(j:Int)]) s).2 else jp c r (pl++[(j:Int)]) s
end
def ma(c:Cf)(r:Rw)(pl:ab_)(s:Sx):Bool×Sx:=if s.steps.length<c.most then (true,#[sN s.nums (jq r) (num c s.nums r),s.steps++[(pl,num c s.nums r)]]) else (eC,s)
noncomputable def bw:Rw->Bool
 |.ifr _ _ _=>eC
 |.again _ _=>eC
 |_=>true
theorem cK(h:bw r=true):jp c r pl s=ma c r pl s:=by
 cases r with
 |ifr x a b=>trivial
 |again x a=>trivial
 |_=>simp[jp,ma,nt,jq];lia
theorem ofs_inj(a b:String):(WU a=WU b)=(a=b):=by
 refine propext #[λh=>?_,by lia]
 rw[Str.ofString_eq_byList]at h;exact String.toList_inj.mp ((List.map_inj_right λx y=>Char.toNat_inj.mp).mp<|congrArg (λx:Str=>x.cps.toList) h)
end _T
open PySem _2 _3 _T
local macro_rules | `(tactic| simp! [$a,*]) => do let p <- ("Fp Ha Ir Hq Ai Cp Aw AI D5 zJ BY D4 B2 Bm Bg Bi zG CN Av Cn D1 CZ Ao Cg zS Cr ze Bo B1 nI Ay A6 C0 mW kx mj Cy FZ G2 GB IT IM Gb yh y4 t8 tN D6 C8 AZ uT su nS Ah AL A9 CG uC iE CQ z_ sE sf sM tF tq iA uL Bj Dg zu zC sB A0 zh Ct Ib ue uk tD tH tU t6 u_ iD zK wH we yU ph Ih yf yg uY Al um t9 mE mw mH iL uZ nK nk kj iQ iy iu iB iz uw CY C6 A2 zw At Aq Cd Au BL BQ zR CU ng mP nB Bp Dj AF C5 zH Bq zV B7 Ap wT xy BH Bu BK C_ D8 A_ AC Di Br By zN Cz Cq zq Ae AU zF A3 zj Ak Dk CW BZ Az zM Dd CT CH D3 zP wG vC vz zb uz Da uA mZ sU tL ud s_ A5 nr mI nF tI p_ AA BD Db sS mm mR nj mO nG mJ nR ub pL uX uo sj ut tP si sh rW sQ ug B9 pB wu jF ku pz jJ jI pk qc jz o7 pi oE oQ oY pN oR tz rX zk A8 Bh CB Aa AT B6 AQ Ac Hk uS Hf y1 BV Bz CM Cu ui sI uN iC nu nQ mM nJ nV jS sW AR uO mh mT nU nP uB mS gg mD my m_ nv mv uK nZ n_ fP oG vH gU jG jN kg jW jO gH jv kE ii kt jr jY jZ kR IC HA RC GZ zx Rn y8 vx FS uG uj wB wo LQ lC tY sw aE startN ah aC ao cz EY ai bX fX dv br fits aR eW ac dC az qz aB gs va yQ fJ My oI md cB aw aO dI aq frz aU ji eq lY qk ar af dE aP dh cM kL aa ag aQ bP bc bj eL ci cX cy QO ke FR DR aW cG b6 jd bv EH NU jc li ib jh cW Q4 uF gZ IJ PL qS cC bu aj dA iW cg fW jy SJ cH eZ dL cO g5 zc xM frzs Qw sH FX yd".splitOn " ").toArray.mapM (fun s => `(Lean.Parser.Tactic.simpLemma| ↓$(Lean.mkIdent s.toName):ident)); let q <- ("List.map_cons List.map_nil List.cons_append List.nil_append List.length_cons List.length_nil List.getElem?_cons_succ List.getElem?_cons_zero List.set_cons_succ List.set_cons_zero Nat.zero_add Nat.reduceAdd Nat.reduceSub List.replicate_succ List.replicate_zero List.append_nil true_and and_true if_true if_false Bool.false_eq_true decide_eq_true_eq decide_eq_false_iff_not Bool.not_true Bool.not_false Bool.and_true Bool.true_and Bool.and_false Bool.false_and Mem.upd_same Option.isSome_some Option.isSome_none Sz s2_s s2e_s oe_s oe_n one_1 two_2 nil_0 cns_c no_0 no_1 RJ onI_i Me onS_s onTy_t onT_t SK QX Rh onIST_i onIST_s onIST_t onIST_r onIST_l onSR_s onSR_r onLR_l onLR_r onTM_t onTM_m onTM_r onTM_l onTe_t onTe_r onTe_l onRe_r onRe_n onRe_b onRe_i onRe_s onRe_t onRe_l onRe_f onRe_m onRe_ml mL_l mK_k mN_n mLe_l mLe_k mLe_t mLe_n mLe_0 mSet_l mSet_k mSet_t ofs_inj String.reduceEq".splitOn " ").toArray.mapM (fun s => `(Lean.Parser.Tactic.simpLemma| $(Lean.mkIdent s.toName):ident)); let r : Lean.TSyntaxArray [`Lean.Parser.Tactic.simpStar, `Lean.Parser.Tactic.simpErase, `Lean.Parser.Tactic.simpLemma] := (p.map (⟨·.raw⟩)) ++ (q.map (⟨·.raw⟩)) ++ a.getElems; `(tactic| simp -dsimp only [$r,*])
local macro_rules | `(tactic| simp_arith! only [$a,*]) => do let q <- ("Sz s2_s s2e_s oe_s oe_n one_1 two_2 nil_0 cns_c no_0 no_1 RJ onI_i Me onS_s onTy_t onT_t SK QX Rh onIST_i onIST_s onIST_t onIST_r onIST_l onSR_s onSR_r onLR_l onLR_r onTM_t onTM_m onTM_r onTM_l onTe_t onTe_r onTe_l onRe_r onRe_n onRe_b onRe_i onRe_s onRe_t onRe_l onRe_f onRe_m onRe_ml mL_l mK_k mN_n mLe_l mLe_k mLe_t mLe_n mLe_0 mSet_l mSet_k mSet_t ag".splitOn " ").toArray.mapM (fun s => `(Lean.Parser.Tactic.simpLemma| $(Lean.mkIdent s.toName):ident)); let r : Lean.TSyntaxArray [`Lean.Parser.Tactic.simpStar, `Lean.Parser.Tactic.simpErase, `Lean.Parser.Tactic.simpLemma] := (q.map (⟨·.raw⟩)) ++ a.getElems; `(tactic| simp -dsimp only [$r,*])
namespace _T
open PySem _2 _3
variable{names:ab'}
theorem lL(b:0<m)(i:0<=y)(g:y<1000)(h:Q (.int<|EZ w y z m) M):AG ad [.str w,.int y,.int z,.int m] M Q E:=by
 have f:CMul y z:=.inl #[by lia,by lia]
 unfold EZ at h;simp![T6,C9]
 split
 .rename_i e;rw[if_pos e]at h;exact#[b,ak h]
 rename_i e;rw[if_neg e]at h
 split
 .rename_i e;rw[if_pos e]at h;exact#[f,b,ak h]
 rename_i e;rw[if_neg e]at h
 split
 .rename_i e;rw[if_pos e]at h
  split<;>rename_i a
  .rw[if_pos a]at h;exact ak h
  .rw[if_neg a]at h;exact ak h
 .rename_i e;rw[if_neg e]at h
  split<;>rename_i a
  .rw[if_pos a]at h;exact ak h
  .rw[if_neg a]at h;exact ak h
def cP(names:ab')(m many:Int):Rw->Prop
 |.put x k=>x∈names/\0<=k/\k<m
 |.take x i=>x∈names/\0<=i/\i<many
 |.pick x y=>x∈names/\y∈names/\0<many
 |.two w x y z=>(w="sum"\/w="by"\/w="less"\/w="same")/\x∈names/\y∈names/\z∈names
 |_=>False
structure NOk(names:ab')(m:Int)(n:cS):Prop where
 keys:n.map (·.1)=names
 rng:∀p∈n,0<=p.2/\p.2<m
theorem NOk.at(h:NOk names m n)(f:x∈names):gN n x=ap (nm n x)/\0<=nm n x/\nm n x<m:=by
 have e:=Na (by rw[h.keys];exact f)
 refine#[e,?_];obtain⟨p,b,a⟩:=VO.mp e;rw[<- a];exact h.rng p (List.mem_of_find?_eq_some b)
theorem Ku(g:2<=m):0<=EZ w y z m/\EZ w y z m<m:=by
 unfold EZ;have a:=VL (y+z) (show m≠0 by lia)
 have f:=VM (y+z) (show 0<m by lia)
 have e:=VL (y*z) (show m≠0 by lia)
 have b:=VM (y*z) (show 0<m by lia)
 lia
structure COk(c:Cf):Prop where
 m2:2<=c.m
 m1:c.m<=997
 rng:∀v∈c.pieces,0<=v/\v<c.m
 few:c.pieces.length<=1000
 most:c.most<=10000
theorem COk.piece(h:COk c)(a:i<c.pieces.length):c.pieces[i]?=ap ((c.pieces[i]?).getD 0)/\0<=(c.pieces[i]?).getD 0/\(c.pieces[i]?).getD 0<c.m:=by
 rw[UC a];exact#[rfl,h.rng _<|by simp_all]
theorem AO(h:COk c)(f:NOk names c.m n)(a:cP names c.m c.pieces.length r):0<=num c n r/\num c n r<c.m:=by
 cases r with
 |put x k=>exact a.2
 |take x i=>exact(h.piece<|by have:=a.2;lia).2
 |pick x y=>
  have b:=a.2.2;have e:=VM (nm n y) b;exact(h.piece<|by lia).2
 |two w x y z=>exact Ku h.m2
 |ifr=>exact a.elim
 |again=>exact a.elim
def aX(c:Cf)(names:ab')(rows:List Rw)(mk:Str):D:=.tup [.int c.m,.tup (names.map D.str),.int (c.pieces.length:Nat),.tup (aD rows),.str mk]
theorem cD(g:NOk names c.m n)(a:cP names c.m c.pieces.length r)(f:M b=ap (.dK<|eE n))(h:Q (match r with|.take _ i=>.int i|.pick _ y=>.int (nm n y % (c.pieces.length:Int))|_=>.non) M):nY ad [aX c names rows mk,.ref b,r.d] M Q E:=by
 cases r with
 |put x k=>(simp![qP,ju,Rw.d,atI_0];exact ak h)
 |take x i=>(simp![qP,ju,Rw.d,atI_0];exact ak h)
 |pick x y=>
  simp![qP,ju,Rw.d,atI_0,atI_2,f,ck,(g.at a.2.1).1];exact#[a.2.2,ak h]
 |two w x y z=>
  obtain⟨e,_⟩:=a;rcases e with rfl|rfl|rfl|rfl<;>(simp![qP,ju,aX,Rw.d,atI_0];exact ak h)
 |ifr=>exact a.elim
 |again=>exact a.elim
theorem p9(o:COk c)(e:NOk names c.m n)(b:cP names c.m c.pieces.length r)(f:M u=ap (.dK<|eE n))(h:Q (.int<|num c n r) M):pw ad [aX c names rows mk,.ref u,.tup (c.pieces.map D.int),r.d] M Q E:=by
 have B:=o.m1;cases r with
 |put x k=>
  simp![lZ,gC,Rw.d,atI_0];exact ak h
 |take x i=>
  have a:=b;obtain⟨s,j,G⟩:=a;have g:(c.pieces.map D.int)[i.toNat]?=ap (.int<|num c n<|.take x i):=by rw[UH,(o.piece (i:=i.toNat)<|by lia).1];rfl
  simp![lZ,gC,aX,Rw.d,atI_0,atI_2];refine aH (d:=.int i) (λ_ _ q=>cD (c:=c) (names:=names) (rows:=rows) (mk:=mk) (r:=.take x i) e b f q) ?_;simp![bz j,g];exact ak h
 |pick x y=>
  have a:=b;obtain⟨s,p,j⟩:=a;have F:=VM (nm n y) j;have g:(c.pieces.map D.int)[(nm n y % (c.pieces.length:Int)).toNat]?=ap (.int<|num c n<|.pick x y):=by rw[UH,(o.piece (i:=(nm n y % (c.pieces.length:Int)).toNat)<|by lia).1];rfl
  simp![lZ,gC,aX,Rw.d,atI_0,atI_2];refine aH (d:=.int (nm n y % (c.pieces.length:Int))) (λ_ _ q=>cD (c:=c) (names:=names) (rows:=rows) (mk:=mk) (r:=.pick x y) e b f q) ?_;simp![bz (VL (nm n y) (show (c.pieces.length:Int)≠0 by lia)),g]
  exact ak h
 |two w x y z=>
  have a:=b;obtain⟨v,s,p,C⟩:=a;have A:=e.at p;have l:((w=WU "put")=False):=by rcases v with rfl|rfl|rfl|rfl<;>exact eq_false (by decide +kernel)
  simp![lZ,gC,aX,Rw.d,atI_0,atI_2,l];refine aH (d:=.non) (λ_ _ q=>cD (c:=c) (names:=names) (rows:=rows) (mk:=mk) e b f q) ?_;simp![atI_0,atI_2,atI_3,f,ck,A.1,(e.at C).1,VI];exact aH (λ_ _ q=>lL (by lia) (by lia) (by lia) q) (ak h)
 |ifr=>exact b.elim
 |again=>exact b.elim
structure Wk where
 a:eg
 dn:eg
 ls:eg
 h1:a≠dn
 h2:a≠ls
 h3:dn≠ls
noncomputable def iZ(l:ab_):D:=.tup (l.map D.int)
def yJ(l:List (List Int×Int)):List D:=l.map λp=>.tup [iZ p.1,.int p.2]
def wM(ad:Ad)(k:Wk)(c:Cf)(pD:D)(s:Sx)(M:Mem):Mem:=
 ((M.upd k.a<|.ins ad.C_Walk [("plan",pD),("numbers",.ref k.dn),("pieces",.tup (c.pieces.map D.int)),("most",.int (c.most:Nat)),("steps",.ref k.ls)]).upd k.dn<|.dK<|eE s.nums).upd k.ls (.lst<|yJ s.steps)
theorem qp:wM ad k c pD s M k.a=ap (.ins ad.C_Walk [("plan",pD),("numbers",.ref k.dn),("pieces",.tup (c.pieces.map D.int)),("most",.int (c.most:Nat)),("steps",.ref k.ls)]):=by
 unfold wM;rw[ae k.h2,ae k.h1,Mem.upd_same]
theorem Bw:wM ad k c pD s M k.dn=ap (.dK<|eE s.nums):=by unfold wM;rw[ae k.h3,Mem.upd_same]
theorem N9:wM ad k c pD s M k.ls=ap (.lst<|yJ s.steps):=by unfold wM;simp_all
theorem Hx:(wM ad k c pD s M).upd k.ls (.lst<|yJ x)=wM ad k c pD #[s.nums,x] M:=by unfold wM;simp_all
theorem J_:(wM ad k c pD s M).upd k.dn (.dK<|eE x)=wM ad k c pD #[x,s.steps] M:=by
 unfold wM;rw[aA (Vb k.h3),Mem.upd_upd]
theorem lf0:Vk ("plan":Str) [(("plan":Str),x0),(("numbers":Str),x1),(("pieces":Str),x2),(("most":Str),x3),(("steps":Str),x4)]=ap (x0:D):=rfl
theorem J2:Vk ("numbers":Str) [(("plan":Str),x0),(("numbers":Str),x1),(("pieces":Str),x2),(("most":Str),x3),(("steps":Str),x4)]=ap (x1:D):=rfl
theorem lf2:Vk ("pieces":Str) [(("plan":Str),x0),(("numbers":Str),x1),(("pieces":Str),x2),(("most":Str),x3),(("steps":Str),x4)]=ap (x2:D):=rfl
theorem lf3:Vk ("most":Str) [(("plan":Str),x0),(("numbers":Str),x1),(("pieces":Str),x2),(("most":Str),x3),(("steps":Str),x4)]=ap (x3:D):=rfl
theorem lf4:Vk ("steps":Str) [(("plan":Str),x0),(("numbers":Str),x1),(("pieces":Str),x2),(("most":Str),x3),(("steps":Str),x4)]=ap (x4:D):=rfl
theorem lfm:Vk ("note_step":Str) [(("plan":Str),x0),(("numbers":Str),x1),(("pieces":Str),x2),(("most":Str),x3),(("steps":Str),x4)]=(none:Option D):=rfl
theorem lfl:Vk ("look":Str) [(("plan":Str),x0),(("numbers":Str),x1),(("pieces":Str),x2),(("most":Str),x3),(("steps":Str),x4)]=(none:Option D):=rfl
theorem gY(g:c.most<=10000)(e:(nt c pl v s).1=true->Q .non (wM ad k c pD (nt c pl v s).2 M))(b:(nt c pl v s).1=eC->E ad.C_Dry (wM ad k c pD (nt c pl v s).2 M)):
  yb ad [.ref k.a,iZ pl,.int v] (wM ad k c pD s M) Q E:=by
 unfold nt at e b;simp![u_q2,Lp,qp,N9,lf3,lf4,yJ,UA]
 split
 .have:¬s.steps.length<c.most:=by lia
  rw[if_neg this]at b;exact bU (b rfl)
 have f:s.steps.length<c.most:=by lia
 rw[if_pos f]at e;refine#[bg (by decide),gn (by lia),ak ?_]
 have:=e rfl;rw[<- Hx]at this;simpa [yJ] using this
end _T
namespace _3
open PySem _2
def fH:Nat->List D->List D
 |_,[]=>[]
 |k,x::xs=>.tup [.int (k:Nat),x]::fH (k+1) xs
theorem vP:∀(xs:List D)(k:Nat),(xs.zipIdx k).map (λp=>D.tup [.int (p.2:Nat),p.1])=fH k xs
 |[],_=>rfl
 |x::xs,k=>by rw[XA,UG,vP xs _];rfl
theorem fV(xs:List D):wl xs=fH 0 xs:=vP xs 0
theorem aL:DIt.ok #[xs,[]] M:=λ_ h=>by cases h
end _3
namespace _T
open PySem _2 _3
variable{ad:Ad}{l:eg}{c:Cf}{C:Cse}{D':DEnds}{EE:DX}{a b m many v:Int}{ns nums xs:ab_}{ab5 rest rs:List Rw}{names:ab'}{u:List aI}{M M':Mem}{fi i j:Nat}{r:Rw}{s z:Sta}{w x y:Str}{q:aI}
mutual
def fO(names:ab')(m many:Int):Rw->Prop
 |.ifr x a b=>x∈names/\bi names m many a/\bi names m many b
 |.again x a=>x∈names/\bi names m many a
 |.put x k=>cP names m many (.put x k)
 |.take x k=>cP names m many (.take x k)
 |.pick x k=>cP names m many (.pick x k)
 |.two w x y z=>cP names m many (.two w x y z)
def bi(names:ab')(m many:Int):List Rw->Prop
 |[]=>True
 |r::rs=>fO names m many r/\bi names m many rs
end
mutual
noncomputable def hR:Rw->Nat
 |.ifr _ a b=>1+max (dz a) (dz b)
 |.again _ a=>1+dz a
 |_=>0
noncomputable def dz:List Rw->Nat
 |[]=>0
 |r::rs=>max (hR r) (dz rs)
end
theorem GG(f:NOk names c.m n)(B:0<=v/\v<c.m):NOk names c.m (sN n x v):=by
 refine#[by rw[n8];exact f.keys,λp e=>?_]
 simp only[sN,UR]at e;obtain⟨q,h,rfl⟩:=e
 split
 .exact B
 exact f.rng q h
theorem g6{s:Sx}:(nt c pl v s).2.nums=s.nums:=by unfold nt;split<;>rfl
theorem nh(h:COk c)(f:cP names c.m c.pieces.length r){s:Sx}(e:NOk names c.m s.nums):NOk names c.m (ma c r pl s).2.nums:=by
 unfold ma
 split
 .exact GG e (AO h e f)
 exact e
theorem CJ{x:Str}(B:∀t s,NOk names c.m s.nums->NOk names c.m (e t s).2.nums):∀(f t:Nat)(s:Sx),NOk names c.m s.nums->NOk names c.m (fD c x pl e f t s).2.nums
 |0,_,s,h=>h
 |f+1,t,s,h=>by
  have p:NOk names c.m (nt c (pl++[(t:Int)]) (lk s.nums x) s).2.nums:=by rw[g6];exact h
  unfold fD
  split
  .split
   .split
    .exact CJ B f _ _ (B t _ p)
    simp_all
   exact p
  exact p
mutual
theorem tK(e:COk c):∀(r:Rw),fO names c.m c.pieces.length r->∀(pl:ab_)(s:Sx),NOk names c.m s.nums->NOk names c.m (jp c r pl s).2.nums
 |.ifr x a b,h,pl,s,hn=>by
  have f:NOk names c.m (nt c pl (lk s.nums x) s).2.nums:=by rw[g6];exact hn
  simp only[fO]at h;unfold jp
  split
  .split
   .exact dB e a h.2.1 _ _ _ f
   .exact dB e b h.2.2 _ _ _ f
  .exact f
 |.again x a,h,pl,s,hn=>by
  simp only[fO]at h;unfold jp;exact CJ (λt s p=>dB e a h.2 _ _ _ p) _ _ _ hn
 |.put x k,h,pl,s,hn=>by rw[cK rfl];exact nh e (by simpa only[fO] using h) hn
 |.take x k,h,pl,s,hn=>by rw[cK rfl];exact nh e (by simpa only[fO] using h) hn
 |.pick x k,h,pl,s,hn=>by rw[cK rfl];exact nh e (by simpa only[fO] using h) hn
 |.two w x y z,h,pl,s,hn=>by rw[cK rfl];exact nh e (by simpa only[fO] using h) hn
theorem dB(e:COk c):∀(rs:List Rw),bi names c.m c.pieces.length rs->∀(pl:ab_)(j:Nat)(s:Sx),NOk names c.m s.nums->NOk names c.m (cc c rs pl j s).2.nums
 |[],_,_,_,s,hn=>by simpa only[cc] using hn
 |r::rs,h,pl,j,s,hn=>by
  simp only[bi]at h;unfold cc
  split
  .exact dB e rs h.2 _ _ _ (tK e r h.1 _ _ hn)
  .exact tK e r h.1 _ _ hn
end
def Post(ad:Ad)(k:Wk)(c:Cf)(pD:D)(r:Bool×Sx)(M:Mem)(d:D)(Q:DK)(E:DX):Prop:=(r.1=true->Q d (wM ad k c pD r.2 M))/\(r.1=eC->E ad.C_Dry (wM ad k c pD r.2 M))
theorem bO{r:Bool×Sx}(F:∀Q' E',Post ad k c f r M d Q' E'->T ds M0 Q' E'){b:BxQ E Q}(h:Post ad k c f r M d Q E):calls T E ds M0 Q b:=
 am λQ' E' p B=>F Q' E' #[λe=>p _ _ (h.1 e),λe=>B _ _ (h.2 e)]
theorem Post.drp{r:Bool×Sx}(h:Post ad k c f r M d Q E):Post ad k c f r M d (_3.drp Q) (aF E):=#[λe=>ak (h.1 e),λe=>bU (h.2 e)]
section
variable{s:Sx}
theorem rL(F:COk c)(B:NOk names c.m s.nums)(p:x∈names)(h:Post ad k c (aX c names ab9 mk) (nt c pl (lk s.nums x) s) M (.int<|lk s.nums x) Q E):
  qJ ad [.ref k.a,iZ pl,.str x] (wM ad k c (aX c names ab9 mk) s M) Q E:=by
 have f:∀v:Int,v=lk s.nums x->calls (yb ad) (aF E) [.ref k.a,iZ pl,.int v] (wM ad k c (aX c names ab9 mk) s M) (λ_ M1=>_3.drp Q (.int v) M1) #[]:=by
  rintro v rfl
  exact bO (λQ' E' z=>gY F.most z.1 z.2) #[λe=>ak (h.1 e),λe=>bU (h.2 e)]
 simp![Ui,CI,qp,Bw,J2,lfm,ck,(B.at p).1,VI]
 split
 .rename_i e
  exact f 0 (by unfold lk;rw[if_pos e])
 rename_i e
 exact f 1 (by unfold lk;rw[if_neg e])
theorem kQ(h:cP names m many r):∃w rest,r.d=.tup (.str w::.str (jq r)::rest)/\(w="again")=False/\(w="if")=False:=by
 cases r with
 |two w x y z=>
  refine#[_,_,rfl,?_];rcases h.1 with rfl|rfl|rfl|rfl
  .exact#[by trivial,(eq_false<|by decide +kernel)]
  .exact#[(eq_false<|by decide +kernel),(eq_false<|by decide +kernel)]
  .exact#[(eq_false<|by decide +kernel),(eq_false<|by decide +kernel)]
  exact#[(eq_false<|by decide +kernel),(eq_false<|by decide +kernel)]
 |ifr=>exact h.elim
 |again=>exact h.elim
 |_=>exact#[_,_,rfl,(eq_false<|by decide +kernel),(eq_false<|by decide +kernel)]
theorem tJ(R:names.length<=1000)(O:COk c)(H:NOk names c.m s.nums)(f:cP names c.m c.pieces.length r)(h:Post ad k c (aX c names ab9 mk) (ma c r pl s) M .non Q E):
  ZL ad (n+1) [.ref k.a,r.d,iZ pl] (wM ad k c (aX c names ab9 mk) s M) Q E:=by
 obtain⟨w,rest,I,G,F⟩:=kQ f;have fin:calls (pw ad) (aF E) [aX c names ab9 mk,.ref k.dn,.tup (c.pieces.map D.int),r.d] (wM ad k c (aX c names ab9 mk) s M) (λd M'=>frz d M' λx M1=>
   af 3 x [ap (.ref k.a),ap r.d,ap (iZ pl),ay] M1 λY M2=>ah (b6<|dA ad.C_Walk "note_step" (yb ad) (aF E) 3 (ac 0)<|aa (ac 2)<|aa (ac 3) ag)
    (ar (ac 3)<|cM (aW ad.C_Walk (ac 0) "numbers")<|ai aw (ac 1)<|dC<|.int 1) { nx:=λ_ M'=>_3.drp Q .non M',rt:=_3.drp Q } Y M2) #[]:=by
  refine aH (λ_ _ q=>p9 O H f Bw q) ?_;simp![qp,lfm];refine bO (λQ' E' z=>gY O.most z.1 z.2) ?_;unfold ma at h;unfold nt;have e:jq r∈s.nums.map (·.1):=by
   rw[H.keys];cases r with
   |two w x y z=>exact f.2.1
   |ifr=>exact f.elim
   |again=>exact f.elim
   |_=>exact f.1
  split
  .rename_i B
   rw[if_pos B]at h;refine#[λ_=>?_,by lia]
   have J:=h.1 rfl;have P:wM ad k c (aX c names ab9 mk) #[sN s.nums (jq r) (num c s.nums r),s.steps++[(pl,num c s.nums r)]] M=(wM ad k c (aX c names ab9 mk) #[s.nums,s.steps++[(pl,num c s.nums r)]] M).upd k.dn (.dK<|fU (eE s.nums) (Vo<|jq r)<|.int<|num c s.nums r):=by
    rw[nN e,J_]
   rw[P]at J;have p:(eE s.nums).length<sizeLine:=by rw[eE,UA,<- UA,H.keys];exact gn (by lia)
   rw[I];simp![qp,Bw,J2,atI_1];exact#[p,ak J]
  .rename_i B
   rw[if_neg B]at h;exact#[by lia,λ_=>bU (h.2 rfl)]
 rw[I]at fin ⊢;simp![GL,rb,qp,lf0,J2,lf2,atI_0,G,F];exact fin
end
def Gr(c:Cf)(s s':Sx):Prop:=s.steps.length<=s'.steps.length/\(s.steps.length<=c.most->s'.steps.length<=c.most)
theorem Gr.refl{s:Sx}:Gr c s s:=#[by lia,id]
theorem Gr.trans{s s2:Sx}(a:Gr c s e)(b:Gr c e s2):Gr c s s2:=#[UL a.1 b.1,λh=>b.2 (a.2 h)]
theorem nt_gr{s:Sx}:Gr c s (nt c pl v s).2:=by
 unfold nt
 split
 .refine#[by simp,λ_=>?_];simp;lia
 exact Gr.refl
theorem mB{s:Sx}:Gr c s (ma c r pl s).2:=by
 unfold ma
 split
 .refine#[by simp,λ_=>?_];simp;lia
 exact Gr.refl
theorem BB{x:Str}(h:∀t s,Gr c s (e t s).2):∀(f t:Nat)(s:Sx),Gr c s (fD c x pl e f t s).2
 |0,_,s=>Gr.refl
 |f+1,t,s=>by
  unfold fD
  split
  .split
   .split
    .exact nt_gr.trans ((h t _).trans<|BB h f _ _)
    exact nt_gr.trans (h t _)
   exact nt_gr
  exact nt_gr
mutual
theorem uU:∀(r:Rw)(pl:ab_)(s:Sx),Gr c s (jp c r pl s).2
 |.ifr x a b,pl,s=>by
  unfold jp
  split
  .split
   .exact nt_gr.trans (gb a _ _ _)
   .exact nt_gr.trans (gb b _ _ _)
  .exact nt_gr
 |.again x a,pl,s=>by
  unfold jp;exact BB (λt s=>gb a _ _ _) _ _ _
 |.put x k,pl,s=>by rw[cK rfl];exact mB
 |.take x k,pl,s=>by rw[cK rfl];exact mB
 |.pick x k,pl,s=>by rw[cK rfl];exact mB
 |.two w x y z,pl,s=>by rw[cK rfl];exact mB
theorem gb:∀(rs:List Rw)(pl:ab_)(j:Nat)(s:Sx),Gr c s (cc c rs pl j s).2
 |[],_,_,s=>by unfold cc;exact Gr.refl
 |r::rs,pl,j,s=>by
  unfold cc
  split
  .exact(uU r _ _).trans (gb rs _ _ _)
  .exact uU r _ _
end
theorem ie:D.tup (pl.map D.int++[D.int v])=iZ (pl++[v]):=by simp[iZ]
def Aj(ad:Ad)(k:Wk)(c:Cf)(names:ab')(ab9:List Rw)(mk:Str)(n:Nat):Prop:=∀(rs:List Rw)(pl:ab_)(s:Sx)(M:Mem)(Q:DK)(E:DX),bi names c.m c.pieces.length rs->3*dz rs+2<=n->pl.length+2*dz rs+2<=1000->NOk names c.m s.nums->s.steps.length<=c.most->
 Post ad k c (aX c names ab9 mk) (cc c rs pl 0 s) M .non Q E->ZJ ad n [.ref k.a,.tup (aD rs),iZ pl] (wM ad k c (aX c names ab9 mk) s M) Q E
def Ph(ad:Ad)(k:Wk)(c:Cf)(names:ab')(ab9:List Rw)(mk:Str)(n:Nat):Prop:=∀(r:Rw)(pl:ab_)(s:Sx)(M:Mem)(Q:DK)(E:DX),fO names c.m c.pieces.length r->3*hR r+1<=n->pl.length+2*hR r+1<=1000->NOk names c.m s.nums->s.steps.length<=c.most->
 Post ad k c (aX c names ab9 mk) (jp c r pl s) M .non Q E->ZL ad n [.ref k.a,r.d,iZ pl] (wM ad k c (aX c names ab9 mk) s M) Q E
def PIf(ad:Ad)(k:Wk)(c:Cf)(names:ab')(ab9:List Rw)(mk:Str)(n:Nat):Prop:=∀(x:Str)(a b:List Rw)(pl:ab_)(s:Sx)(M:Mem)(Q:DK)(E:DX),fO names c.m c.pieces.length (.ifr x a b)->3*hR (.ifr x a b)<=n->pl.length+2*hR (.ifr x a b)+1<=1000->NOk names c.m s.nums->s.steps.length<=c.most->
 Post ad k c (aX c names ab9 mk) (jp c (.ifr x a b) pl s) M .non Q E->ZM ad n [.ref k.a,(Rw.ifr x a b).d,iZ pl] (wM ad k c (aX c names ab9 mk) s M) Q E
def PAg(ad:Ad)(k:Wk)(c:Cf)(names:ab')(ab9:List Rw)(mk:Str)(n:Nat):Prop:=∀(x:Str)(a:List Rw)(pl:ab_)(s:Sx)(M:Mem)(Q:DK)(E:DX),fO names c.m c.pieces.length (.again x a)->3*hR (.again x a)<=n->pl.length+2*hR (.again x a)+1<=1000->NOk names c.m s.nums->s.steps.length<=c.most->
 Post ad k c (aX c names ab9 mk) (jp c (.again x a) pl s) M .non Q E->ZN ad n [.ref k.a,(Rw.again x a).d,iZ pl] (wM ad k c (aX c names ab9 mk) s M) Q E
theorem Dw(W:COk c)(U:Ph ad k c names ab9 mk n):Aj ad k c names ab9 mk (n+1):=by
 intro rs pl s M Q E p P H B F h;simp![Ta,AY,cJ,fV]
 refine cA (λxs Y M'=>∃(f:List Rw)(j:Nat)(G:Sx)(O S:Option D),xs=fH j (aD f)/\Y=[ap _,ap _,ap _,O,S]/\M'=wM ad k c _ G M/\bi _ c.m _ f/\3*dz f+2<=n+1/\pl.length+2*dz f+2<=1000/\NOk _ _ G.nums/\G.steps.length<=c.most/\
  Post ad k c _ (cc c f pl j G) M _ Q E) (λ_ _ _ _=>aL) ?_ ?_ _ _ _ #[rs,0,s,_,_,rfl,rfl,rfl,p,P,H,B,F,h]
 .rintro Y M' ⟨f,j,G,O,S,J,rfl,rfl,p,P,H,B,F,h⟩
  cases f with
  |nil=>exact ak (by simpa [cc] using h.1 (by simp[cc]))
  |cons r rs=>trivial
 rintro x xs Y M' ⟨f,j,G,O,S,J,rfl,rfl,p,P,H,B,F,h⟩ D' R _ _ _
 cases f with
 |nil=>simp[aD,fH]at J
 |cons r f=>
  simp only[aD,fH,VY]at J;obtain⟨rfl,rfl⟩:=J;simp only[bi]at p;have X:hR r<=dz (r::f)/\dz f<=dz (r::f):=by simp only[dz];lia
  simp![iZ,UU,UA];refine#[bg (by decide),bg (by lia),?_]
  rw[ie];refine bO (r:=jp c r (pl++[(j:Int)]) G) (d:=.non) (λQ' E' z=>U r (pl++[(j:Int)]) G M Q' E' p.1 (by lia) (by simp;lia) B F z) ?_
  simp only[cc]at h;cases I:(jp c r (pl++[(j:Int)]) G).1 with
  |true=>
   rw[if_pos I]at h;refine#[λ_=>R _ _ #[f,j+1,_,_,_,rfl,rfl,rfl,p.2,by lia,by lia,tK W r p.1 _ _ B,(uU r _ _).2 F,h],λe=>by rw[I]at e;cases e]
  |false=>
   rw[if_neg (by rw[I];simp)]at h
   exact#[λe=>(by rw[I]at e;cases e),λ_=>bU (h.2 I)]
theorem yr(hc:COk c)(ih:Aj ad k c names ab9 mk n):PAg ad k c names ab9 mk (n+1):=by
 intro x a pl s M Q E J hn X F I h;simp only[fO]at J;simp only[hR]at hn X;refine#[c.most+1,?_];unfold jp at h
 have U:∀(f t:Nat)(s:Sx)(O:fZ)(R:av)(DD:DEnds)(b:BxW O R DD),NOk names c.m s.nums->s.steps.length<=c.most->c.most<s.steps.length+f->
   O=ao (ai bX (aq<|dA ad.C_Walk "look" (qJ ad) (aF E) 3 (ac 0)<|aa (ai aU (ac 2)<|aQ<|aa (ac 3) ag)<|aa (ai aw (ac 1)<|dC<|.int 1) ag)<|dC<|.int 1)->
   R=ah (b6<|aj (ZJ ad n) (aF E) 3<|aa (ac 0)<|aa (ai aw (ac 1)<|dC<|.int 2)<|aa (ai aU (ac 2)<|aQ<|aa (ac 3) ag) ag) (IJ 3 (dC<|.int 1) qG)->
   DD.nx=(λ_ M'=>_3.drp Q .non M')->
   Post ad k c (aX c names ab9 mk) (fD c x pl (λt s=>cc c a (pl++[(t:Int)]) 0 s) f t s) M .non Q E->
   cu O R DD b f [ap (.ref k.a),ap (.tup [.str "again",.str x,.tup (aD a)]),ap (iZ pl),ap (.int (t:Int))] (wM ad k c (aX c names ab9 mk) s M):=by
  intro f
  induction f with
  |zero=>intro t s O R DD b F I hf;lia
  |succ f ihf=>
   intro t s O R DD b F I hf Z W P h;unfold cu;subst Z;simp![qp,lfl,atI_1,iZ,UU,UA];refine#[bg (by decide),bg (by lia),?_]
   rw[ie];refine bO (d:=.int (lk s.nums x)) (λQ' E' z=>rL hc F J.1 z) ?_;have hl:lk s.nums x=0\/lk s.nums x=1:=by unfold lk;split<;>simp
   have B:NOk names c.m (nt c (pl++[(t:Int)]) (lk s.nums x) s).2.nums:=by rw[g6];exact F
   have G:=(nt_gr (c:=c) (pl:=pl++[(t:Int)]) (v:=lk s.nums x) (s:=s)).2 I;unfold fD at h;cases H:(nt c (pl++[(t:Int)]) (lk s.nums x) s).1 with
   |false=>
    rw[if_neg (by rw[H];simp)]at h
    exact#[λe=>(by rw[H]at e;cases e),λ_=>bU (h.2 H)]
   |true=>
    rw[if_pos H]at h;refine#[λ_=>?_,λe=>by rw[H]at e;cases e]
    have S:(nt c (pl++[(t:Int)]) (lk s.nums x) s).2.steps.length=s.steps.length+1:=by
     unfold nt at H ⊢
     split at H
     .rename_i q;rw[if_pos q];simp
     .cases H
    rcases hl with hl|hl
    .rw[hl]at h ⊢
     simp![show ((0:Int)=1)=False from eq_false (by decide)]
     rw[P];rw[hl]at H;exact ak (h.1 H)
    .rw[if_pos hl]at h
     rw[hl]at h B G S ⊢;simp![];subst W;simp![atI_2,iZ,UU,UA];refine#[bg (by decide),bg (by lia),?_]
     rw[ie];refine bO (λQ' E' z=>ih a (pl++[(t:Int)]) _ M Q' E' J.2 (by lia) (by simp;lia) B G z) ?_
     have hg:=gb (c:=c) a (pl++[(t:Int)]) 0 (nt c (pl++[(t:Int)]) 1 s).2;cases p:(cc c a (pl++[(t:Int)]) 0 (nt c (pl++[(t:Int)]) 1 s).2).1 with
     |true=>
      rw[if_pos p]at h;refine#[λ_=>?_,λe=>by rw[p]at e;cases e]
      simp![];exact ihf (t+1) _ _ _ _ _ (dB hc a J.2 _ _ _ B) (hg.2 G) (by have:=hg.1;lia) rfl rfl P h
     |false=>
      rw[if_neg (by rw[p];simp)]at h
      exact#[λe=>(by rw[p]at e;cases e),λ_=>bU (h.2 p)]
 exact U (c.most+1) 0 s _ _ _ _ F I (by lia) rfl rfl rfl h
theorem wR(f:names.length<=1000)(e:COk c):∀n:Nat,Aj ad k c names ab9 mk n/\Ph ad k c names ab9 mk n/\PIf ad k c names ab9 mk n/\PAg ad k c names ab9 mk n
 |0=>#[λrs pl s M Q E _ h=>by lia,λr pl s M Q E _ h=>by lia,λx a b pl s M Q E _ h=>by simp[hR]at h;lia,λx a pl s M Q E _ h=>by simp[hR]at h;lia]
 |n+1=>by
  obtain⟨p,F,B,G⟩:=wR f e n;exact#[Dw e F,(λH I F G=>by
     intro r pl s M Q E p J B e f h;cases r with
     |ifr x a b=>
      simp![GL,rb,Rw.d,atI_0];exact bO (λQ' E'=>F x a b pl s M Q' E' p (by lia) B e f) h.drp
     |again x a=>
      simp![GL,rb,Rw.d,atI_0];exact bO (λQ' E'=>G x a pl s M Q' E' p (by lia) B e f) h.drp
     |_=>rw[cK rfl]at h;exact tJ H I e (by assumption) h) f e B G,(λO I=>by
     intro x a b pl s M Q E p J H B F h;simp only[hR]at J H;simp![S7,B3,Rw.d,qp,lfl,atI_1,atI_2,atI_3];refine bO (λQ' E' z=>rL O B p.1 z) ?_;have hl:lk s.nums x=0\/lk s.nums x=1:=by unfold lk;split<;>simp
     have e:NOk names c.m (nt c pl (lk s.nums x) s).2.nums:=by rw[g6];exact B
     have f:=(nt_gr (pl:=pl) (v:=lk s.nums x)).2 F;unfold jp at h;cases G:(nt c pl _ s).1 with
     |false=>
      rw[if_neg (by rw[G];simp)]at h
      exact#[by lia,λ_=>bU (h.2 G)]
     |true=>
      rw[if_pos G]at h;refine#[λ_=>?_,by lia]
      rcases hl with hl|hl
      .rw[hl]at h e f ⊢
       simp![atI_2,atI_3,iZ,UA];refine#[bg (by decide),bg (by lia),?_]
       rw[ie];exact bO (λQ' E' z=>I b _ _ M Q' E' p.2.2 (by lia) (by simp;lia) e f z) h.drp
      .rw[hl]at h e f ⊢
       simp![atI_2,atI_3,iZ,UA];refine#[bg (by decide),bg (by lia),?_]
       rw[ie];exact bO (λQ' E' z=>I a _ _ M Q' E' p.2.1 (by lia) (by simp;lia) e f z) h.drp) e p,yr e p]
theorem xq:∀(names:ab')(nums:ab_)(ab5:cS),names.length=nums.length->(ab5.map (·.1)++names).Nodup->
  ((names.map λx=>(Vo x:aI)).zip<|nums.map D.int).foldl (λa p=>fU a p.1 p.2) (eE ab5)=eE (ab5++names.zip nums)
 |[],nums,ab5,_,_=>by simp
 |x::names,[],ab5,h,_=>by simp at h
 |x::names,v::nums,ab5,h,nd=>by
  have G:x∉ab5.map (·.1):=by
   exact λF=>((Xq.mp nd).2.2) x F x (by simp) rfl
  have f:((eE ab5).any λJ=>decide (J.1=Vo x))=false:=by
   rw[List.any_eq_false];intro p B;simp only[eE,UR]at B;obtain⟨q,H,rfl⟩:=B;simp only[decide_eq_true_eq];intro e;exact G (by rw[<- (Sum.inr.inj e)];exact Va H)
  simp;have I:fU (eE ab5) (Vo x) (.int v)=eE (ab5++[(x,v)]):=by
   unfold fU;rw[f];simp[eE]
  rw[I,xq _ _ _ (by simpa using h) (by simp_all)]
  simp
theorem eK:∀names:List Str,jh (names.map D.str)=ap (names.map λx=>(Vo x:aI))
 |[]=>rfl
 |x::names=>by simp[jh,cW,eK _]
theorem gO(h:names.length=nums.length)(nd:names.Nodup):NN (names.map λx=>(Vo x:aI)) (nums.map D.int)=eE (names.zip nums):=by
 have:=xq _ _ [] h (by trivial)
 assumption
theorem dp1:b_ "plan" d []=[(("plan":Str),d)]:=rfl
theorem dp2{a:D}:b_ "numbers" d [(("plan":Str),a)]=[(("plan":Str),a),(("numbers":Str),d)]:=rfl
theorem dp3{a b:D}:b_ "pieces" d [(("plan":Str),a),(("numbers":Str),b)]=[(("plan":Str),a),(("numbers":Str),b),(("pieces":Str),d)]:=rfl
theorem dp4{a b:D}:b_ "most" d [(("plan":Str),a),(("numbers":Str),b),(("pieces":Str),e)]=[(("plan":Str),a),(("numbers":Str),b),(("pieces":Str),e),(("most":Str),d)]:=rfl
theorem dp5{a b:D}:b_ "steps" d [(("plan":Str),a),(("numbers":Str),b),(("pieces":Str),e),(("most":Str),g)]=[(("plan":Str),a),(("numbers":Str),b),(("pieces":Str),e),(("most":Str),g),(("steps":Str),d)]:=rfl
noncomputable def bJ(nums pieces:ab_):D:=.tup [.tup (nums.map D.int),.tup (pieces.map D.int)]
theorem EN{a:eg}(J:M a=ay)(F:names.length=nums.length)(G:names.Nodup)(H:0<names.length)(I:names.length<=1000)(h:∀(k:Wk),k.a=a->M k.dn=ay->M k.ls=ay->Q .non (wM ad k c (aX c names rows mk) #[names.zip nums,[]] M)):
  Km ad [.ref a,aX c names rows mk,bJ nums c.pieces,.int (c.most:Nat)] (M.upd a<|.ins ad.C_Walk []) Q E:=by
 simp![u_q7,J7,aX,bJ,Mem.upd_upd,atI_0,atI_1,eK,UA,dp1];refine#[by decide,F,H,I,λdn p=>?_]
 have n1:=Mem.ne Mem.upd_same p;simp![ae n1,atI_1];refine#[by simp,?_]
 simp![dp2,dp3,aA (Vb n1),Mem.upd_upd];refine#[by simp,?_]
 refine#[by simp,by trivial,λls f=>?_]
 have n2:a≠ls:=by
  rintro rfl
  rw[ae n1,Mem.upd_same]at f;cases f
 have B:dn≠ls:=by
  intro e;simp_all
 simp![ae n2,ae n1,dp4,aA (Vb n1),Mem.upd_upd,gO F G];refine#[by simp,ak ?_]
 have:=h #[a,dn,ls,n1,n2,B] rfl (by rw[ae (Vb n1)]at p;exact p) (by rw[ae (Vb B),ae (Vb n2)]at f;exact f)
 have e:wM ad #[a,dn,ls,n1,n2,B] c (aX c names rows mk) #[names.zip nums,[]] M=(((M.upd a<|.ins ad.C_Walk [("plan",aX c names rows mk),("numbers",.ref dn),("pieces",.tup (c.pieces.map D.int)),("most",.int c.most)]).upd dn<|.dK<|eE<|names.zip nums).upd ls<|.lst []).upd a (.ins ad.C_Walk [("plan",aX c names rows mk),("numbers",.ref dn),("pieces",.tup (c.pieces.map D.int)),("most",.int c.most),("steps",.ref ls)]):=by
  rw[aA (Vb n2),aA (Vb n1),Mem.upd_upd];rfl
 rw[e]at this;exact this
def dH(c:Cf)(names:ab')(rows:List Rw)(nums:ab_):Bool×Sx:=cc c rows [] 0 #[names.zip nums,[]]
def fC(names:ab')(r:Bool×Sx):D:=if r.1=true then .tup (names.map λx=>.int (nm r.2.nums x)) else .non
structure PlOk(c:Cf)(names:ab')(rows:List Rw)(nums:ab_):Prop where
 co:COk c
 ln:names.length=nums.length
 nd:names.Nodup
 l0:0<names.length
 l1:names.length<=1000
 rng:∀v∈nums,0<=v/\v<c.m
 ok:bi names c.m c.pieces.length rows
 h:dz rows<=7
theorem jC:∀{names:ab'}{nums:ab_},names.length=nums.length->(names.zip nums).map (·.1)=names
 |[],[],_=>rfl
 |[],_::_,h=>by simp at h
 |_::_,[],h=>by simp at h
 |x::xs,v::vs,h=>by simp[jC (by simpa using h)]
theorem PlOk.nok(p:PlOk c names rows nums):NOk names c.m (names.zip nums):=#[jC p.ln,λq e=>p.rng _ (WE e).2]
theorem HP(p:PlOk c names rows nums)(h:∀l,M l=ay->Q (.tup [.ref l,fC names (dH c names rows nums)]) (M.upd l<|.lst<|yJ (dH c names rows nums).2.steps)):
  wZ ad [aX c names rows mk,bJ nums c.pieces,.int (c.most:Nat)] M Q E:=by
 simp![To,CC];intro a X;refine am λQ' E' J _=>EN X p.ln p.nd p.l0 p.l1 λk hk U G=>J _ _ ?_;subst hk;have f:∀(W:Sx),∀b o,(M.upd k.ls<|.lst<|yJ W.steps) b=ap o->wM ad k c (aX c names rows mk) W M b=ap o:=by
  intro W b o e
  by_cases R:b=k.ls
  .subst R;rw[Mem.upd_same]at e;rw[N9];exact e
  .rw[ae R]at e
   have h2:b≠k.dn:=by rintro rfl;rw[U]at e;cases e
   have h3:b≠k.a:=by rintro rfl;rw[X]at e;cases e
   unfold wM;rw[ae R,ae h2,ae h3];exact e
 have Z:=(wR (ad:=ad) (k:=k) (ab9:=rows) (mk:=mk) p.l1 p.co 24).1 rows [] #[names.zip nums,[]] M;unfold aX at Z;simp![aX,atI_3];refine#[bg (by decide),?_]
 refine am λQ2 E2 P S=>Z Q2 E2 p.ok (by have:=p.h;lia) (by have:=p.h;simp;lia) p.nok (WM _) #[λe=>P _ _ ?_,λe=>S _ _ #[rfl,?_]]
 .have hn:NOk names c.m (dH c names rows nums).2.nums:=dB p.co rows p.ok [] 0 #[names.zip nums,[]] p.nok
  have O:(dH c names rows nums).1=true:=e;simp![qp,lf4,atI_1,aZ]
  refine bV (λxs ab5 Y M'=>∃n1 n2 H,names=n1++n2/\xs=n2.map D.str/\ab5=n1.map (λx=>D.int (nm (dH c names rows nums).2.nums x))/\Y=[H,ap (.ref k.a)]/\M'=wM ad k c (aX c names rows mk) (dH c names rows nums).2 M)
   (λ_ _ _ _ _=>aL) ?_ ?_ ?_ _ _ _ _ #[[],names,ay,rfl,rfl,rfl,rfl,rfl]
  .rintro ab5 Y M' ⟨n1,n2,H,B,F,rfl,rfl,rfl⟩
   have:n2=[]:=by cases n2 with|nil=>rfl|cons _ _=>simp at F
   subst this;intro q J;simp![Mem.upd_upd,Mem.upd_del,au J];refine#[bg (by decide),#[_,f _,?_]]
   have:=h k.ls G;unfold fC at this;rw[if_pos O]at this;have en:n1=names:=by simpa using B.symm
   rw[en];exact this
  .rintro x xs ab5 Y M' ⟨n1,n2,H,B,F,rfl,rfl,rfl⟩ N hN _
   cases n2 with
   |nil=>simp at F
   |cons y n2=>
    simp only[UG,VY]at F;obtain⟨rfl,rfl⟩:=F;have hy:y∈names:=by rw[B];simp
    simp![qp,Bw,J2,ck,(hn.at hy).1,VI];refine hN _ _ _ ?_ #[n1++[y],n2,_,by simp[B],rfl,by simp,rfl,rfl]
    have I:=congrArg V8 B;have:=p.l1;simp at I ⊢;exact gn (by lia)
  .rintro x xs ab5 Y M' ⟨n1,n2,H,B,F,rfl,rfl,rfl⟩
   have I:=congrArg V8 B;have:=p.l1;simp at I ⊢;exact gn (by lia)
 .have O:(dH c names rows nums).1=false:=e
  simp![qp,lf4];refine#[bg (by decide),#[_,f _,?_]]
  have:=h k.ls G;unfold fC at this;rw[if_neg (by rw[O];simp)]at this
  exact this
structure Pt where
 p:eg
 q:eg
 ne:p≠q
def Has(k:Pt)(M:Mem):Prop:=∃(cells:ab_)(t h sd:Int),cells.length<=63/\M k.p=ap (.lst [.ref k.q,.int t,.int h,.int sd])/\M k.q=ap (.lst<|cells.map D.int)
def Dr(k:Pt)(M M':Mem):Prop:=Has k M'/\∀b,b≠k.p->b≠k.q->M' b=M b
theorem Has.refl(h:Has k M):Dr k M M:=#[h,by lia]
theorem Dr.trans{M1 M2:Mem}(a:Dr k M M1)(b:Dr k M1 M2):Dr k M M2:=#[b.1,λx f e=>(b.2 x f e).trans (a.2 x f e)]
theorem Has.nep(h:Has k M)(F:M l=ay):l≠k.p/\l≠k.q:=by
 obtain⟨e,t,hh,sd,_,B,f⟩:=h;exact#[by lia,by lia]
theorem Has.upd(h:Has k M)(f:l≠k.p/\l≠k.q):Has k (M.upd l o):=by
 obtain⟨e,t,hh,sd,G,F,B⟩:=h;exact#[_,t,hh,sd,G,by rw[ae (Vb f.1)];exact F,by rw[ae (Vb f.2)];exact B]
theorem Has.del(h:Has k M)(f:l≠k.p/\l≠k.q):Has k (M.del l):=by
 obtain⟨e,t,hh,sd,G,F,B⟩:=h;exact#[_,t,hh,sd,G,by unfold Mem.del;rw[if_neg (Vb f.1)];exact F,by unfold Mem.del;rw[if_neg (Vb f.2)];exact B]
theorem Dr.none{k:Pt}(f:Has k M)(h:Dr k M M')(e:M l=ay):M' l=none:=by
 have:=f.nep e;rw[h.2 l this.1 this.2];exact e
theorem kW:∀(n:Nat)(e:ab_),fits n (e.map D.int)=true
 |_,[]=>by rfl
 |n,c::e=>by
  rw[UG];unfold fits;rw[kW n e];rfl
theorem kF(h:∀r,Q (.int r) M):on ad [.int a,.int b] M Q E:=by
 simp![Sa,Ar];refine#[.inr (by decide),.inr (by decide),by decide,by trivial,.inr (by decide),by decide,by trivial,ak<|h _]
theorem G6{x:α}{xs:List α}:fm (x::xs) 0=ap x:=by rfl
theorem wA(h:0<m):0<=a % m/\a % m<m:=#[VL _ (by lia),VM _ h]
theorem fh{n:Nat}{i:Int}(h:0<=i)(e:i<n):ve n i=ap i.toNat:=by unfold ve;simp_all
theorem ix0:ve (n+1) 0=ap 0:=fh (by decide) (by lia)
theorem U2:ve 4 2=ap 2:=rfl
theorem cE{s u:av}(h:s { D0 with nx:=u D0 } Y M):ah s u D0 Y M:=h
theorem J9{k:Pt}(e:Y[0]?=ap (ap<|.ref k.p))(f:M k.p=ap (.lst [.ref k.q,.int t,.int hh,.int sd]))(h:D0.nx Y (M.upd k.p<|.lst [.ref k.q,.int (t+1),.int hh,.int sd])):
  ar (ai aU (ai aw (ac 0)<|dC<|.int 1)<|dC<|.int 1) (cM (ac 0)<|dC<|.int 1) D0 Y M:=by
 simp![e,f,atI_1];exact h
theorem zB{k:Pt}(e:0<many)(I:many<2 ^ 62)(h:M k.p=ap (.lst [.ref k.q,.int t,.int hh,.int sd]))(G:∀r,D0.rt (.int<|r % many) M)(F:D0.rt (.int<|hh % many) (M.upd k.p<|.lst [.ref k.q,.int t,.int (hh / many),.int sd])):
  (ah (aC (ao<|ai bX (ai aw (ac 0)<|dC<|.int 2)<|dC<|.int 0) (az<|ai dR (aq<|aj (on ad) EE 2<|aa (ai aw (ac 0)<|dC<|.int 3)<|aa (ai aw (ac 0)<|dC<|.int 1) ag)<|ac 1) aB)
  (ah (ar (ai dR (ai aw (ac 0)<|dC<|.int 2)<|ac 1)<|af 3)
  (ah (ar (ai gR (ai aw (ac 0)<|dC<|.int 2)<|ac 1)<|cM (ac 0)<|dC<|.int 2)
  (az<|ac 3)))) D0 [ap (.ref k.p),ap (.int many),H,ay] M:=by
 simp![h,atI_1,atI_2,atI_3]
 by_cases f:hh=0
 .rw[if_pos f]
  refine am λQ' E' B _=>kF λr=>B _ _ ?_;simp![];exact#[e,G r]
 .rw[if_neg f]
  simp![h,U2];exact#[e,#[e,by lia],F]
theorem KY{k:Pt}(J:0<many)(h:M k.p=ap (.lst [.ref k.q,.int t,.int hh,.int sd]))(G:M k.q=ap (.lst<|cells.map D.int))(R:D0.nx [ap (.ref k.p),ap (.int many),ay,ay] M)(P:∀c cs,hh=0->cells=c::cs->∀r,D0.rt (.int<|r % many) (M.upd k.q<|.lst<|cs.map D.int))(O:∀c cs,hh=0->cells=c::cs->¬c<10 ^ Yu 18->D0.nx [ap (.ref k.p),ap (.int many),ap (.int c),ay] ((M.upd k.q<|.lst<|cs.map D.int).upd k.p<|.lst [.ref k.q,.int t,.int c,.int sd])):
  aC (va (ao<|ai bX (ai aw (ac 0)<|dC<|.int 2)<|dC<|.int 0)<|ao<|ai fX (ai aw (ac 0)<|dC<|.int 0)<|aq<|bP ag) (ah (ar (jd "list" EH (ai aw (ac 0)<|dC<|.int 0)<|aa (dC<|.int 0) ag)<|af 2)
   (ah (aC (ao<|ai EW (ac 2)<|ai OI (dC<|.int 10)<|dC<|.int 18) (az<|ai dR (aq<|aj (on ad) EE 2<|aa (ac 2)<|aa (ai aw (ac 0)<|dC<|.int 1) ag)<|ac 1) aB)
   (ar (ac 2)<|cM (ac 0)<|dC<|.int 2))) aB D0 [ap (.ref k.p),ap (.int many),ay,ay] M:=by
 simp![h,atI_2,G6]
 by_cases f:hh=0
 .rw[if_pos f]
  refine#[by trivial,λp F=>?_]
  simp[au F,G];cases cells with
  |nil=>
   trivial
  |cons c cs=>
   have I:∀B,(M.upd _ B) _=ap _:=λB=>by rw[ae k.ne,h]
   simp![Mem.upd_del,au F,G6,h,G,I,kW,ix0,atI_1];refine#[by trivial,?_]
   by_cases e:c<10 ^ Yu 18
   .rw[if_pos e]
    exact am λQ' E' H _=>kF λr=>H _ _ #[J,P c cs f rfl r]
   rw[if_neg e];exact O c cs f rfl e
 simp_all
theorem ly(hp:Has k M)(J:0<many)(S:many<2 ^ 62)(h:∀r M',0<=r->r<many->Dr k M M'->Q (.int r) M'):
  aY ad [.ref k.p,.int many] M Q E:=by
 obtain⟨B,t,hh,sd,H,e1,e2⟩:=hp;have f:=k.ne;have fin:∀(r:Int)(M':Mem)(cells':List _)(R I G:Int),cells'.length<=63->(∀b,b≠k.p->b≠k.q->M' b=M b)->M' k.p=ap (.lst [.ref k.q,.int R,.int I,.int G])->M' k.q=ap (.lst<|cells'.map D.int)->drp Q (.int<|r % many) M':=by
  intro r M' cells' R I G a1 U X Z;exact ak (h _ _ (wA J).1 (wA J).2 #[#[_,R,_,_,a1,X,Z],U])
 have g1:∀o,(M.upd _ o) _=ap _:=λo=>by rw[ae (Vb f)];exact e2
 refine cE (J9 rfl e1 ?_);refine cE (KY J Mem.upd_same (g1 _) ?_ (λc O W P r=>?_) λc O W P hb=>?_)
 .exact zB J S Mem.upd_same (λr=>(fin _ _ B _ _ _ H (λb e F=>ae e) Mem.upd_same<|g1 _)) (fin _ _ B _ _ _ H (λb e F=>by rw[ae e,ae e]) Mem.upd_same<|by rw[ae (Vb f),g1])
 .subst P
  exact fin _ _ O _ _ _ (by simp at H;lia) (λb e F=>by rw[ae F,ae e]) (by rw[ae f,Mem.upd_same]) Mem.upd_same
 .subst P
  exact zB J S Mem.upd_same (λr=>(fin _ _ O _ _ _ (by simp at H;lia) (λb e F=>by rw[ae e,ae F,ae e]) Mem.upd_same<|by rw[ae (Vb f),Mem.upd_same])) (fin _ _ O _ _ _ (by simp at H;lia) (λb e F=>by rw[ae e,ae e,ae F,ae e]) Mem.upd_same<|by rw[ae (Vb f),ae (Vb f),Mem.upd_same])
theorem uy{xs:List D}{k:Nat}:iS xs ay (ap (k:Int))=xs.take k:=by
 unfold iS;rw[HT.wW,HT.Bc]
 simp_all
theorem ua{xs:List D}{k:Nat}:iS xs (ap (k:Int)) ay=xs.drop k:=by
 unfold iS;rw[HT.wW,HT.Bc];rcases Nat.le_total k _ with h|h
 .rw[Nat.min_eq_left h,XF (by simp)]
 simp_all
theorem Fa(h:∀(k:Pt) M',Has k M'->(∀b,b≠k.p->b≠k.q->M' b=M b)->Q (.ref k.p) M'):zD ad [.ml (ns.map D.int)] M Q E:=by
 have B:iS (ns.map D.int) ay (ap 63)=(ns.take 63).map D.int:=by rw[List.map_take];exact uy
 simp![Ss,B8,cJ,B];intro a O;refine cA (λxs Y M'=>∃(f:List _)(sd:Int)(H:Option D),xs=f.map _/\Y=[ap _,ap (.int sd),H]/\M'=M) (λ_ _ _ _=>aL) ?_ ?_ _ _ _ #[_,7,_,rfl,rfl,by rw[Mem.upd_del,au O]]
 .rintro Y M' ⟨f,sd,H,_,rfl,rfl⟩
  simp![B];intro b I;rw[Mem.upd_del,au I];intro q R;refine#[by trivial,λp S=>?_]
  have ne:p≠q:=by intro e;simp_all
  refine ak (h #[p,q,ne] _ #[ns.take 63,0,0,sd,by simp;lia,Mem.upd_same,?_] λb P J=>?_)
  .rw[ae (Vb ne),Mem.upd_same]
  rw[ae P,ae J]
 rintro x xs Y M' ⟨f,sd,H,G,rfl,rfl⟩ D' F _ _ _
 cases f with
 |nil=>simp at G
 |cons c f=>
  simp at G;obtain⟨rfl,rfl⟩:=G;simp![];exact#[.inr (by decide),by decide,F _ _<|by lia]
noncomputable def alpha:Str:="abcdefghijklmnopqrstuvwxyz"
theorem F2:∀i<26,alpha.cps.toList[i]?=ap (97+i):=by decide +kernel
theorem Ei:alpha.length<=sizeLine:=UL (show alpha.length<=100 by trivial) (by decide)
theorem vZ(F:names.length<=12)(h:∀(j:Nat)(p:j<names.length),names[j].cps[0]?=ap (97+(t+7*j) % 26)):names.Nodup:=by
 refine YT.mpr λi j B p f e=>?_
 grind
def wS(x:Str):Prop:=∃(n c:Nat),1<=n/\n<=8/\97<=c/\c<=122/\x=#[V6 n c]
theorem S8(h:Q (.int v) M):frz (.int v) M Q:=h
theorem y3{k:Pt}{t:Nat}{ab5:ab'}{G O:Option D}(P:Has k M)(F:M l=ap (.lst<|ab5.map D.str))(B:l≠k.p/\l≠k.q)(R:ab5.length<=12)(h:∀(r:Int)(M2:Mem),0<=r->r<8->Dr k M M2->D'.nx [ap (.ref k.p),G,ap (.int (t:Nat)),ap (.ref l),ap (.int (j:Nat)),ap (.str #[(tX [97+(t+7*j) % 26])])] (M2.upd l<|.lst (ab5.map D.str++[.str #[V6 (1+r).toNat (97+(t+7*j) % 26)]]))):
  mP ad EE D' [ap (.ref k.p),G,ap (.int (t:Nat)),ap (.ref l),ap (.int (j:Nat)),O] M:=by
 have e:fm alpha.cps.toList ((t+7*j) % 26)=ap (97+(t+7*j) % 26):=by
  have:((t:Int)+7*j) % 26=((t+7*j) % 26:Nat):=by lia
  rw[this,bz (by lia),UW,F2 _ (by lia)]
 simp[alpha]at e;unfold mP;generalize I:ng ad EE=K
 simp_arith! only[ah,ar,ai,dC,ac,af,UN,dt,Uz,cB,aU,oI,aw,aO,e]
 refine#[.inl (by decide),by decide,Ei,?_]
 rw[<- I];unfold ng
 simp_arith! only[b6,jd,ac,aa,dt,Uz,cy,F]
 refine#[trivial,rfl,am λQ' E' H _=>ly P (by decide) (by decide) λr M2 S U J=>H _ _ (S8 ?_)]
 have f:M2 l=ap (.lst<|ab5.map D.str):=by rw[J.2 l B.1 B.2];exact F
 simp_arith! only[aU,cB,bv,f]
 exact#[by lia,by lia,by simp;exact gn (by lia),by simp_all]
theorem yi{many:Nat}(hp:Has k M)(h1:many<=12)(h:∀(names:ab')(M':Mem),names.length=many->names.Nodup->(∀x∈names,wS x)->Dr k M M'->Q (.tup<|names.map D.str) M'):AH ad [.ref k.p,.int many] M Q E:=by
 rw[RN];unfold zr;generalize S:nB ad (aF E)=K3;refine#[rfl,am λQ' E' hq _=>ly hp (by decide) (by decide) λturn M1 t0 t1 J=>hq _ _ (S8 ?_)]
 refine#[bg (by decide),λl hl=>?_]
 have B:=J.1.nep hl;obtain⟨t,rfl⟩:=XE t0;rw[<- S];unfold nB;refine#[by lia,by lia,?_]
 refine cA (λxs Y M'=>∃(j:Nat)(ab5:ab')(Z P:Option D),j<=many/\xs=(XW j (many-j)).map (λ(i:Nat)=>D.int (0+(i:Int)))/\Y=[ap (.ref k.p),ap (.int (many:Nat)),ap (.int (t:Nat)),ap (.ref l),Z,P]/\ab5.length=j/\(∀(i:Nat)(O:i<ab5.length),ab5[i].cps[0]?=ap (97+(t+7*i) % 26))/\(∀x∈ab5,wS x)/\
  Has k M'/\M' l=ap (.lst<|ab5.map D.str)/\∀b,b≠k.p->b≠k.q->b≠l->M' b=M1 b) (λ_ _ _ _=>aL) ?_ ?_ _ _ _ #[0,[],ay,ay,WM _,?_,rfl,rfl,?_,by simp,J.1.upd B,Mem.upd_same,λb _ _ hb=>ae hb]
 .rintro Y M' ⟨j,ab5,Z,P,hj,e,rfl,I,U,f,hh,R,W⟩
  have:j=many:=by
   have:=congrArg V8 e;simp at this;lia
  subst this
  simp_arith! only[az,bc,aa,ac,ag,dt,Uz,ci,dI,R]
  refine#[M'.del l,λb o e=>?_,h ab5 _ I (vZ (by lia) U) f #[hh.del B,λb G F=>?_]]
  .unfold Mem.del at e;split at e
   .cases e
   .exact e
  .unfold Mem.del
   split
   .rename_i e;subst e;rw[<- J.2 b G F];exact hl.symm
   .rename_i e;rw[W b G F e,J.2 b G F]
 .rintro x xs Y M' ⟨j,ab5,Z,P,hj,e,rfl,I,U,f,hh,R,W⟩ D' X _ _ _
  have hjl:j<many:=by
   have:=congrArg V8 e;simp at this;lia
  obtain⟨n,hn⟩:∃n,many-j=n+1:=#[many-j-1,by lia]
  rw[hn,List.range'_succ,UG,VY]at e;obtain⟨rfl,rfl⟩:=e;rw[Zn];unfold af;dsimp only[UN];refine y3 hh R B (by lia) λr M2 r0 r1 d2=>X _ _ #[j+1,ab5++[#[V6 (1+r).toNat (97+(t+7*j) % 26)]],_,_,by lia,?_,rfl,by simp[I],?_,?_,d2.1.upd B,?_,?_]
  .rw[show many-(j+1)=n by lia]
  .intro i O
   by_cases H:i<ab5.length
   .rw[List.getElem_append_left H];exact U i H
   .have:i=ab5.length:=by simp at O;lia
    subst this;rw[List.getElem_append_right (UQ _)]
    simp_arith! only[Nat.sub_self,List.getElem_cons_zero]
    rw[Array.getElem?_replicate,if_pos (by lia),I]
  .intro x hx
   rcases Vg.mp hx with hx|hx
   .exact f x hx
   .simp at hx;subst hx
    exact#[(1+r).toNat,97+(t+7*j) % 26,by lia,by lia,by lia,by lia,rfl]
  .rw[Mem.upd_same];simp
  .intro b G F b3
   rw[ae b3,d2.2 b G F,W b G F b3]
 .simp[dD,XU]
 .intro i O;simp at O
@[simp] theorem atI_5{xs:List α}:fm xs 5=xs[5]?:=bz (by decide)
@[simp] theorem atI_6{xs:List α}:fm xs 6=xs[6]?:=bz (by decide)
@[simp] theorem atI_7{xs:List α}:fm xs 7=xs[7]?:=bz (by decide)
@[simp] theorem atI_8{xs:List α}:fm xs 8=xs[8]?:=bz (by decide)
theorem ka{r:Int}(f:0<=r)(h:r<names.length):∃y,y∈names/\fm (names.map D.str) r=ap (.str y):=by
 have e:r.toNat<names.length:=by lia
 refine#[_,Yq e,?_];rw[bz f,UH,UC e];rfl
structure ToldOk(names:ab')(m many:Int):Prop where
 m2:2<=m
 m1:m<=997
 n0:0<names.length
 n1:names.length<=12
 k0:0<=many
 k1:many<=40
noncomputable def lG(names:ab')(m many:Int):D:=.tup [.int m,.tup (names.map D.str),.int many]
theorem aG{b:BxQ EE Q}(B:Has k M)(f:0<many)(F:many<2 ^ 62)(h:∀r M',0<=r->r<many->Dr k M M'->Q (.int r) M'):calls (aY ad) EE [.ref k.p,.int many] M Q b:=
 am λQ' E' e _=>ly B f F λr M' G H d=>e _ _ (by simp_all)
theorem O_(h:te Y M λd M1=>D0.nx (Y.set i<|some d) M1):ar te (af i) D0 Y M:=h
theorem Hh(h:Y[i]?=ap (ap d))(e:K d M):ac i Y M K:=by simp_arith! only[ac,h];exact e
theorem yW{c:Str}(f:Y[i]?=ap (ap<|.str w))(p:w=c->A D0 Y M)(h:w≠c->B D0 Y M):aC (ao<|ai bX (ac i)<|dC<|.str c) A B D0 Y M:=by
 have e:aC (ao<|ai bX (ac i)<|dC<|.str c) A B D0 Y M=(if w=c then A D0 Y M else B D0 Y M):=by
  simp[aC,ao,ai,ac,dC,bX,br,dv,aR,f,s2_s,Me]
 rw[e]
 by_cases q:w=c
 .rw[if_pos q];exact p q
 rw[if_neg q];exact h q
theorem Qj(e:Y[0]?=ap (ap<|.ref k.p))(B:∀K:DK,K (.int v) M->te Y M K)(f:Has k M)(v0:0<v)(v1:v<2 ^ 62)(h:∀r M',0<=r->r<v->Dr k M M'->K (.int r) M'):
  aj (aY ad) EE 2 (aa (ac 0)<|aa te ag) Y M K:=by
 simp_arith! only[aj,aa,ac,ag,e]
 refine B _ ?_;exact#[rfl,aG f v0 v1 h]
theorem N0(h0:Y[0]?=ap (ap<|.ref k.p))(ht:∀K:DK,K (.int v) M->te Y M K)(hp:Has k M)(v0:0<v)(v1:v<2 ^ 62)(h:∀r M',0<=r->r<v->Dr k M M'->K (.int r) M'):
  aq (aj (aY ad) EE 2<|aa (ac 0)<|aa te ag) Y M K:=
 (λh=>h) (Qj h0 ht hp v0 v1<|by trivial)
theorem OE(H:Y[0]?=ap (ap<|.ref k.p))(e:Y[i]?=ap (ap<|.tup<|names.map D.str))(I:Has k M)(J:0<names.length)(n1:names.length<=12)(h:∀x M',x∈names->Dr k M M'->K (.str x) M'):
  ai aw (ac i) (aq<|aj (aY ad) EE 2<|aa (ac 0)<|aa (bc bj<|aa (ac i) ag) ag) Y M K:=by
 have B:∀K:DK,K (.int names.length) M->bc bj (aa (ac i) ag) Y M K:=λK G=>by
  simp![e,UA];exact G
 simp only[ai];refine Hh e (N0 H B I (by lia) (by lia) λr M' a b d=>?_)
 obtain⟨x,F,f⟩:=ka a b;simp![f];exact h x M' F d
theorem QM{a b:D}(f:Y[i]?=ap (ap a))(e:Y[j]?=ap (ap b))(h:te Y M λd M'=>3<=sizeLine/\D0.rt (.tup [a,b,d]) M'):az (aQ<|aa (ac i)<|aa (ac j)<|aa te ag) D0 Y M:=by
 simp_arith! only[az,aQ,aa,ac,f,e]
 exact h
theorem ret4{a b c:D}{l:Nat}(p:Y[i]?=ap (ap a))(f:Y[j]?=ap (ap b))(e:Y[l]?=ap (ap c))(h:te Y M λd M'=>4<=sizeLine/\D0.rt (.tup [a,b,c,d]) M'):az (aQ<|aa (ac i)<|aa (ac j)<|aa (ac l)<|aa te ag) D0 Y M:=by
 simp_arith! only[az,aQ,aa,ac,p,f,e]
 exact h
theorem KI{a:Option D}{s:Dl}(h:D0.nx (a::ap (lG names m many)::ap (.int m)::ap (.tup<|names.map D.str)::ap (.int many)::s) M){b c:Option D}:
  ar (ac 1) (dE 3<|aP (af 2)<|aP (af 3)<|aP (af 4) dh) D0 (a::ap (lG names m many)::b::c::d::s) M:=by
 trivial
noncomputable def waysL:List Str:=["put","sum","by","less","same","sum","put","take","pick"]
def MK(many:Int)(w:Str):Prop:=w="put"\/(w="sum"\/w="by"\/w="less"\/w="same")\/(0<many/\(w="take"\/w="pick"))
theorem L7(h:D0.nx (Y.set 5<|some<|.lst<|waysL.map D.str) M):
  ar (aq<|bP<|aa (dC<|.str "put")<|aa (dC<|.str "sum")<|aa (dC<|.str "by")<|aa (dC<|.str "less")<|aa (dC<|.str "same")<|aa (dC<|.str "sum")<|aa (dC<|.str "put")<|aa (dC<|.str "take")<|aa (dC<|.str "pick") ag) (af 5) D0 Y M:=by
 simp![];refine#[by trivial,λp e=>?_]
 rw[Mem.upd_del,au e];exact h
theorem Qi(r:Nat)(h:r<if 0<many then 9 else 7):∃w,fm (waysL.map D.str) (r:Int)=ap (.str w)/\MK many w:=by
 have f:r<9:=by lia
 have e:r=0\/r=1\/r=2\/r=3\/r=4\/r=5\/r=6\/r=7\/r=8:=by lia
 rcases e with rfl|rfl|rfl|rfl|rfl|rfl|rfl|rfl|rfl
 .exact#[_,rfl,.inl rfl]
 .exact#[_,rfl,.inr<|by lia]
 .exact#[_,rfl,.inr<|by lia]
 .exact#[_,rfl,.inr<|by lia]
 .exact#[_,rfl,.inr<|by lia]
 .exact#[_,rfl,.inr<|by lia]
 .exact#[_,rfl,.inl rfl]
 .exact#[_,rfl,.inr<|by lia]
 exact#[_,rfl,.inr<|by lia]
theorem wayE(F:Y[0]?=ap (ap<|.ref k.p))(B:Y[4]?=ap (ap<|.int many))(H:Y[5]?=ap (ap<|.lst<|waysL.map D.str))(G:Has k M)(h:∀w M',MK many w->Dr k M M'->K (.str w) M'):
  ai aw (ac 5) (aq<|aj (aY ad) EE 2<|aa (ac 0)<|aa (qz (ao<|ai Ef (ac 4)<|dC<|.int 0) (dC<|.int 9)<|dC<|.int 7) ag) Y M K:=by
 have e:∀K:DK,K (.int (if 0<many then 9 else 7)) M->qz (ao<|ai Ef (ac 4)<|dC<|.int 0) (dC<|.int 9) (dC<|.int 7) Y M K:=λK J=>by
  simp![B];lia
 refine Hh H (N0 F e G (by lia) (by split<;>decide) λr M' a b d=>?_)
 obtain⟨r,rfl⟩:=XE a;obtain⟨w,f,I⟩:=Qi (many:=many) r (by split at b<;>(split<;>lia))
 simp![f]
 simp_all
theorem Gp(U:Has k M)(W:ToldOk names m many)(h:∀(r:Rw) M',cP names m many r->Dr k M M'->Q r.d M'):xi ad [.ref k.p,lG names m many] M Q E:=by
 obtain⟨X,m1,G,n1,k0,Z⟩:=W;rw[T1];unfold AW;refine cE (KI ?_);dsimp only;refine cE (L7 ?_);dsimp only;refine cE (O_ (wayE rfl rfl rfl U λw M1 B d1=>?_));dsimp only;refine cE (O_ (OE rfl rfl d1.1 G n1 λx M2 f d2=>?_));dsimp only;refine cE (yW rfl (λe=>?_) λF=>?_)
 .subst e
  refine QM rfl rfl (Qj rfl (λK q=>Hh rfl q) d2.1 (by lia) (by lia) λr M3 a b d3=>?_)
  exact#[bg (by decide),ak<|h (.put x r) M3 #[f,a,b]<|d1.trans<|d2.trans d3]
 dsimp only[aB];refine cE (yW rfl (λe=>?_) λR=>?_)
 .subst e
  have H:0<many:=by
   rcases B with e|(e|e|e|e)|e
   .exact(F e).elim
   .exact absurd e (by decide +kernel)
   .exact absurd e (by decide +kernel)
   .exact absurd e (by decide +kernel)
   .exact absurd e (by decide +kernel)
   .exact e.1
  refine QM rfl rfl (Qj rfl (λK q=>Hh rfl q) d2.1 (by lia) (by lia) λr M3 a b d3=>?_)
  exact#[bg (by decide),ak<|h (.take x r) M3 #[f,a,b]<|d1.trans<|d2.trans d3]
 dsimp only[aB];refine cE (O_ (OE rfl rfl d2.1 G n1 λy M3 I d3=>?_));dsimp only;refine cE (yW rfl (λe=>?_) λP=>?_)
 .subst e
  have H:0<many:=by
   rcases B with e|(e|e|e|e)|e
   .exact(F e).elim
   .exact absurd e (by decide +kernel)
   .exact absurd e (by decide +kernel)
   .exact absurd e (by decide +kernel)
   .exact absurd e (by decide +kernel)
   .exact e.1
  exact QM rfl rfl (Hh rfl #[bg (by decide),ak<|h (.pick x y) M3 #[f,I,H]<|d1.trans<|d2.trans d3])
 dsimp only[aB];have O:w="sum"\/w="by"\/w="less"\/w="same":=by
  rcases B with e|e|⟨_,e|e⟩
  .exact(F e).elim
  .exact e
  .exact(R e).elim
  .exact(P e).elim
 refine ret4 rfl rfl rfl (OE rfl rfl d3.1 G n1 λz M4 S J=>?_);exact#[bg (by decide),ak<|h (.two w x y z) M4 #[O,f,I,S]<|d1.trans<|d2.trans<|d3.trans J]
mutual
def LnR:Rw->Prop
 |.ifr _ a b=>(a.length<=200/\hV a)/\b.length<=200/\hV b
 |.again _ a=>a.length<=200/\hV a
 |_=>True
def hV:List Rw->Prop
 |[]=>True
 |r::rs=>LnR r/\hV rs
end
theorem LnRs_append:∀{a b:List Rw},hV (a++b)↔hV a/\hV b
 |[],b=>by simp[hV]
 |r::a,b=>by simp[hV,LnRs_append,and_assoc]
mutual
noncomputable def cR:Rw->Nat
 |.ifr _ a b=>1+cRs a+cRs b
 |.again _ a=>1+cRs a
 |.put _ _=>1
 |.take _ _=>1
 |.pick _ _=>1
 |.two _ _ _ _=>1
noncomputable def cRs:List Rw->Nat
 |[]=>0
 |r::rs=>cR r+cRs rs
end
theorem eh:∀{a b:List Rw},cRs (a++b)=cRs a+cRs b
 |[],b=>by simp[cRs]
 |r::a,b=>by simp[cRs,eh];lia
theorem U5(h:cP names m many r):cR r=1:=by
 cases r<;>trivial
def Rv(rm:eg)(M:Mem)(v:Int):Prop:=M rm=ap (.lst [.int v])/\0<=v
def Kp(k:Pt)(rm:eg)(M M':Mem):Prop:=Has k M'/\(∃v:Int,M' rm=ap (.lst [.int v]))/\∀b o,b≠k.p->b≠k.q->b≠rm->M b=ap o->M' b=ap o
theorem Kp.trans{M1 M2:Mem}(a:Kp k rm M M1)(b:Kp k rm M1 M2):Kp k rm M M2:=#[b.1,b.2.1,λx o p e f h=>b.2.2 x o p e f (a.2.2 x o p e f h)]
structure Rm(k:Pt)(rm:eg)(M:Mem):Prop where
 h:Has k M
 n1:rm≠k.p
 n2:rm≠k.q
 v:∃v:Int,M rm=ap (.lst [.int v])
theorem Rm.kp(r:Rm k rm M):Kp k rm M M:=#[r.h,r.v,by lia]
theorem Rm.go(r:Rm k rm M)(d:Kp k rm M M'):Rm k rm M':=#[d.1,r.n1,r.n2,d.2.1]
theorem Rm.dr(r:Rm k rm M)(d:Dr k M M'):Kp k rm M M':=#[d.1,by obtain⟨v,e⟩:=r.v;exact#[v,by rw[d.2 rm r.n1 r.n2];exact e],λb o f h _ e=>by rw[d.2 b f h];exact e]
theorem Rm.new(r:Rm k rm M)(f:M l=ay)(o:MO):Kp k rm M (M.upd l o):=by
 obtain⟨v,e⟩:=r.v;have b:=Mem.ne e f;exact#[r.h.upd (r.h.nep f),#[v,by rw[ae b];exact e],λc o _ _ _ e=>by rw[ae (Mem.ne e f)];exact e]
theorem Rm.set(r:Rm k rm M)(v:Int):Kp k rm M (M.upd rm<|.lst [.int v]):=
 #[r.h.upd #[r.n1,r.n2],#[v,Mem.upd_same],λc o _ _ h e=>by rw[ae h];exact e]
def PRo(ad:Ad)(k:Pt)(rm:eg)(names:ab')(m many:Int)(n:Nat):Prop:=∀(deep:Nat)(most:Int)(M:Mem)(Q:DK)(E:DX),deep<=4->2*(4-deep)+1<=n->0<most->most<=30->Rm k rm M->∀v:Int,Rv rm M v->
 (∀(rs:List Rw)(M':Mem),(∃v',Rv rm M' v'/\(cRs rs:Int)+v'<=v)->bi names m many rs/\hV rs->dz rs+deep<=4->rs.length<=100->Kp k rm M M'->Q (.tup<|aD rs) M')->ZH ad n [.ref k.p,lG names m many,.ref rm,.int deep,.int most] M Q E
def PBl(ad:Ad)(k:Pt)(rm:eg)(names:ab')(m many:Int)(n:Nat):Prop:=∀(deep:Nat)(M:Mem)(Q:DK)(E:DX),deep<4->2*(4-deep)<=n->Rm k rm M->∀v:Int,Rv rm M v->
 (∀(rs:List Rw)(l:eg)(M':Mem),(∃v',Rv rm M' v'/\(cRs rs:Int)+v'<=v+4)->bi names m many rs/\hV rs->dz rs+deep<=4->rs.length<=3->Kp k rm M M'->M' l=ay->Q (.ref l) (M'.upd l<|.lst<|aD rs))->ZI ad n [.ref k.p,lG names m many,.ref rm,.int deep] M Q E
theorem OkRs_append:∀{a b:List Rw},bi names m many (a++b)↔bi names m many a/\bi names m many b
 |[],b=>by simp[bi]
 |r::a,b=>by simp[bi,OkRs_append,and_assoc]
theorem dY:∀{a b:List Rw},dz (a++b)=max (dz a) (dz b)
 |[],b=>by simp[dz]
 |r::a,b=>by simp[dz,dY]
theorem bZ:∀{a b:List Rw},aD (a++b)=aD a++aD b
 |[],b=>rfl
 |r::a,b=>by simp[aD,bZ]
theorem cb:∀{a:List Rw},(aD a).length=a.length
 |[]=>rfl
 |r::a=>by simp[aD,cb]
theorem P6(h:cP names m many r):fO names m many r:=by
 cases r<;>trivial
theorem TD(h:cP names m many r):hR r=0:=by
 cases r<;>trivial
theorem QE(h:cP names m many r):LnR r:=by
 cases r with
 |ifr=>exact h.elim
 |again=>exact h.elim
 |_=>trivial
theorem yt(ht:ToldOk names m many)(ih:PRo ad k rm names m many n):PBl ad k rm names m many (n+1):=by
 intro e M Q E hd hn r v rv h;obtain⟨m2,m1,n0,n1,k0,k1⟩:=ht;have dd:e+1=(e+1:Nat):=by lia
 simp![U4,Dc,lG,UA];refine aG r.h (by lia) (by lia) λr1 M1 a1 b1 I=>?_
 have R1:=r.go (r.dr I);have U:Rv rm M1 v:=#[by rw[I.2 rm r.n1 r.n2];exact rv.1,rv.2]
 obtain⟨x,B,ex⟩:=ka a1 b1;simp![ex];refine am λQ' E' R _=>ih (e+1) 5 M1 Q' E' (by lia) (by lia) (by decide) (by decide) R1 v U λfirst M2 Z p h2 l2 d2=>R _ _ ?_
 obtain⟨v2,G,Z⟩:=Z;have R2:=R1.go d2;simp![];refine aG R2.h (by decide) (by decide) λw M3 a3 b3 H=>?_
 have R3:=R2.go (R2.dr H);have f:Rv rm M3 v2:=#[by rw[H.2 rm r.n1 r.n2];exact G.1,G.2]
 simp![dd]
 by_cases X:w<2
 .rw[if_pos X]
  refine am λQ' E' R _=>ih (e+1) 5 M3 Q' E' (by lia) (by lia) (by decide) (by decide) R3 v2 f λP M4 c4 o4 h4 l4 O=>R _ _ ?_
  obtain⟨v4,S,c4⟩:=c4;simp![];refine#[bg (by decide),bg (by decide),λl F=>ak (h [.ifr x _ _] l M4 #[v4,S,by simp[cRs,cR];lia] ?_ ?_ (by simp) ((r.dr I).trans<|d2.trans<|(R2.dr H).trans O) F)]
  .exact#[#[#[B,p.1,o4.1],trivial],#[#[by lia,p.2],by lia,o4.2],trivial]
  simp only[dz,hR];lia
 rw[if_neg X]
 by_cases J:w=2
 .rw[if_pos J]
  refine#[bg (by decide),bg (by decide),λl F=>ak (h [.again x first] l M3 #[v2,f,by simp only[cRs,cR];lia] ?_ ?_ (by simp) ((r.dr I).trans<|d2.trans<|R2.dr H) F)]
  .simp only[bi,fO,hV,LnR];exact#[#[#[B,p.1],trivial],#[by lia,p.2],trivial]
  .simp only[dz,hR];lia
 .rw[if_neg J]
  simp only[UA];refine aG R3.h (by lia) (by lia) λr4 M4 a4 b4 O=>?_
  have R4:=R3.go (R3.dr O);obtain⟨y,hy,ey⟩:=ka a4 b4;simp![ey];refine aG R4.h (by split<;>lia) (by split<;>lia) λr5 M5 a5 b5 d5=>?_
  have W:r5<m:=by split at b5<;>lia
  simp![];refine#[bg (by decide),bg (by decide),bg (by decide),bg (by decide),bg (by rw[cb];lia),bg (by decide),bg (by decide),λl F=>ak ?_]
  have:=h [.put x r5,.put y (m-1),.again x (first++[.two "sum" x x y])] l M5 #[v2,#[by rw[d5.2 rm r.n1 r.n2,O.2 rm r.n1 r.n2];exact f.1,f.2],by simp only[cRs,cR,eh];lia] ?_ ?_ (by simp) ((r.dr I).trans<|d2.trans<|(R2.dr H).trans<|(R3.dr O).trans<|R4.dr d5) F
  .simp only[aD,Rw.d,bZ]at this
   exact this
  .simp only[bi,fO,cP,OkRs_append,hV,LnR,LnRs_append]
   exact#[#[#[B,a5,W],#[hy,by lia,by lia],#[B,p.1,#[.inl trivial,B,B,hy],trivial],trivial],trivial,trivial,#[by simp;lia,p.2,trivial,trivial],trivial]
  .simp only[dz,hR,dY];lia
theorem SE:frz r.d M Q=Q r.d M:=by cases r<;>rfl
theorem AK{c:Int}(f:Y[2]?=ap (ap<|.ref rm))(e:M rm=ap (.lst [.int v]))(h:D0.nx Y (M.upd rm<|.lst [.int (v-c)])):
  ar (ai gu (ai aw (ac 2)<|dC<|.int 0)<|dC<|.int c) (cM (ac 2)<|dC<|.int 0) D0 Y M:=by
 simp![f,e,G6];exact h
theorem Q5(R:Y[0]?=ap (ap<|.ref k.p))(I:Y[2]?=ap (ap<|.ref rm))(J:Y[3]?=ap (ap<|.int deep))(h:Has k M)(O:M rm=ap (.lst [.int v]))(P:∀M',4<v->deep<4->Dr k M M'->A D0 Y M')(F:∀M',Dr k M M'->B D0 Y M'):
  aC (va (ao<|ai Ef (ai aw (ac 2)<|dC<|.int 0)<|dC<|.int 4)<|va (ao<|ai EW (ac 3)<|dC<|.int 4)<|ao<|ai bX (aq<|aj (aY ad) EE 2<|aa (ac 0)<|aa (dC<|.int 4) ag)<|dC<|.int 0) A B D0 Y M:=by
 simp![R,I,J,O,G6]
 by_cases e:4<v
 .rw[if_pos e]
  by_cases f:deep<4
  .rw[if_pos f]
   refine aG h (by decide) (by decide) λw M2 U S H=>?_
   simp![]
   by_cases G:w=0
   .rw[if_pos G];exact P _ e f H
   rw[if_neg G];exact F _ H
  rw[if_neg f];exact F _ h.refl
 rw[if_neg e];exact F _ h.refl
theorem Ln(f:Y[2]?=ap (ap<|.ref rm))(e:M rm=ap (.lst [.int v]))(h:0<v->A D0 Y M)(p:D0.nx Y M):
  aC (ao<|ai Ef (ai aw (ac 2)<|dC<|.int 0)<|dC<|.int 0) A aB D0 Y M:=by
 simp![f,e,G6]
 simp_all
theorem J6(J:Y[0]?=ap (ap<|.ref k.p))(R:Y[1]?=ap (ap<|lG names m many))(I:Y[5]?=ap (ap<|.ref l))(O:Has k M)(P:ToldOk names m many)(n1:l≠k.p)(n2:l≠k.q)(F:M l=ap (.lst<|aD ab5))(S:ab5.length<=1000)(h:∀(r:Rw) M',cP names m many r->Dr k M M'->D0.nx Y (M'.upd l<|.lst (aD ab5++[r.d]))):
  b6 (jd "list" bv (ac 5)<|aa (aq<|aj (xi ad) EE 2<|aa (ac 0)<|aa (ac 1) ag) ag) D0 Y M:=by
 simp![J,R,I,F];refine am λQ' E' G _=>Gp O P λH M3 e B=>G _ _ ?_;have f:M3 l=ap (.lst<|aD ab5):=by rw[B.2 l n1 n2];exact F
 have sz:(aD ab5).length+1<=sizeLine:=by rw[cb];exact gn (by lia)
 rw[SE];simp![f];exact#[sz,(h _ M3 e B)]
theorem Jv(Z:PBl ad k rm names m many n)(X:Y[0]?=ap (ap<|.ref k.p))(h1:Y[1]?=ap (ap<|lG names m many))(S:Y[2]?=ap (ap<|.ref rm))(U:Y[3]?=ap (ap<|.int deep))(P:Y[5]?=ap (ap<|.ref l))(hd:deep<4)(hn:2*(4-deep)<=n)(R:Rm k rm M)(n1:l≠k.p)(n2:l≠k.q)(n3:l≠rm)(O:M l=ap (.lst<|aD ab5))(ha:ab5.length<=1000)(W:Rv rm M v)(h:∀(rs:List Rw)(e:eg)(M':Mem),(∃H,Rv rm M' H/\(cRs rs:Int)+H<=v+4)->bi names m many rs/\hV rs->dz rs+deep<=4->rs.length<=3->Kp k rm M M'->M' e=ay->D0.nx (Y.set 5<|some<|.ref e) (M'.upd e<|.lst (aD ab5++aD rs))):
  ar (ai aU (ac 5)<|aq<|aj (ZI ad n) EE 4<|aa (ac 0)<|aa (ac 1)<|aa (ac 2)<|aa (ac 3) ag) (af 5) D0 Y M:=by
 simp![X,h1,S,U,P];refine am λQ' E' I _=>Z _ M Q' E' hd hn R v W λbl l2 M3 J f hh len3 G F=>I _ _ ?_;simp![Mem.upd_del,au F,(G.2.2 l _ n1 n2 n3 O)];exact#[by rw[cb,cb];exact bg (by lia),λe B=>h bl e M3 J f hh len3 G B]
structure RInv(k:Pt)(rm:eg)(names:ab')(m many:Int)(M:Mem)(v:Int)(deep:Nat)(n j:Nat)(ab5:List Rw)(l:eg)(M':Mem):Prop where
 cv:∃v',Rv rm M' v'/\(cRs ab5:Int)+v'<=v
 hj:n+j<=30
 ha:ab5.length<=3*j
 ok:bi names m many ab5
 ln:hV ab5
 hh:dz ab5+deep<=4
 kp:Kp k rm M M'
 hm:M' l=ap (.lst<|aD ab5)
 n1:l≠k.p
 n2:l≠k.q
 n3:l≠rm
 h0:M l=ay
theorem RInv.len(I:RInv k rm names m many M v deep n j ab5 l M'):ab5.length<=100:=by
 have:=I.hj;have:=I.ha;lia
theorem oP(ht:ToldOk names m many)(ih:PBl ad k rm names m many n):PRo ad k rm names m many (n+1):=by
 intro deep most M Q E hd hn h0 h1 r v0 P h;simp![SB,zy,cJ];refine#[bg (by decide),λl O=>?_]
 have R1:=r.go (r.new O<|.lst []);refine aG R1.h h0 (by lia) λcnt M1 a1 b1 d1=>?_
 have J:=r.h.nep O;refine#[by lia,by lia,?_]
 refine cA (λxs Y M'=>∃(j:Nat)(ab5:List Rw)(l:eg)(c6:Option D),RInv k rm names m many M v0 deep xs.length j ab5 l M'/\Y=[ap (.ref k.p),ap _,ap (.ref rm),ap (.int deep),ap (.int most),ap (.ref l),c6]) (λ_ _ _ _=>aL) ?_ ?_ _ _ _ #[0,[],l,ay,#[#[v0,#[?_,P.2],by simp[cRs]],?_,by simp,by trivial,by trivial,by simp only[dz];lia,(r.new O _).trans (R1.dr d1),?_,J.1,J.2,?_,O],rfl]
 .rintro Y M' ⟨j,ab5,l,c6,I,rfl⟩
  simp![I.hm];exact ak (h ab5 M' I.cv #[I.ok,I.ln] I.hh I.len I.kp)
 .rintro x xs Y M' ⟨j,ab5,l,c6,I,rfl⟩ D' U _ _ _
  have R:=r.go I.kp;have hj:=I.hj;have ha:=I.ha;simp at hj;obtain⟨v,⟨hv,hv0⟩,hcv⟩:=I.cv;refine Q5 rfl rfl rfl R.h hv (λM2 h4 h5 G=>?_) λM2 G=>?_
  .have X:=I.kp.trans (R.dr G)
   have R2:=r.go X;refine cE (AK rfl (by rw[G.2 rm r.n1 r.n2];exact hv) ?_)
   have W:=R2.set (v-4);dsimp only;refine Jv (deep:=deep) (ab5:=ab5) ih rfl rfl rfl rfl rfl (by lia) (by lia) (R2.go W) I.n1 I.n2 I.n3 (by rw[ae I.n3,G.2 l I.n1 I.n2];exact I.hm) (by lia) (v:=v-4) #[Mem.upd_same,by lia] λbl l3 M3 c3 B hh3 len3 k3 F=>?_
   have f:=(X.trans W).trans k3;have R3:=r.go f;have H:=R3.h.nep F;have S:l3≠rm:=by
    obtain⟨u,eu⟩:=R3.v;exact λe=>by simp_all
   have hM3:M l3=none:=by
    cases e:M l3 with
    |none=>rfl
    |some o=>rw[f.2.2 l3 o H.1 H.2 S e]at F;cases F
   obtain⟨v3,Z,c3⟩:=c3;exact U _ _ #[j+1,ab5++bl,l3,_,#[#[v3,#[by rw[ae (Vb S)];exact Z.1,Z.2],by rw[eh];lia],by lia,by rw[UU];lia,OkRs_append.mpr #[I.ok,B.1],LnRs_append.mpr #[I.ln,B.2],by rw[dY];exact UL (Zl (Nat.add_max_add_right ..).symm) (Nat.max_le.mpr #[I.hh,hh3]),f.trans (R3.new F _),by rw[Mem.upd_same,bZ],H.1,H.2,S,hM3],rfl]
  have X:=I.kp.trans (R.dr G);have R2:=r.go X;have hm2:M2 l=ap (.lst<|aD ab5):=by rw[G.2 l I.n1 I.n2];exact I.hm
  refine Ln rfl (by rw[G.2 rm r.n1 r.n2];exact hv) (λhz=>?_) ?_
  .refine cE (AK rfl (by rw[G.2 rm r.n1 r.n2];exact hv) ?_)
   have W:=R2.set (v-1);dsimp only;refine J6 (ab5:=ab5) rfl rfl rfl W.1 ht I.n1 I.n2 (by rw[ae I.n3];exact hm2) (by lia) λrw1 M3 B d3=>?_
   have f:=(X.trans W).trans ((R2.go W).dr d3);refine U _ _ #[j+1,ab5++[rw1],l,_,#[#[v-1,#[by rw[ae (Vb I.n3),d3.2 rm r.n1 r.n2,Mem.upd_same],by lia],by rw[eh];simp only[cRs,U5 B];lia],by lia,by rw[UU,Wi];lia,OkRs_append.mpr #[I.ok,by simp only[bi];exact#[P6 B,trivial]],LnRs_append.mpr #[I.ln,by simp only[hV];exact#[QE B,trivial]],by rw[dY];simp only[dz,TD B,Nat.max_zero,Nat.max_self];exact I.hh,?_,by rw[Mem.upd_same,bZ];rfl,I.n1,I.n2,I.n3,I.h0],rfl]
   refine#[f.1.upd #[I.n1,I.n2],?_,λb o h1 h2 h3 e=>?_]
   .obtain⟨u,eu⟩:=f.2.1
    exact#[u,by rw[ae (Vb I.n3)];exact eu]
   .rw[ae (Mem.ne e I.h0)];exact f.2.2 b o h1 h2 h3 e
  .exact U _ _ #[j,ab5,l,_,#[#[v,#[by rw[G.2 rm r.n1 r.n2];exact hv,hv0],hcv],by lia,ha,I.ok,I.ln,I.hh,X,hm2,I.n1,I.n2,I.n3,I.h0],rfl]
 .rw[d1.2 rm r.n1 r.n2,ae (λz=>by rw[<- z,P.1]at O;cases O)];exact P.1
 .simp[dD];lia
 .rw[d1.2 l J.1 J.2,Mem.upd_same];rfl
 obtain⟨v,e⟩:=r.v;exact λe'=>by rw[e',e]at O;cases O
theorem lA(f:ToldOk names m many):∀n:Nat,PRo ad k rm names m many n/\PBl ad k rm names m many n
 |0=>#[λe p M Q E _ h=>by lia,λe M Q E _ h=>by lia]
 |n+1=>#[oP f (lA f n).2,yt f (lA f n).1]
def Kq(k:Pt)(M M':Mem):Prop:=Has k M'/\∀b o,b≠k.p->b≠k.q->M b=ap o->M' b=ap o
theorem Kq.trans{M1 M2:Mem}(a:Kq k M M1)(b:Kq k M1 M2):Kq k M M2:=#[b.1,λx o f e h=>b.2 x o f e (a.2 x o f e h)]
theorem Dr.kq(d:Dr k M M'):Kq k M M':=#[d.1,λb o f h e=>by rw[d.2 b f h];exact e]
structure PlG(m many:Int)(names:ab')(rows:List Rw)(mk:Str):Prop where
 t:ToldOk names m many
 nd:names.Nodup
 ok:bi names m many rows
 h:dz rows<=4
 cn:cRs rows<=60
 l:rows.length<=100
 ln:hV rows
 mkm:mk∈names
 one:∀x∈names,wS x
def ki(m many:Int)(names:ab')(rows:List Rw)(mk:Str):D:=.tup [.int m,.tup (names.map D.str),.int many,.tup (aD rows),.str mk]
theorem E8(v0:0<=v)(v60:v<=60)(hp:Has k M)(h:∀(m many:Int)(names:ab')(rows:List Rw)(mk:Str)(M':Mem),PlG m many names rows mk->(cRs rows:Int)<=v->Kq k M M'->Q (ki m many names rows mk) M'):Cc ad [.ref k.p,.int v] M Q E:=by
 simp![U1,AX];refine aG hp (by decide) (by decide) λx1 M1 a1 b1 d1=>?_
 simp![];refine aG d1.1 (by decide) (by decide) λx2 M2 a2 b2 d2=>?_
 simp![];refine#[bg (by decide),λp f=>?_]
 rw[Mem.upd_del,au f];refine aG d2.1 (by decide) (by decide) λR M3 a3 b3 d3=>?_
 obtain⟨m,em,m2,m1⟩:∃m:Int,fm [D.int 2,.int 3,.int (2+x1),.int (2+x2)] R=ap (.int m)/\2<=m/\m<=997:=by
  have:R=0\/R=1\/R=2\/R=3:=by lia
  rcases this with rfl|rfl|rfl|rfl
  .exact#[2,by simp,by lia,by lia]
  .exact#[3,by simp,by lia,by lia]
  .exact#[2+x1,by simp,by lia,by lia]
  .exact#[2+x2,by simp,by lia,by lia]
 simp![em];refine#[bg (by decide),λp f=>?_]
 rw[Mem.upd_del,au f];refine aG d3.1 (by decide) (by decide) λU M4 a4 b4 d4=>?_
 obtain⟨w,ew,w2,w1⟩:∃m:Int,fm [D.int 3,.int 5,.int 12] U=ap (.int m)/\0<m/\m<=12:=by
  have:U=0\/U=1\/U=2:=by lia
  rcases this with rfl|rfl|rfl
  .exact#[3,by simp,by lia,by lia]
  .exact#[5,by simp,by lia,by lia]
  .exact#[12,by simp,by lia,by lia]
 simp![ew];refine aG d4.1 w2 (by lia) λx5 M5 a5 b5 d5=>?_
 simp![];obtain⟨nn,hnn⟩:∃nn:Nat,(1:Int)+x5=nn:=#[(1+x5).toNat,by lia]
 rw[hnn];refine am λQ' E' hq _=>yi d5.1 (by lia) λnames M6 n6 nd6 X d6=>hq _ _ ?_
 simp![];refine aG d6.1 (by decide) (by decide) λx7 M7 a7 b7 d7=>?_
 simp![];refine aG d7.1 (by decide) (by decide) λx8 M8 a8 b8 d8=>?_
 simp![];refine#[bg (by decide),λp f=>?_]
 rw[Mem.upd_del,au f];refine aG d8.1 (by decide) (by decide) λW M9 a9 b9 d9=>?_
 obtain⟨many,ek,k0,k1⟩:∃m:Int,fm [D.int 0,.int (1+x7),.int x8] W=ap (.int m)/\0<=m/\m<=40:=by
  have:W=0\/W=1\/W=2:=by lia
  rcases this with rfl|rfl|rfl
  .exact#[0,by simp,by lia,by lia]
  .exact#[1+x7,by simp,by lia,by lia]
  .exact#[x8,by simp,by lia,by lia]
 simp![ek];refine#[bg (by decide),bg (by decide),λrm S=>#[bg (by decide),λp f=>?_]]
 rw[Mem.upd_del,au f];have D9:=d1.trans (d2.trans<|d3.trans<|d4.trans<|d5.trans<|d6.trans<|d7.trans<|d8.trans d9);have B:=d9.1.nep S;have R9:Rm k rm (M9.upd rm<|.lst [.int v]):=#[d9.1.upd B,B.1,B.2,v,Mem.upd_same];refine aG R9.h (by decide) (by decide) λF M10 a10 b10 H=>?_
 have R10:=R9.go (R9.dr H);obtain⟨P,eo,o0,o1⟩:∃m:Int,fm [D.int 6,.int 12,.int 30] F=ap (.int m)/\0<m/\m<=30:=by
  have:F=0\/F=1\/F=2:=by lia
  rcases this with rfl|rfl|rfl
  .exact#[6,by simp,by lia,by lia]
  .exact#[12,by simp,by lia,by lia]
  .exact#[30,by simp,by lia,by lia]
 simp![eo];have ht:ToldOk names m many:=#[m2,m1,by lia,by lia,k0,k1]
 refine am λQ' E' hq _=>(lA ht 24).1 0 P M10 Q' E' (by decide) (by decide) o0 o1 R10 v #[by rw[H.2 rm B.1 B.2,Mem.upd_same],v0] λrows M11 J G h11 Z I=>hq _ _ ?_
 obtain⟨v11,O,J⟩:=J;have v110:=O.2;simp![UA];refine aG I.1 (by lia) (by lia) λx12 M12 a12 b12 d12=>?_
 obtain⟨mk,hmk,emk⟩:=ka a12 b12;simp![emk];refine#[bg (by decide),ak<|h m many names rows mk M12 #[ht,nd6,G.1,by lia,by lia,Z,G.2,hmk,X] (by lia) ?_]
 refine D9.kq.trans (Kq.trans ?_ d12.kq);refine#[I.1,λb o h1 h2 e=>?_];have hb:b≠rm:=Mem.ne e S;have:=(R9.dr H).2.2 b o h1 h2 hb (by rw[ae hb];exact e)
 exact I.2.2 b o h1 h2 hb this
theorem oh(U:Has k M)(pl:ToldOk names m many)(h:∀(nums e:ab_)(M':Mem),nums.length=names.length->(e.length:Int)=many->(∀v∈nums,0<=v/\v<m)->(∀v∈e,0<=v/\v<m)->Kq k M M'->Q (bJ nums e) M'):vk ad [.ref k.p,ki m many names rows mk] M Q E:=by
 have t1:=pl.m1;have t2:=pl.m2;have t3:=pl.n1;have t4:=pl.k0;have t5:=pl.k1;refine bV (λxs ab5 Y M'=>∃(nums:ab_)(B:Option D),xs.length+nums.length=names.length/\ab5=nums.map D.int/\Y=[B,ap (.ref k.p),ap (ki m many names rows mk)]/\Dr k M M'/\∀v∈nums,0<=v/\v<m) (λ_ _ _ _ _=>aL) ?_ ?_ ?_ _ _ _ _ #[[],ay,by simp,rfl,rfl,U.refl,by simp]
 .rintro ab5 Y M' ⟨nums,B,S,rfl,rfl,R,hv⟩
  intro p H;simp![Mem.upd_del,au H,atI_2];refine#[by lia,by lia,?_]
  refine bV (λxs ab5 Y M'=>∃(ps:ab_)(B:Option D),xs.length+ps.length=many.toNat/\ab5=ps.map D.int/\Y=[B,ap (.ref k.p),ap (ki m many names rows mk)]/\Dr k M M'/\∀v∈ps,0<=v/\v<m) (λ_ _ _ _ _=>aL) ?_ ?_ ?_ _ _ _ _ #[[],ay,by simp[dD],rfl,rfl,R,by simp]
  .rintro ab5 Y M' ⟨ps,B,F,rfl,rfl,G,f⟩
   intro p H;simp![Mem.upd_del,au H];refine#[bg (by decide),ak<|h nums ps M' (by simpa using S) (by simp at F;lia) hv f G.kq]
  .rintro x xs ab5 Y M' ⟨ps,B,F,rfl,rfl,G,f⟩ N P _
   simp![ki,atI_0];refine aG G.1 (by lia) (by lia) λr M3 O I J=>?_
   simp![];simp only[UO]at F;refine P _ _ _ (by simp;exact gn (by lia)) #[ps++[r],_,by simp;lia,by simp,rfl,G.trans J,λv hv=>?_]
   rcases Vg.mp hv with hv|hv
   .exact f v hv
   .simp at hv;subst hv;exact#[O,I]
  .rintro x xs ab5 Y M' ⟨ps,B,F,rfl,rfl,G,f⟩
   simp at F ⊢;exact gn (by lia)
 .rintro x xs ab5 Y M' ⟨ps,B,F,rfl,rfl,G,f⟩ N P _
  simp![ki,atI_0];refine aG G.1 (by lia) (by lia) λr M3 O I J=>?_
  simp![];simp only[UO]at F;refine P _ _ _ (by simp;exact gn (by lia)) #[ps++[r],_,by simp;lia,by simp,rfl,G.trans J,λv hv=>?_]
  rcases Vg.mp hv with hv|hv
  .exact f v hv
  .simp at hv;subst hv;exact#[O,I]
 .rintro x xs ab5 Y M' ⟨ps,B,F,rfl,rfl,G,f⟩
  simp at F ⊢;exact gn (by lia)
theorem da{b:BxC (af 0) tt te ok Q}{rest:Dl}{c:Option D}{xs:List D}(p:D->Bool)(f:D->D)(W:ok M)(U:xs.length<=100000)(S:∀x∈xs,∀K:Bool->Mem->Prop,K (p x) M->tt (ap x::rest) M K)(R:∀x∈xs,p x=true->∀K:DK,K (f x) M->te (ap x::rest) M K)(h:Q ((xs.filter p).map f) M):
  di (af 0) tt te ok Q b xs [] (c::rest) M:=by
 refine bV (λF ab5 Y N=>∃(us:List D)(B:Option D),xs=us++F/\ab5=(us.filter p).map f/\Y=B::rest/\M=N) (by lia) ?_ ?_ ?_ _ _ _ _ #[[],c,rfl,rfl,rfl,rfl]
 .rintro ab5 Y N ⟨us,B,e,rfl,rfl,rfl⟩
  simp_all
 .rintro y F ab5 Y N ⟨us,B,e,rfl,rfl,rfl⟩ N' J G
  have O:y∈xs:=by rw[e];simp
  have H:=congrArg V8 e;simp at H;have P:=Vn p us;refine S y O _ ?_;cases I:p y with
  |true=>
   exact R y O I _ (J _ _ _ (by rw[UA];exact gn (by lia)) #[us++[y],_,by simp[e],by simp[I],rfl,rfl])
  |false=>
   exact G _ _ _ #[us++[y],_,by simp[e],by simp[I],rfl,rfl]
 rintro y F ab5 Y N ⟨us,B,e,rfl,rfl,rfl⟩
 have H:=congrArg V8 e;simp at H;have P:=Vn p us;rw[UA];exact gn (by lia)
theorem gW{b:BxC (af 0) dL te ok Q}{rest:Dl}{c:Option D}{xs:List D}(f:D->D)(F:ok M)(B:xs.length<=100000)(p:∀x∈xs,∀K:DK,K (f x) M->te (ap x::rest) M K)(h:Q (xs.map f) M):di (af 0) dL te ok Q b xs [] (c::rest) M:=by
 refine da _ f F B (λx _ K q=>q) (λx e _=>p x e) ?_;rw[Zw.mpr λ_ _=>rfl];exact h
instance lawKey:LawfulBEq aI where
 eq_of_beq {a b} h:=by
  cases a<;>cases b
  .exact congrArg WH (eq_of_beq (α:=Int) h)
  .cases h
  .cases h
  .exact congrArg Vo (eq_of_beq (α:=Str) h)
 rfl {a}:=by
  cases a
  .exact beq_self_eq_true (α:=Int) _
  .exact beq_self_eq_true (α:=Str) _
noncomputable def kD:aI->D
 |.inl i=>.int i
 |.inr x=>.str x
theorem NX(a b:aI):aR (kD a) (kD b)=decide (a=b):=by
 cases a<;>cases b<;>simp[kD,aR]
theorem OY(n:Nat)(a:aI):br n (kD a)=true:=by cases a<;>cases n<;>rfl
theorem mz(n:Nat):∀ks:List aI,fits n (ks.map kD)=true
 |[]=>by rfl
 |k::ks=>by simp[fits,OY,mz n ks]
theorem zW:∀a b:List aI,eW (a.map kD) (b.map kD)=decide (a=b)
 |[],[]=>rfl
 |[],_::_=>rfl
 |_::_,[]=>rfl
 |a::as,b::bs=>by
  simp only[UG,eW,NX,zW as bs]
  simp_all
def mxD(ks:List aI):D:=.lst (ks.map kD)
structure Cse where
 w:Int
 many:Nat
 names:List Str
 rows:List Rw
 mn:Str
 most:Nat
structure Sta where
 nums:List Int
 pieces:List Int
def Sta.d(s:Sta):D:=bJ s.nums s.pieces
noncomputable def Cse.cf(C:Cse)(s:Sta):Cf:=#[C.w,s.pieces,C.most]
def Cse.d(C:Cse):D:=.tup [.int C.w,.tup (C.names.map D.str),.int (C.many:Nat),.tup (aD C.rows),.str C.mn]
structure Cse.Ok(C:Cse):Prop where
 m2:2<=C.w
 m1:C.w<=997
 few:C.many<=100
 most:C.most<=10000
 nd:C.names.Nodup
 l0:0<C.names.length
 l1:C.names.length<=100
 ok:bi C.names C.w C.many C.rows
 h:dz C.rows<=7
 mn:C.mn∈C.names
structure SOk(C:Cse)(s:Sta):Prop where
 ln:s.nums.length=C.names.length
 lp:s.pieces.length=C.many
 rn:∀v∈s.nums,0<=v/\v<C.w
 rp:∀v∈s.pieces,0<=v/\v<C.w
def wg(mk:Str)(r:Bool×Sx):D:=if r.1=true then .int (nm r.2.nums mk) else .non
def Cse.run(C:Cse)(s:Sta):Bool×Sx:=dH (C.cf s) C.names C.rows s.nums
def Cse.mark(C:Cse)(s:Sta):D:=wg C.mn (C.run s)
theorem Cse.Ok.pl(o:C.Ok)(k:SOk C s):PlOk (C.cf s) C.names C.rows s.nums:=
 #[#[o.m2,o.m1,k.rp,by show s.pieces.length<=1000;rw[k.lp];have:=o.few;lia,o.most],k.ln.symm,o.nd,o.l0,by have:=o.l1;lia,k.rn,by show bi _ _ s.pieces.length _;rw[k.lp];exact o.ok,o.h]
theorem SOk.pd(k:SOk C s):C.d=aX (C.cf s) C.names C.rows C.mn:=by unfold Cse.d aX Cse.cf;rw[k.lp]
theorem yV(C:Cse)(s:Sta):C.mark s=.non\/∃v,C.mark s=.int v:=by
 unfold Cse.mark wg
 split
 .exact .inr #[_,rfl]
 exact .inl rfl
theorem jE(h:Q (C.mark s) M):frz (C.mark s) M Q:=by rcases yV C s with e|⟨v,e⟩<;>rw[e]at h ⊢<;>exact h
theorem pR:∀{names:ab'},mk∈names->∃j,names.findIdx? (λy=>decide (y=mk))=ap j/\names[j]?=ap mk
 |[],h=>by simp at h
 |x::names,h=>by
  by_cases e:x=mk
  .subst e;exact#[0,by simp[ZE],rfl]
  have f:mk∈names:=by
   rcases UK.mp h with z|z
   .simp_all
   exact z
  obtain⟨j,p,B⟩:=pR f;exact#[j+1,by simp[ZE,e,p],by trivial]
theorem eD:∀names:List Str,li (names.map D.str)=ap names
 |[]=>rfl
 |x::names=>by rw[UG,li,eD _]
def Hj(names:ab')(r:Bool×Sx):D:=.tup [.lst (yJ r.2.steps),fC names r]
theorem Fs{b:BxQ EE λd M'=>xM d M' Q}(p:PlOk c names rows nums)(h:Q (Hj names<|dH c names rows nums) M):
  calls (wZ ad) EE [aX c names rows mk,bJ nums c.pieces,.int (c.most:Nat)] M (λd M'=>xM d M' Q) b:=by
 refine am λQ' E' B _=>HP p λl f=>B _ _ ?_;unfold Hj fC at h;unfold fC;cases e:(dH c _ _ _).1 with
 |true=>
  rw[e]at h;rw[if_pos rfl];simp![Mem.upd_del,au f];exact h
 |false=>
  rw[e]at h;rw[if_neg (by simp)]
  simp![Mem.upd_del,au f];exact h
theorem EK(p:PlOk c names rows nums)(G:mk∈names)(h:Q (wg mk<|dH c names rows nums) M):qV ad [aX c names rows mk,bJ nums c.pieces,.int (c.most:Nat)] M Q E:=by
 obtain⟨j,f,F⟩:=pR G;simp![Sv,Dh];refine Fs p ?_;simp![Hj];unfold wg at h;unfold fC;cases e:(dH c _ _ _).1 with
 |true=>
  rw[e]at h;simp![aX,atI_1,atI_4,eD,f];refine#[p.l1,?_];have B:fm (names.map λx=>D.int (nm (dH c names rows nums).2.nums x)) j=ap (.int<|nm (dH c names rows nums).2.nums mk):=by
   rw[bz (by lia),UW,UH,F];rfl
  simp![B];exact ak h
 |false=>
  rw[e]at h;exact ak h
theorem iw{b:BxQ EE Q}(o:C.Ok)(k:SOk C s)(h:Q (C.mark s) M):calls (qV ad) EE [C.d,s.d,.int (C.most:Nat)] M Q b:=by
 refine aH (λQ' E' q=>?_) h;rw[k.pd];exact EK (o.pl k) o.mn q
def aS(C:Cse)(s t:Sta):D:=.tup [C.d,s.d,t.d,.int (C.most:Nat)]
theorem JZ{C:Cse}{s t:Sta}:aS C s t=.tup [C.d,s.d,t.d,.int (C.most:Nat)]:=rfl
theorem Ca{C:Cse}:C.d=.tup [.int C.w,.tup (C.names.map D.str),.int (C.many:Nat),.tup (aD C.rows),.str C.mn]:=rfl
noncomputable def dw(C:Cse):List aI:=C.names.map Vo++(Vu C.many).map λ(i:Nat)=>WH (i:Int)
def aN(C:Cse)(s:Sta):aI->Int
 |.inl i=>(s.pieces[i.toNat]?).getD 0
 |.inr x=>nm (C.names.zip s.nums) x
theorem oj:∀{names:ab'}{nums:ab_}{j:Nat}{x:Str},names.Nodup->names.length=nums.length->names[j]?=ap x->nums[j]?=ap (nm (names.zip nums) x)
 |[],_,j,x,_,_,h=>by simp at h
 |y::names,[],j,x,_,h,_=>by simp at h
 |y::names,v::nums,0,x,nd,hl,h=>by
  simp at h;subst h;simp[nm,gN]
 |y::names,v::nums,j+1,x,nd,hl,h=>by
  simp at h ⊢;have f:=VQ.mp nd;have p:¬y=x:=λe=>f.1 (e▸VD h);rw[oj f.2 (by simp_all) h]
  simp[nm,gN,p]
theorem nM(h:k∈dw C):(∃x,x∈C.names/\k=.inr x)\/∃i:Nat,i<C.many/\k=.inl (i:Int):=by
 rcases Vg.mp h with q|q
 .obtain⟨x,f,rfl⟩:=UR.mp q
  exact .inl (by lia)
 obtain⟨i,e,rfl⟩:=UR.mp q;exact .inr #[i,by simp_all,rfl]
theorem dN(o:C.Ok)(k:SOk C s)(f:t∈dw C):0<=aN C s t/\aN C s t<C.w:=by
 rcases nM f with⟨x,e,rfl⟩|⟨i,hi,rfl⟩
 .exact((o.pl k).nok.at e).2
 exact((o.pl k).co.piece<|by show _<s.pieces.length;rw[k.lp];lia).2
theorem dX(o:C.Ok)(k:SOk C s)(F:t∈dw C)(h:Q (.int<|aN C s t) M):pH ad [C.d,s.d,kD t] M Q E:=by
 have l1:=o.l1;rcases nM F with⟨x,B,rfl⟩|⟨i,hi,rfl⟩
 .obtain⟨j,p,f⟩:=pR B
  have e:fm (s.nums.map D.int) j=ap (.int<|nm (C.names.zip s.nums) x):=by
   rw[bz (by lia),UW,UH,oj o.nd k.ln.symm f];rfl
  simp![MS,wf,kD,Cse.d,Sta.d,bJ,m5,atI_0,atI_1,eD,p,Xs,Yh,XH];refine#[by lia,?_]
  simp![e];exact ak h
 have e:fm (s.pieces.map D.int) i=ap (.int<|(s.pieces[(i:Int).toNat]?).getD 0):=by
  rw[bz (by lia),UH,UC (by rw[k.lp];exact hi)];rfl
 simp![MS,wf,kD,Sta.d,bJ,m5,atI_1,e,Xs,Yh,XH];exact ak h
def lM(k:Wk)(c:Cf)(s:Sx)(M:Mem):Mem:=
 ((M.upd k.a<|.lst [.ref k.dn,.tup (c.pieces.map D.int),.ref k.ls,.int (c.most:Nat),.int c.m]).upd k.dn<|.dK<|eE s.nums).upd k.ls (.lst<|yJ s.steps)
section
variable{s:Sx}
theorem pv:lM k c s M k.a=ap (.lst [.ref k.dn,.tup (c.pieces.map D.int),.ref k.ls,.int (c.most:Nat),.int c.m]):=by
 unfold lM;rw[ae k.h2,ae k.h1,Mem.upd_same]
theorem oB:lM k c s M k.dn=ap (.dK<|eE s.nums):=by unfold lM;rw[ae k.h3,Mem.upd_same]
theorem Nk:lM k c s M k.ls=ap (.lst<|yJ s.steps):=by unfold lM;simp_all
theorem IW{x:List (List Int×Int)}:(lM k c s M).upd k.ls (.lst<|yJ x)=lM k c #[s.nums,x] M:=by unfold lM;simp_all
theorem LV{x:cS}:(lM k c s M).upd k.dn (.dK<|eE x)=lM k c #[x,s.steps] M:=by
 unfold lM;rw[aA (Vb k.h3),Mem.upd_upd]
theorem sK{b:BxQ EE Q}(p:c.most<=10000)(e:s.steps.length<=c.most)(h:Q (.bl (nt c pl v s).1) (lM k c (nt c pl v s).2 M)):
  calls (lK ad) EE [.ref k.a,iZ pl,.int v] (lM k c s M) Q b:=
 am λ_ _ f _=>(λf e h=>by
    unfold nt at h;simp![Tp,Bb,pv,Nk,atI_2,atI_3,yJ,UA]
    by_cases q:s.steps.length<c.most
    .rw[if_pos q]at h
     rw[if_neg (by lia)]
     refine#[by trivial,gn (by lia),ak ?_]
     rw[<- IW]at h;simpa [yJ] using h
    rw[if_neg q]at h;rw[if_pos (by lia)]
    exact ak h) p e (f _ _ h)
theorem vi(f:COk c){i:Int}(e:0<=i)(h:i<c.pieces.length):fm (c.pieces.map D.int) i=ap (.int<|(c.pieces[i.toNat]?).getD 0):=by
 rw[bz e,UH,UC (by lia)];rfl
theorem uh(B:COk c)(p:NOk names c.m s.nums)(f:cP names c.m c.pieces.length r)(h:Q (.int<|num c s.nums r) (lM k c s M)):
  vh ad [.ref k.a,r.d] (lM k c s M) Q E:=by
 have m2:=B.m2;have m1:=B.m1;cases r with
 |put x kk=>
  simp![BN,pS,Rw.d,↓EF,pv,oB,atI_0,atI_2,atI_3,Yg];exact ak h
 |take x i=>
  simp![BN,pS,Rw.d,↓EF,pv,oB,atI_0,atI_2,atI_3,Yg,vi B f.2.1 f.2.2];exact ak h
 |pick x y=>
  have G:=(p.at f.2.1).1;have H:=f.2.2;have S:=VL (nm s.nums y) (show (c.pieces.length:Int)≠0 by lia)
  have W:=VM (nm s.nums y) H;simp![BN,pS,Rw.d,↓EF,pv,oB,atI_0,atI_2,atI_3,Yg,ck,G,VI,UA,vi B S W];exact#[H,ak h]
 |two w x y z=>
  obtain⟨R,hx,J,X⟩:=f;have G:=(p.at J).1;have U:=(p.at X).1;have Z:=(p.at J).2;have F:(w="put")=False/\(w="take")=False/\(w="pick")=False:=by
   rcases R with rfl|rfl|rfl|rfl
   .exact#[(eq_false<|by decide +kernel),(eq_false<|by decide +kernel),(eq_false<|by decide +kernel)]
   .exact#[(eq_false<|by decide +kernel),(eq_false<|by decide +kernel),(eq_false<|by decide +kernel)]
   .exact#[(eq_false<|by decide +kernel),(eq_false<|by decide +kernel),(eq_false<|by decide +kernel)]
   .exact#[(eq_false<|by decide +kernel),(eq_false<|by decide +kernel),(eq_false<|by decide +kernel)]
  simp![BN,pS,Rw.d,↓EF,pv,oB,atI_0,atI_2,atI_3,ck,G,U,VI,F.1,F.2.1,F.2.2];have e:Q (.int<|EZ w (nm s.nums y) (nm s.nums z) c.m) (lM k c s M):=h;unfold EZ at e
  by_cases P:w="sum"
  .rw[if_pos P]at e ⊢;exact#[by lia,ak e]
  .rw[if_neg P]at e ⊢
   by_cases O:w="by"
   .rw[if_pos O]at e ⊢;exact#[(.inl #[by lia,by lia]),by lia,ak e]
   .rw[if_neg O]at e ⊢
    by_cases I:w="less"
    .rw[if_pos I]at e ⊢
     split<;>rename_i q
     .rw[if_pos q]at e;exact ak e
     .rw[if_neg q]at e;exact ak e
    .rw[if_neg I]at e ⊢
     split<;>rename_i q
     .rw[if_pos q]at e;exact ak e
     .rw[if_neg q]at e;exact ak e
 |ifr=>exact f.elim
 |again=>exact f.elim
theorem tQ{b:BxQ EE Q}(e:d=r.d)(F:COk c)(B:NOk names c.m s.nums)(p:cP names c.m c.pieces.length r)(h:Q (.int<|num c s.nums r) (lM k c s M)):
  calls (vh ad) EE [.ref k.a,d] (lM k c s M) Q b:=
 e▸am λ_ _ f _=>uh F B p (f _ _ h)
end
section
variable{k:Wk}
def oa(ad:Ad)(k:Wk)(c:Cf)(names:ab')(n:Nat):Prop:=∀(rs:List Rw)(pl:ab_)(s:Sx)(M:Mem)(Q:DK)(E:DX),bi names c.m c.pieces.length rs->2*dz rs+1<=n->pl.length+2*dz rs+2<=1000->NOk names c.m s.nums->s.steps.length<=c.most->
 Q (.bl (cc c rs pl 0 s).1) (lM k c (cc c rs pl 0 s).2 M)->ZG ad n [.ref k.a,.tup (aD rs),iZ pl] (lM k c s M) Q E
def Ob(ad:Ad)(k:Wk)(c:Cf)(names:ab')(n:Nat):Prop:=∀(x:Str)(a:List Rw)(pl:ab_)(s:Sx)(M:Mem)(Q:DK)(E:DX),fO names c.m c.pieces.length (.again x a)->2*hR (.again x a)<=n->pl.length+2*hR (.again x a)+1<=1000->NOk names c.m s.nums->s.steps.length<=c.most->
 Q (.bl (jp c (.again x a) pl s).1) (lM k c (jp c (.again x a) pl s).2 M)->ZK ad n [.ref k.a,(Rw.again x a).d,iZ pl] (lM k c s M) Q E
theorem Lo{s:Sx}:ma c r pl s=if (nt c pl (num c s.nums r) s).1=true then (true,#[sN s.nums (jq r) (num c s.nums r),(nt c pl (num c s.nums r) s).2.steps]) else nt c pl (num c s.nums r) s:=by
 unfold ma nt;lia
theorem O8{s:Sx}(f:NOk names c.m s.nums)(e:cP names c.m c.pieces.length r):jq r∈s.nums.map (·.1):=by
 rw[f.keys];cases r with
 |two w x y z=>exact e.2.1
 |ifr=>exact e.elim
 |again=>exact e.elim
 |_=>exact e.1
theorem xR{s:Sx}(G:COk c)(e:s.steps.length<=c.most)(B:Y[0]?=ap (ap<|.ref k.a))(F:∀N K,K (iZ pl) N->f Y N K)(p:∀N K,K (.int v) N->h Y N K)(q:K (!(nt c pl v s).1) (lM k c (nt c pl v s).2 M)):gs (cz<|aq<|aj (lK ad) EE 3<|aa (ac 0)<|aa f<|aa h ag) Y (lM k c s M) K:=by
 simp_arith! only[gs,cz,aq,aj,aa,ac,B]
 exact F _ _ (p _ _ #[rfl,sK G.most e q])
theorem Iq{rest:List D}{w:D}{s:Sx}(e:gN s.nums x=ap (nm s.nums x))(f:Y[0]?=ap (ap<|.ref k.a))(h:Y[i]?=ap (ap<|.tup (w::.str x::rest)))(q:K (.int<|lk s.nums x) (lM k c s M)):
  qz (ao<|ai bX (ai aw (ai aw (ac 0)<|dC<|.int 0)<|ai aw (ac i)<|dC<|.int 1)<|dC<|.int 0) (dC<|.int 0) (dC<|.int 1) Y (lM k c s M) K:=by
 simp![f,h,pv,oB,atI_0,atI_1,ck,e,VI];unfold lk at q;lia
theorem sR(p:pl.length<=1000)(h:Y[i]?=ap (ap<|iZ pl))(f:Y[j]?=ap (ap<|.int v))(q:K (iZ (pl++[v])) M):ai aU (ac i) (aQ<|aa (ac j) ag) Y M K:=by
 simp_arith! only[ai,ac,aQ,aa,h,f,iZ,aU,UA,UO,V0]
 refine#[by trivial,bg (by lia),?_]
 have e:pl.map D.int++[.int v]=(pl++[v]).map D.int:=by simp
 rw[e];exact q
theorem GW{s:Sx}(I:oa ad k c names n)(G:Y[0]?=ap (ap<|.ref k.a))(F:∀N K,K (.tup<|aD rs) N->tr Y N K)(H:∀N K,K (iZ pl) N->p Y N K)(ok:bi names c.m c.pieces.length rs)(J:2*dz rs+1<=n)(f:pl.length+2*dz rs+2<=1000)(h:NOk names c.m s.nums)(e:s.steps.length<=c.most)(q:K (!(cc c rs pl 0 s).1) (lM k c (cc c rs pl 0 s).2 M)):
  gs (cz<|aq<|aj (ZG ad n) EE 3<|aa (ac 0)<|aa tr<|aa p ag) Y (lM k c s M) K:=by
 simp_arith! only[gs,cz,aq,aj,aa,ac,G]
 refine F _ _ (H _ _ #[rfl,am λQ' E' B _=>I rs pl _ M Q' E' ok J f h e (B _ _ q)])
theorem Ju(h:fO names m many r)(e:bw r=true):cP names m many r:=by
 cases r<;>first|assumption|cases e
theorem w_:lk n x=0\/lk n x=1:=by unfold lk;split<;>simp
theorem lI{EE:DX}{S0:Sd}{n:Nat}{x:Str}{a:List Rw}{pl:ab_}{M:Mem}{Q:DK}{D':DEnds}{ok:Mem->Prop}{bx:BxF (af 3) (mZ ad S0 (ZG ad n) EE) D' ok}(S:COk c)(U:oa ad k c names n)(W:x∈names)(F:bi names c.m c.pieces.length a)(X:2*dz a+1<=n)(P:pl.length+2*dz a+3<=1000)
  (O:∀M,ok M) (e:D'.rt=_3.drp Q) (H:∀Y M',_3.drp Q (.bl eC) M'->D'.nx Y M'):∀(f t:Nat)(s:Sx)(J R:Option D),NOk names c.m s.nums->s.steps.length<=c.most->
  Q (.bl (fD c x pl (λt s=>cc c a (pl++[(t:Int)]) 0 s) f t s).1) (lM k c (fD c x pl (λt s=>cc c a (pl++[(t:Int)]) 0 s) f t s).2 M)->
  eV (af 3) (mZ ad S0 (ZG ad n) EE) D' ok bx ((XW t f).map λ(i:Nat)=>D.int (i:Int)) [ap (.ref k.a),ap (.tup [.str "again",.str x,.tup (aD a)]),ap (iZ pl),J,R] (lM k c s M)
 |0,t,s,J,R,hno,hst,h=>#[O _,H _ _<|ak h]
 |f+1,t,s,J,R,hno,hst,h=>by
  refine#[O _,?_];unfold fD at h;have p:=(nt_gr (pl:=pl++[(t:Int)]) (v:=lk s.nums x)).2 hst;have B:NOk names c.m (nt c (pl++[(t:Int)]) (lk s.nums x) s).2.nums:=by rw[g6];exact hno
  refine Iq (hno.at W).1 rfl rfl ?_;simp[af];unfold uA ah aC;refine xR S hst rfl (λN K=>sR (by lia) rfl rfl) (λN K q=>q) ?_
  cases I:(nt c _ _ s).1 with
  |false=>
   rw[if_neg (by rw[I];simp),I]at h
   simp[e];exact ak h
  |true=>
   rw[if_pos I]at h;simp[aB];have Z:∀K:Bool->Mem->Prop,K (decide _) (lM k c (nt c (pl++[(t:Int)]) (lk s.nums x) s).2 M)->ao (ai bX (ac 4)<|dC<|.int 0) [ap (.ref k.a),ap (.tup [.str "again",.str x,.tup (aD a)]),ap (iZ pl),ap (.int t),ap (.int<|lk s.nums x)] _ K:=λK q=>by
    trivial
   refine Z _ ?_;rcases w_ with hl|hl
   .rw[hl,if_neg (by decide),<- hl,I]at h
    simp[hl,e];rw[<- hl];exact ak h
   rw[hl,if_pos rfl,<- hl]at h;have n1:decide (lk s.nums x=0)=false:=by rw[hl];rfl
   simp[n1,aB];unfold uz aC;refine GW U rfl (λN K q=>?_) (λN K=>sR (by lia) rfl rfl) F X (by simp;lia) B p ?_
   .exact q
   cases G:(cc c a _ 0 _).1 with
   |false=>
    rw[if_neg (by simp_all),G]at h
    simp[e];exact ak h
   |true=>
    rw[if_pos G]at h;exact lI S U W F X P O e H f _ _ _ _ (dB S a F _ _ _ B) ((gb a _ 0 _).2 p) h
theorem o6{rest:List D}(f:Y[4]?=ap (ap<|.tup (.str w::rest)))(q:K (decide (w=e)) M):ao (ai bX (ai aw (ac 4)<|dC<|.int 0)<|dC<|.str e) Y M K:=by
 simp_arith! only[ao,ai,ac,f]
 trivial
def RGo(D':DEnds)(k:Wk)(c:Cf)(M:Mem)(d1 d2:Option D)(r:Bool×Sx):Prop:=(r.1=true->∀c3 c4 c5 c6 c7 c8,D'.nx [ap (.ref k.a),d1,d2,c3,c4,c5,c6,c7,c8] (lM k c r.2 M))/\(r.1=eC->D'.rt (.bl eC) (lM k c r.2 M))
section
variable{s:Sx}
theorem Iw(F:COk c)(e:NOk names c.m s.nums)(B:s.steps.length<=c.most)(H:names.length<=1000)(p:cP names c.m c.pieces.length r)(g:RGo D' k c M d1 d2 (ma c r pl s)):mI ad S0 S1 EE D' [ap (.ref k.a),d1,d2,d3,ap r.d,ap (iZ pl),d6,d7,d8] (lM k c s M):=by
 obtain⟨w,rest,G,_,_⟩:=kQ p;rw[Lo]at g;unfold mI;generalize f:nr ad S0 S1 EE=K6;refine#[rfl,tQ rfl F e p ?_];show af 8 _ _ _ _;simp[af];rw[<- f];unfold nr ah aC;refine xR F B rfl (λ_ _ q=>q) (λ_ _ q=>q) ?_;cases h:(nt c pl _ s).1 with
 |false=>
  rw[if_neg (by rw[h];simp)]at g
  exact g.2 h
 |true=>
  rw[if_pos h]at g;rw[G];simp![pv,oB,atI_0,atI_1,g6];refine#[(by rw[eE,UA,<- UA,e.keys];exact gn (by lia)),?_]
  rw[nN (O8 e p),(LV (k:=k) (c:=c) (s:=(nt c pl (num c s.nums r) s).2) (M:=M) (x:=sN s.nums (jq r) (num c s.nums r)))];exact g.1 rfl _ _ _ _ _ _
theorem Ls{a b:List Rw}(R:COk c)(h:NOk names c.m s.nums)(f:s.steps.length<=c.most)(P:oa ad k c names n)(ok:fO names c.m c.pieces.length (.ifr x a b))(B:2*dz a+1<=n/\2*dz b+1<=n/\pl.length+2*dz a+3<=1000/\pl.length+2*dz b+3<=1000)(g:RGo D' k c M d1 d2 (jp c (.ifr x a b) pl s)):
  s_ ad S0 (ZG ad n) EE D' [ap (.ref k.a),d1,d2,d3,ap (.tup [.str "if",.str x,.tup (aD a),.tup (aD b)]),ap (iZ pl),d6,d7,d8] (lM k c s M):=by
 refine Iq (h.at ok.1).1 rfl rfl ?_;obtain⟨rs,F,I,H,O,S⟩:∃rs,fm [D.tup (aD b),.tup (aD a)] (lk s.nums x)=ap (.tup _)/\(jp c (.ifr x a b) pl s=if (nt c pl (lk s.nums x) s).1=true then cc c rs (pl++[lk s.nums x]) 0 (nt c pl (lk s.nums x) s).2 else nt c pl (lk s.nums x) s)/\bi _ _ _ rs/\2*dz rs+1<=n/\pl.length+2*dz rs+3<=1000:=by
  unfold jp;rcases w_ with hl|hl<;>rw[hl]
  .exact#[b,rfl,rfl,ok.2.2,B.2.1,B.2.2.2]
  exact#[a,rfl,rfl,ok.2.1,B.1,B.2.2.1]
 rw[I]at g;unfold ud
 simp_arith! only[af,UN,ah,ar,ai,ac,dt,Uz,aw,aO]
 refine#[bg (by simp),λp J=>?_]
 simp_arith! only[frz,Mem.upd_same,Mem.upd_del,au J,F,af]
 unfold tL aC yQ;refine xR R f rfl (λ_ _ q=>q) (λ_ _ q=>q) ?_;cases G:(nt c pl _ s).1 with
 |false=>
  rw[if_neg (by rw[G];simp)]at g
  exact g.2 G
 |true=>
  rw[if_pos G]at g;simp;refine GW P rfl (λN K q=>q) (λN K=>sR (by lia) rfl rfl) H O (by simp;lia) (by rw[g6];exact h) (nt_gr.2 f) ?_
  cases e:(cc c rs _ 0 _).1 with
  |false=>
   exact g.2 e
  |true=>
   exact g.1 e _ _ _ _ _ _
end
theorem E1(hnl:names.length<=1000)(hc:COk c)(ihd:oa ad k c names n)(ihr:Ob ad k c names n):oa ad k c names (n+1):=by
 intro rs pl s M Q E f hn I p B h;rw[Uq];unfold zo
 simp_arith! only[ah,cJ,jy,aa,ac,dt,Uz,aO,fV]
 refine cA (λxs Y M'=>∃(e:List Rw)(j:Nat)(G:Sx)(R X S O J P:Option D),xs=fH j (aD e)/\Y=[ap _,ap _,ap _,R,X,S,O,J,P]/\M'=lM k c G M/\bi _ _ _ e/\2*dz e+1<=n+1/\pl.length+2*dz e+2<=1000/\NOk _ _ G.nums/\G.steps.length<=c.most/\
  Q (.bl (cc c e pl j G).1) (lM k c (cc c e pl j G).2 M)) (λ_ _ _ _=>aL) ?_ ?_ _ _ _ #[rs,0,s,_,_,_,_,_,_,rfl,rfl,rfl,f,hn,I,p,B,h]
 .rintro Y M' ⟨e,j,G,R,X,S,O,J,P,Z,rfl,rfl,f,hn,I,p,B,h⟩
  cases e with
  |nil=>
   exact ak h
  |cons r rs=>trivial
 rintro x xs Y M' ⟨e,j,G,R,X,S,O,J,P,Z,rfl,rfl,f,hn,I,p,B,h⟩ D' W _ hrt _
 cases e with
 |nil=>simp[aD,fH]at Z
 |cons r e=>
  simp only[aD,fH,VY]at Z;obtain⟨rfl,rfl⟩:=Z;simp only[bi]at f;have h1:hR r<=dz (r::e)/\dz e<=dz (r::e):=by simp only[dz];lia
  simp only[cc]at h;have g:RGo D' k c M (ap<|.tup<|aD rs) (ap<|iZ pl) (jp c r (pl++[(j:Int)]) G):=#[λH R X S O J P=>by
   rw[if_pos H]at h;exact W _ _ #[e,j+1,_,R,X,S,O,J,P,rfl,rfl,rfl,f.2,by lia,by lia,tK hc r f.1 _ _ p,(uU r _ _).2 B,h],λH=>by
   rw[if_neg (by rw[H];simp),H]at h
   rw[show D'.rt=_3.drp Q from hrt];exact ak h]
  clear W h
  simp_arith! only[dE,aP,dh,af,UN]
  refine#[rfl,?_];unfold p_ ah ar;refine sR (by lia) rfl rfl ?_
  simp only[af,UN];unfold tI aC
  by_cases F:bw r=true
  .have U:=Ju f.1 F
   rw[cK F]at g;have ds:=Iw (ad:=ad) (S0:=ZK ad n) (S1:=ZG ad n) (EE:=aF E) (d3:=ap (.int (j:Int))) (d6:=O) (d7:=J) (d8:=P) hc p B hnl U g;obtain⟨w,rest,er,hw1,hw2⟩:=kQ U;rw[er]at ds ⊢;have n1:decide (w=("again":Str))=false:=decide_eq_false λz=>by rw[hw1]at z;exact z
   have n2:decide (w=("if":Str))=false:=decide_eq_false λz=>by rw[hw2]at z;exact z
   refine o6 rfl ?_;simp only[n1,Vj,if_false];unfold nF aC;refine o6 rfl ?_;simp only[n2,Vj,if_false];exact ds
  cases r with
  |again x a=>
   simp only[Rw.d];refine o6 rfl ?_;simp only[decide_true,if_true];unfold sU aC
   simp_arith! only[gs,cz,aq,aj,aa,ag,ac,dt,Uz]
   refine#[rfl,am λQ' E' hq _=>ihr x a (pl++[(j:Int)]) G M Q' E' f.1 (by lia) (by simp;lia) p B (hq _ _ ?_)]
   cases H:(jp c (.again x a) (pl++[(j:Int)]) G).1 with
   |true=>
    simp_arith! only[frz,EY,WZ,Vj,if_false,aB]
    exact g.1 H _ _ _ _ _ _
   |false=>
    simp_arith! only[frz,EY,XY,if_true,az,dC]
    exact g.2 H
  |ifr x a b=>
   simp only[hR]at h1;simp only[Rw.d];have n1:decide (("if":Str)=("again":Str))=false:=by decide +kernel
   refine o6 rfl ?_;simp only[n1,Vj,if_false];unfold nF aC;refine o6 rfl ?_;simp only[decide_true,if_true];exact Ls hc p B ihd f.1 #[by lia,by lia,by simp;lia,by simp;lia] g
  |_=>exact absurd rfl F
theorem vX(e:names.length<=1000)(f:COk c):∀n:Nat,oa ad k c names n/\Ob ad k c names n
 |0=>#[λrs pl s M Q E _ h=>by lia,λx a pl s M Q E _ h=>by simp[hR]at h;lia]
 |n+1=>by
  obtain⟨p,B⟩:=vX e f n;exact#[E1 e f p B,(λG J=>by
     intro x a pl s M Q E f H B F p h;simp only[hR]at H B;have I:=G.most;rw[Uo];unfold zX
     simp_arith! only[ah,cJ,fW,aa,ai,ac,dC,dt,aw,aO,pv]
     refine#[by lia,by lia,?_]
     have e:dD 0 ((c.most:Int)+1).toNat=(XW 0 (c.most+1)).map λ(i:Nat)=>D.int i:=by
      unfold dD;rw[XU]
      simp_all
     rw[e];exact lI G J f.1 f.2 (by lia) (by lia) (λ_=>aL) rfl (λ_ _ z=>z) _ 0 s _ _ F p h) f p]
end
theorem QP{s:Sx}(p:M k.a=ay)(h:M k.dn=ay):∀b o,(M.upd k.ls<|.lst<|yJ s.steps) b=ap o->lM k c s M b=ap o:=by
 intro b o e
 by_cases f:b=k.ls
 .subst f;rw[Mem.upd_same]at e;rw[Nk];exact e
 rw[ae f]at e;unfold lM;rw[ae f,ae (Mem.ne e h),ae (Mem.ne e p)];exact e
theorem wE(p:PlOk c names rows nums)(h:∀l,M l=ay->Q (.tup [.ref l,fC names (dH c names rows nums)]) (M.upd l<|.lst<|yJ (dH c names rows nums).2.steps)):
  qW ad [aX c names rows mk,bJ nums c.pieces,.int (c.most:Nat)] M Q E:=by
 have hl1:=p.l1;simp![T3,AD,aX,bJ,atI_0,atI_1,atI_3,eK,UA];refine#[p.ln,p.l0,p.l1,λdn Z=>?_];simp![gO p.ln p.nd];refine#[bg (by decide),λls e=>#[bg (by decide),λa F=>#[bg (by decide),?_]]]
 have W:dn≠ls:=by rintro rfl;rw[Mem.upd_same]at e;cases e
 have P:M ls=none:=by rw[ae (Vb W)]at e;exact e
 have n2:a≠ls:=by rintro rfl;rw[Mem.upd_same]at F;cases F
 have n1:a≠dn:=by rintro rfl;rw[ae W,Mem.upd_same]at F;cases F
 have U:M a=none:=by rw[ae n2,ae n1]at F;exact F
 obtain⟨k,I,H,O⟩:∃k:Wk,k.a=a/\k.dn=dn/\k.ls=ls:=#[#[a,dn,ls,n1,n2,W],rfl,rfl,rfl];have e0:((M.upd dn<|.dK<|eE<|names.zip nums).upd ls<|.lst []).upd a (.lst [.ref dn,.tup (c.pieces.map D.int),.ref ls,.int (c.most:Nat),.int c.m])=lM k c #[names.zip nums,[]] M:=by
  unfold lM;rw[I,H,O,aA (Vb n2),aA (Vb n1)];rfl
 rw[e0];have hD:=(vX (ad:=ad) (k:=k) p.l1 p.co 24).1 rows [] #[names.zip nums,[]] M;have hn:NOk names c.m (dH c names rows nums).2.nums:=dB p.co rows p.ok [] 0 #[names.zip nums,[]] p.nok;have J:=h ls P;subst I H O;have f:=QP (c:=c) (k:=k) (s:=(dH c names rows nums).2) U Z;refine am λQ' E' X _=>hD Q' E' p.ok (by have:=p.h;lia) (by have:=p.h;simp;lia) p.nok (WM _) (X _ _ ?_)
 have er:cc c rows [] 0 #[names.zip nums,[]]=dH c names rows nums:=rfl;rw[er];unfold fC at J;cases hb:(dH c names rows nums).1 with
 |false=>
  rw[hb,if_neg (by simp)]at J
  simp![pv,atI_2];exact#[bg (by decide),#[_,f,J]]
 |true=>
  rw[hb,if_pos rfl]at J;simp![pv,atI_1,atI_2,↓aZ]
  refine bV (λxs ab5 Y M'=>∃n1 n2 S,names=n1++n2/\xs=n2.map D.str/\ab5=n1.map (λx=>D.int (nm (dH c names rows nums).2.nums x))/\Y=[S,ap (.ref k.a)]/\M'=lM k c (dH c names rows nums).2 M)
   (λ_ _ _ _ _=>aL) ?_ ?_ ?_ _ _ _ _ #[[],names,ay,rfl,rfl,rfl,rfl,rfl]
  .rintro ab5 Y M' ⟨n1,n2,S,B,G,rfl,rfl,rfl⟩ q X
   have:n2=[]:=by cases n2 with|nil=>rfl|cons _ _=>simp at G
   subst this;have en:n1=names:=by simpa using B.symm
   subst en;simp![Mem.upd_del,au X];exact#[bg (by decide),#[_,f,J]]
  .rintro x xs ab5 Y M' ⟨n1,n2,S,B,G,rfl,rfl,rfl⟩ N hN _
   cases n2 with
   |nil=>simp at G
   |cons y n2=>
    simp only[UG,VY]at G;obtain⟨rfl,rfl⟩:=G;have hy:=(hn.at (x:=y)<|by rw[B];simp).1
    have R:n1.length+n2.length+1=names.length:=by rw[B];simp;lia
    simp![pv,oB,atI_0,ck,hy,VI];exact hN _ _ _ (by rw[UA];exact gn (by lia)) #[n1++[y],n2,_,by rw[B];simp,rfl,by simp,rfl,rfl]
  .rintro x xs ab5 Y M' ⟨n1,n2,S,B,G,rfl,rfl,rfl⟩
   have R:n1.length+n2.length=names.length:=by rw[B];simp
   rw[UA];exact gn (by lia)
theorem xm{b:BxQ EE λd M'=>xM d M' Q}(p:PlOk c names rows nums)(h:Q (Hj names<|dH c names rows nums) M):
  calls (qW ad) EE [aX c names rows mk,bJ nums c.pieces,.int (c.most:Nat)] M (λd M'=>xM d M' Q) b:=by
 refine am λQ' E' B _=>wE p λl f=>B _ _ ?_;unfold Hj fC at h;unfold fC;cases e:(dH c _ _ _).1 with
 |true=>
  rw[e]at h;rw[if_pos rfl];simp![Mem.upd_del,au f];exact h
 |false=>
  rw[e]at h;rw[if_neg (by simp)]
  simp![Mem.upd_del,au f];exact h
theorem whT(B:∀K:Bool->Mem->Prop,K true M->e Y M K)(h:f { D' with nx:=cu e f D' p n,ct:=cu e f D' p n,bk:=D'.nx } Y M):cu e f D' p (n+1) Y M:=by
 unfold cu
 simp_all
theorem whF(B:∀K:Bool->Mem->Prop,K eC M->e Y M K)(h:D'.nx Y M):cu e f D' p (n+1) Y M:=by
 unfold cu
 simp_all
theorem bG{xs:List D}(e:M p=ay)(h:Q (.lst xs) M):frz (.ref p) (M.upd p<|.lst xs) Q:=by
 simp_arith! only[frz,Mem.upd_same,Mem.upd_del,au e]
 exact h
def aK(C:Cse)(s t:Sta):List aI:=(dw C).filter λk=>decide (aN C s k≠aN C t k)
theorem vL(o:C.Ok)(h:∀p,M p=ay->Q (.ref p) (M.upd p<|.lst<|(dw C).map kD)):xl ad [C.d] M Q E:=by
 have l1:=o.l1;have few:=o.few;rw[U3];unfold CA Cse.d;simp![atI_1,atI_2];intro H G;simp only[Mem.upd_del,au G];refine#[by lia,λI B=>?_]
 simp[au B];refine#[bg (by simp[dD];lia),λF f=>ak ?_]
 have:=h F f;have e:(dw C).map kD=C.names.map D.str++dD 0 (Yu C.many):=by simp[dw];congr 1;exact VH λi _=>by simp[kD]
 rw[e]at this;exact this
theorem o5(o:C.Ok)(p:SOk C s)(B:SOk C t)(ea:C.mark s=.int a)(F:C.mark t=.int b)(e:a≠b)(h:Q (.tup [.int a,.int b]) M):jA ad [aS C s t] M Q E:=by
 rw[MU];unfold vG mj;generalize f:kx ad _=K;simp![aS,atI_0,atI_1,atI_3];refine iw o p (jE ?_);rw[ea];simp![aS,atI_0,atI_2,atI_3];refine iw o B (jE ?_);rw[F,<- f];simp![e];exact#[by trivial,ak h]
theorem me{m:D}(e:m=.non\/∃v,m=.int v)(h:Q (.str (if aR m (.int a)=true then "sound" else if aR m (.int b)=true then "faulty" else "other")) M):C7 ad [.tup [.int a,.int b],m] M Q E:=by
 rcases e with rfl|⟨v,rfl⟩
 .simp![NR,wJ,atI_0,atI_1]
  exact ak h
 simp![NR,wJ,atI_0,atI_1];simp[aR]at h
 split
 .rename_i q;rw[if_pos q]at h;exact ak h
 rename_i q;rw[if_neg q]at h
 split
 .rename_i q;rw[if_pos q]at h;exact ak h
 rename_i q;rw[if_neg q]at h;exact ak h
section
variable{κ:Type}[DecidableEq κ]
theorem LD{ab4:List (κ×D)}{k j:κ}{v:D}:(dm (fU ab4 k v) j).isSome=(decide (j=k)||(dm ab4 j).isSome):=by
 unfold fU
 split
 .rename_i h
  induction ab4 with
  |nil=>simp at h
  |cons p r ih=>
   obtain⟨f,J⟩:=p;simp only[UG,dm,WG] at*
   by_cases e:f=k
   .subst e
    by_cases B:f=j
    .simp_all
    have G:¬j=f:=λz=>B z.symm;simp only[if_pos,B,decide_false,G,Y0]
    by_cases H:(r.any λF=>decide (F.1=f))=true
    .have:=ih H
     simp only[G]at this;exact this
    have:r.map (λF=>if F.1=f then (F.1,v) else F)=r:=by
     conv=>rhs;rw[<- V3 r]
     refine VH λq I=>?_;have:¬q.1=f:=λz=>H (List.any_eq_true.mpr #[q,I,by simp[z]])
     simp[this]
    rw[this]
   rw[if_neg e]
   by_cases B:f=j
   .simp_all
   simp only[B];exact ih (by simp_all)
 unfold dm;rw[List.find?_append];cases q:ab4.find? _ with
 |some x=>simp
 |none=>
  by_cases e:j=k
  .subst e;simp
  have B:¬k=j:=λz=>e z.symm;simp[e,B]
theorem oJ{ab4:List (κ×D)}{j:κ}:∀{a0:List (κ×D)},(dm (ab4.foldl (λa p=>fU a p.1 p.2) a0) j).isSome=(decide (j∈ab4.map (·.1))||(dm a0 j).isSome):=by
 induction ab4 with
 |nil=>simp
 |cons p r ih=>
  intro a0;rw[V1,ih,LD,UG]
  by_cases e:j=p.1
  .simp[e]
  simp only[UK,e,false_or,decide_false,Y0]
theorem BS{ab4:List (κ×D)}:∀{a0:List (κ×D)},(a0.map (·.1)++ab4.map (·.1)).Nodup->ab4.foldl (λa p=>fU a p.1 p.2) a0=a0++ab4:=by
 induction ab4 with
 |nil=>simp
 |cons p r ih=>
  intro a0 h;have e:fU a0 p.1 p.2=a0++[p]:=by
   unfold fU;rw[if_neg];intro z;obtain⟨q,f,e⟩:=List.any_eq_true.mp z;exact(Xq.mp h).2.2 _ (Va f) _ UP (by lia)
  simp_all
end
noncomputable def uD(u:List aI):List (aI×D):=u.map λk=>(k,D.bl true)
theorem tO:(uD u).map (·.1)=u:=by
 unfold uD;rw[Vq];exact V3 u
theorem nz:(dm (uD u) k).isSome=decide (k∈u):=by
 have:=@oJ _ _ (uD u) k []
 induction u with
 |nil=>rfl
 |cons a r ih=>
  unfold uD dm;rw[UG,WG]
  by_cases e:a=k
  .subst e;simp
  have f:¬k=a:=λz=>e z.symm;simp only[e,UK,f,false_or];exact ih (@oJ _ _ _ k [] |>.trans (by rw[tO]))
theorem x6:qF (uD u) k=uD (u.filter λx=>decide (x≠k)):=by
 unfold qF uD;rw[Vx];rfl
theorem kX:∀ks:List aI,wz (ks.map λk=>D.tup [kD k,.bl true])=ap (uD ks)
 |[]=>rfl
 |k::ks=>by
  have e:cW (kD k)=ap k:=by cases k<;>rfl
  simp[wz,e,kX ks];rfl
theorem fM:cW (kD k)=ap k:=by cases k<;>rfl
theorem uf{a:eg}(h:M a=ap (.dK ab4)):sH M (kD k) (.ref a)=ap (dm ab4 k).isSome:=by
 unfold sH;have:aO M (.ref a)=none:=by simp_arith! only[aO,h]
 rw[this];unfold uF;simp[h,fM]
theorem sF(o:C.Ok)(S:ks.length<=1000)(h:∀p,M p=ay->Q (.ref p) (M.upd p<|.lst<|((dw C).filter λk=>decide (k∈ks)).map kD)):Am ad [C.d,mxD ks] M Q E:=by
 have l1:=o.l1;have few:=o.few;have W:(dw C).length=C.names.length+C.many:=by simp[dw]
 rw[RV];unfold A4;generalize P:nI ad (aF E)=K;unfold mxD
 simp_arith! only[ah,ar,bc,aa,aq,aZ,cg,ac,ag,Uz,dt,aO,cH,cN,UG,VF,Vf,Vc]
 refine gW (λd=>.tup [d,.bl true]) aL (by simp;lia) (λx F K q=>?_) ?_
 .simp_arith! only[aQ,aa,ac,dC,ag,Uz,dt]
  exact#[bg (by simp),q]
 .intro p J
  refine bG J ?_;have e:(ks.map kD).map (λd=>D.tup [d,.bl true])=ks.map λk=>D.tup [kD k,.bl true]:=by simp
  rw[e]
  simp_arith! only[ag,h7,Ic,dI,kX]
  refine#[trivial,by simp[uD];lia,λO R=>?_]
  simp only[af,UN];rw[<- P];unfold nI
  simp_arith! only[az,aZ,cg,aq,aj,aa,ac,ag,Uz,dt]
  refine#[rfl,am λQ' E' H _=>vL o λX I=>H _ _ (bG I ?_)]
  simp_arith! only[aO,cH,cN,UG,VF,Vf,Vc,Uz,dt,VS]
  refine da (λd=>match cW d with|some k=>decide (k∈ks)|none=>eC) id aL (by simp;lia) (λx F K q=>?_) (λx F _ K q=>q) ?_
  .obtain⟨k,S,rfl⟩:=UR.mp F
   simp only[fM]at q
   simp_arith! only[ao,ai,ac,Uz,dt,FX,uf (Mem.upd_same),oJ,tO]
   simpa [dm] using q
  .intro B f
   have e:(((dw C).map kD).filter λd=>match cW d with|some k=>decide (k∈ks)|none=>eC).map id=((dw C).filter λk=>decide (k∈ks)).map kD:=by
    rw[V3,Vx];congr 1;refine Wj λk _=>?_;simp only[Function.comp,fM]
   rw[e];have n1:B≠O:=λz=>by rw[z,Mem.upd_same]at f;cases f
   rw[ae n1]at f;refine#[M.upd B (.lst<|((dw C).filter λk=>decide (k∈ks)).map kD),λb U e=>?_,h B f]
   by_cases G:b=B
   .subst G;rw[Mem.upd_same]at e ⊢;exact e
   .rw[ae G]at e ⊢
    rw[ae (λz=>by rw[z,R]at e;cases e)]
    exact e
noncomputable def kU:Rw->List Str
 |.pick _ y=>[y]
 |.two _ _ y z=>[y,z]
 |.ifr x _ _=>[x]
 |.again x _=>[x]
 |_=>[]
theorem pZ(B:fO names m many r)(h:∀p,M p=ay->Q (.ref p) (M.upd p<|.lst<|(kU r).map D.str)):Ck ad [r.d] M Q E:=by
 cases r with
 |put x k=>simp![rl,jt,Rw.d,atI_0];exact#[bg (by decide),λp e=>ak (h p e)]
 |take x i=>simp![rl,jt,Rw.d,atI_0];exact#[bg (by decide),λp e=>ak (h p e)]
 |pick x y=>simp![rl,jt,Rw.d,atI_0];exact λp e=>ak (h p e)
 |two w x y z=>
  obtain⟨f,_⟩:=B;rcases f with rfl|rfl|rfl|rfl<;>(simp![rl,jt,Rw.d,atI_0];exact λp e=>ak (h p e))
 |ifr x a b=>simp![rl,jt,Rw.d,atI_0,atI_1];exact#[bg (by decide),λp e=>ak (h p e)]
 |again x a=>simp![rl,jt,Rw.d,atI_0,atI_1];exact#[bg (by decide),λp e=>ak (h p e)]
structure Gk where
 a:eg
 dn:eg
 lp:eg
 du:eg
 h1:a≠dn
 h2:a≠lp
 h3:a≠du
 h4:dn≠lp
 h5:dn≠du
 h6:lp≠du
structure Gs where
 n:cS
 ps:List Int
 u:List aI
 td:List Rw
 left:Int
def qf:List Rw->D
 |[]=>.non
 |r::rs=>.tup [r.d,qf rs]
noncomputable def gF(k:Gk)(td:D)(left:Int):List (Str×D):=[("numbers",.ref k.dn),("pieces",.ref k.lp),("unsettled",.ref k.du),("todo",td),("left",.int left)]
def gM(ad:Ad)(k:Gk)(g:Gs)(M:Mem):Mem:=(((M.upd k.a<|.ins ad.C_Going<|gF k (qf g.td) g.left).upd k.dn<|.dK<|eE g.n).upd k.lp<|.lst<|g.ps.map D.int).upd k.du (.dK<|uD g.u)
theorem gS:gM ad k g M k.du=ap (.dK<|uD g.u):=by unfold gM;simp_all
theorem rj:gM ad k g M k.lp=ap (.lst<|g.ps.map D.int):=by unfold gM;rw[ae k.h6,Mem.upd_same]
theorem hZ:gM ad k g M k.dn=ap (.dK<|eE g.n):=by unfold gM;rw[ae k.h5,ae k.h4,Mem.upd_same]
theorem cV:gM ad k g M k.a=ap (.ins ad.C_Going<|gF k (qf g.td) g.left):=by unfold gM;rw[ae k.h3,ae k.h2,ae k.h1,Mem.upd_same]
theorem pY{b:eg}(p:b≠k.a)(h:b≠k.dn)(e:b≠k.lp)(f:b≠k.du):gM ad k g M b=M b:=by
 unfold gM;rw[ae f,ae e,ae h,ae p]
structure Gk.Fr(k:Gk)(M:Mem):Prop where
 a:M k.a=ay
 dn:M k.dn=ay
 lp:M k.lp=ay
 du:M k.du=ay
theorem cq{b:eg}(h:gM ad k g M b=ay):b≠k.a/\b≠k.dn/\b≠k.lp/\b≠k.du/\M b=none:=by
 have B:b≠k.a:=λz=>by rw[z,cV]at h;cases h
 have e:b≠k.dn:=λz=>by rw[z,hZ]at h;cases h
 have f:b≠k.lp:=λz=>by rw[z,rj]at h;cases h
 have p:b≠k.du:=λz=>by rw[z,gS]at h;cases h
 rw[pY B e f p]at h;trivial
theorem dW(f:k.Fr M){b:eg}(e:M b=ap o):gM ad k g M b=ap o:=by
 rw[pY (λz=>by rw[z,f.a]at e;cases e) (λz=>by rw[z,f.dn]at e;cases e) (λz=>by rw[z,f.lp]at e;cases e) (λz=>by rw[z,f.du]at e;cases e)]
 exact e
theorem uM(f:k.Fr M){b:eg}(e:M b=ap o):(gM ad k g M).upd b h=gM ad k g (M.upd b h):=by
 have n1:k.a≠b:=λz=>by rw[<- z,f.a]at e;cases e
 have n2:k.dn≠b:=λz=>by rw[<- z,f.dn]at e;cases e
 have p:k.lp≠b:=λz=>by rw[<- z,f.lp]at e;cases e
 unfold gM;rw[aA (λz=>by rw[<- z,f.du]at e;cases e),aA p,aA n2,aA n1]
theorem vR:(gM ad k g M).upd k.a (.ins ad.C_Going<|gF k (qf td) left)=gM ad k { g with td:=td,left:=left } M:=by
 unfold gM;rw[aA (Vb k.h3),aA (Vb k.h2),aA (Vb k.h1),Mem.upd_upd]
theorem MA:(gM ad k g M).upd k.dn (.dK<|eE n)=gM ad k { g with n:=n } M:=by
 unfold gM;rw[aA (Vb k.h5),aA (Vb k.h4),Mem.upd_upd]
theorem Tu:(gM ad k g M).upd k.lp (.lst<|ps.map D.int)=gM ad k { g with ps:=ps } M:=by
 unfold gM;rw[aA (Vb k.h6),Mem.upd_upd]
theorem Mc:(gM ad k g M).upd k.du (.dK<|uD u)=gM ad k { g with u:=u } M:=by
 unfold gM
 simp_all
theorem MR:Vk ("numbers":Str) (gF k td left)=ap (.ref k.dn):=rfl
theorem gf1:Vk ("pieces":Str) (gF k td left)=ap (.ref k.lp):=rfl
theorem Nz:Vk ("unsettled":Str) (gF k td left)=ap (.ref k.du):=rfl
theorem RF:Vk ("todo":Str) (gF k td left)=ap td:=rfl
theorem gf4:Vk ("left":Str) (gF k td left)=ap (.int left):=rfl
theorem gfs:Vk ("settled":Str) (gF k td left)=none:=rfl
theorem Of:b_ "todo" d (gF k td left)=gF k d left:=rfl
theorem Td:b_ "left" (.int v) (gF k td left)=gF k td v:=rfl
theorem gfl:(gF k td left).length=5:=rfl
theorem eY(h:Q (qf (rs++td)) M):oF ad [.tup (aD rs),qf td] M Q E:=by
 rw[SC];unfold zE
 simp_arith! only[ah,cJ,Rn,aa,ac,ag,Uz,dt]
 refine cA (λF Y N=>∃(c:Option D)(us p:List Rw),rs=us++p/\F=(aD us).reverse/\Y=[ap (.tup<|aD rs),ap (qf (p++td)),c]/\N=M) (λ_ _ _ _=>aL) ?_ ?_ _ _ _ #[ay,rs,[],by simp,rfl,rfl,rfl]
 .rintro Y N ⟨c,us,p,B,f,rfl,rfl⟩
  have:us=[]:=by
   cases us with
   |nil=>rfl
   |cons a b=>rw[aD]at f;simp at f
  subst this;rw[Vc]at B;subst B
  simp_arith! only[az,ac,Uz,dt]
  exact ak h
 .rintro y F Y N ⟨c,us,p,B,f,rfl,rfl⟩ D' G _ _ _
  obtain⟨e,r,rfl⟩:∃e r,us=e++[r]:=by
   rcases List.eq_nil_or_concat us with z|⟨e,r,z⟩
   .subst z;rw[aD]at f;simp at f
   .exact#[e,r,by simpa using z]
  rw[iO,XN,List.reverse_append]at f;simp only[UG,VF,List.reverse_cons,List.reverse_nil,Vc,Vf,VY]at f;obtain⟨rfl,rfl⟩:=f;simp only[af,UN];unfold t8
  simp_arith! only[ar,aQ,aa,ac,ag,af,UN,Uz,dt]
  exact#[bg (by simp),G _ _ #[_,e,r::p,by simp[B],by rw[iO],rfl,rfl]]
structure GOk(C:Cse)(g:Gs):Prop where
 n:NOk C.names C.w g.n
 lp:g.ps.length=C.many
 rp:∀v∈g.ps,0<=v/\v<C.w
 td:bi C.names C.w C.many g.td
noncomputable def Gs.cf(C:Cse)(g:Gs):Cf:=#[C.w,g.ps,C.most]
theorem GOk.pd(k:GOk C g):C.d=aX (g.cf C) C.names C.rows C.mn:=by unfold Cse.d aX Gs.cf;rw[k.lp]
theorem GOk.co(k:GOk C g)(o:C.Ok):COk (g.cf C):=#[o.m2,o.m1,k.rp,by show g.ps.length<=_;rw[k.lp];have:=o.few;lia,o.most]
def OG(C:Cse)(n:cS):Rw->Option Int
 |.take _ i=>ap i
 |.pick _ y=>ap (nm n y % (C.many:Int))
 |_=>ay
noncomputable def ON(o:Option Int):D:=match o with
 |some i=>.int i
 |none=>.non
theorem jQ(h:fO names m many r)(e:bw r=true):cP names m many r:=by
 cases r<;>first|exact h|cases e
theorem lV(k:GOk C g)(B:fO C.names C.w C.many r)(F:M p=ap (.dK<|eE g.n))(h:Q (ON<|OG C g.n r) M):nY ad [C.d,.ref p,r.d] M Q E:=by
 cases f:bw r with
 |true=>
  rw[k.pd];refine cD k.n (by have:=jQ B f;rw[<- k.lp]at this;exact this) F ?_
  have e:((g.cf C).pieces.length:Int)=C.many:=by show (g.ps.length:Int)=_;rw[k.lp]
  cases r with
  |pick x y=>
   show Q (.int _) M;rw[e];exact h
  |_=>exact h
 |false=>
  cases r with
  |ifr x a b=>simp![qP,ju,Cse.d,Rw.d,atI_0];exact ak h
  |again x a=>simp![qP,ju,Rw.d,atI_0];exact ak h
  |_=>cases f
theorem xJ(o:C.Ok)(k:GOk C g)(U:fO C.names C.w C.many r)(P:bw r=true)(X:M O=ap (.dK<|eE g.n))(W:M lp=ap (.lst<|g.ps.map D.int))(h:Q (.int<|num (g.cf C) g.n r) M):
  pw ad [C.d,.ref O,.ref lp,r.d] M Q E:=by
 have hm1:=o.m1;have hm2:=o.m2;have hc:=k.co o;have f:=jQ U P;have H:=k.lp;have F:∀i:Nat,i<C.many->(g.ps.map D.int)[i]?=ap (.int<|(g.ps[i]?).getD 0):=λi hi=>by
  rw[UH,UC (by lia)];rfl
 have p:∀{K:DK},K (ON<|OG C g.n r) M->∀Q' E',(∀d M,K d M->Q' d M)->nY ad [C.d,.ref O,r.d] M Q' E':=λ{K} q Q' E' e=>lV k U X (e _ _ q);have B:=@Ca C;cases r with
 |put x v=>
  simp![lZ,gC,B,Rw.d,atI_0,atI_2];exact ak h
 |take x i=>
  obtain⟨R,G,h1⟩:=f;have I:=F i.toNat (by lia)
  rw[Rw.d]at p ⊢;simp![lZ,gC,atI_0,atI_2];refine am λQ' E' e _=>p (K:=λd M=>_) ?_ Q' E' e;simp![OG,ON,W,bz G,I];exact ak h
 |pick x y=>
  obtain⟨R,S,G⟩:=f;have g0:=VL (nm g.n y) (show (C.many:Int)≠0 by lia)
  have g1:=VM (nm g.n y) G;have I:=F (nm g.n y % (C.many:Int)).toNat (by lia)
  have e2:num (g.cf C) g.n (.pick x y)=(g.ps[(nm g.n y % (C.many:Int)).toNat]?).getD 0:=by show (g.ps[(nm g.n y % (g.ps.length:Int)).toNat]?).getD 0=_;rw[H]
  rw[e2]at h;rw[Rw.d]at p ⊢;simp![lZ,gC,atI_0,atI_2];refine am λQ' E' e _=>p (K:=λd M=>_) ?_ Q' E' e;simp![OG,ON,W,bz g0,I];exact ak h
 |two w x y z=>
  obtain⟨Z,R,S,hz⟩:=f;have a1:=k.n.at S;have a2:=k.n.at hz;have J:((w=WU "put")=False):=by rcases Z with rfl|rfl|rfl|rfl<;>exact eq_false (by decide +kernel)
  rw[Rw.d]at p ⊢;simp![lZ,gC,atI_0,atI_2,J];refine am λQ' E' e _=>p (K:=λd M=>_) ?_ Q' E' e;simp![OG,ON,B,atI_0,atI_2,atI_3,X,ck,a1.1,a2.1,VI];exact aH (d:=.int (num (g.cf C) g.n<|.two w x y z)) (λ_ _ q=>lL (by lia) (by lia) (by lia) q) (ak h)
 |ifr=>cases P
 |again=>cases P
def k8(C:Cse)(g:Gs)(r:Rw):Option aI:=
 if g.u=[] then ay else match (dw C).filter λk=>decide (k∈((kU r).filter λx=>decide ((Vo x:aI)∈g.u)).map Vo) with
  |k::_=>ap k
  |[]=>match OG C g.n r with
   |some i=>if (WH i:aI)∈g.u then ap (.inl i) else ay
   |none=>ay
def Kz:Option aI->D
 |some k=>kD k
 |none=>.non
theorem JW(h:fO names m many r):∀x∈kU r,x∈names:=by
 cases r with
 |pick x y=>intro z e;simp[kU]at e;subst e;exact h.2.1
 |two w x y z=>intro v f;simp[kU]at f;rcases f with rfl|rfl;exact h.2.2.1;exact h.2.2.2
 |ifr x a b=>intro z e;simp[kU]at e;subst e;exact h.1
 |again x a=>intro z e;simp[kU]at e;subst e;exact h.1
 |_=>simp[kU]
theorem HL:(kU r).length<=2:=by cases r<;>simp[kU]
theorem uD_emp:(uD u).isEmpty=u.isEmpty:=by cases u<;>rfl
theorem F9:sH (gM ad k g M) (.str x) (.ref k.du)=ap (decide ((Vo x:aI)∈g.u)):=by
 have:=uf (k:=.inr x) (gS (ad:=ad) (k:=k) (g:=g) (M:=M));rw[nz]at this;exact this
theorem uJ(o:C.Ok)(ok:GOk C g)(R:fO C.names C.w C.many r)(h:Q (Kz<|k8 C g r) (gM ad k g M)):BP ad [C.d,.ref k.a,r.d] (gM ad k g M) Q E:=by
 have I:=JW R;have H:=HL (r:=r);rw[Sj];unfold BA
 simp_arith! only[ah,aC,gs,cz,aW,ac,Uz,dt,cV,Nz,EY,gS]
 refine#[trivial,?_];unfold k8 at h;cases X:g.u with
 |nil=>
  rw[if_pos X]at h;exact ak h
 |cons u0 ur=>
  rw[if_neg (by rw[X];simp)]at h
  refine#[rfl,am λQ' E' O _=>pZ R λp f=>O _ _ (bG f ?_)]
  simp_arith! only[aO,cN,UG,VF,Vf,Vc,Uz,dt,VS]
  refine da (λd=>match d with|.str x=>decide ((Vo x)∈g.u)|_=>eC) id aL (by simp;lia) (λx F K q=>?_) (λx F _ K q=>q) ?_
  .obtain⟨y,hy,rfl⟩:=UR.mp F
   simp_arith! only[ao,ai,ac,aW,Uz,dt,cV,Nz,FX,F9]
   trivial
  intro p f;generalize P:((kU r).filter _)=fnd at h;have e:(((kU r).map D.str).filter λd=>match d with|.str x=>decide ((Vo x:aI)∈g.u)|_=>eC).map id=(fnd.map Vo).map kD:=by
   rw[V3,Vx,<- P,Vq];rfl
  have Z:∀x∈fnd,x∈C.names:=λx F=>by rw[<- P]at F;exact I x (Vd.mp F).1
  have hfl:fnd.length<=2:=by rw[<- P];exact UL (Vn _ _) H
  rw[e];refine bG (Q:=λd M'=>(nS ad<|aF E) _ [ap C.d,ap (.ref k.a),ap r.d,ap d,ay] M') f ?_;unfold nS
  simp_arith! only[ah,aC,cz,ac,Uz,dt,EY]
  cases G:fnd with
  |nil=>
   have hz:((dw C).filter λk=>decide (k∈(fnd.map Vo:List aI)))=[]:=by rw[G];simp
   rw[hz]at h;simp only[aB];unfold su uT
   simp_arith! only[ah,ar,aq,aj,aa,ac,ag,aW,Uz,dt,cV,MR]
   refine#[trivial,rfl,aH (λ_ _ q=>lV ok R hZ q) ?_];cases f:OG C g.n r with
   |none=>
    simp only[f]at h
    simp_arith! only[ON,frz,af,UN,az,qz,ao,ai,ac,dC,aW,Uz,dt,cV,Nz,GZ,zx,gS]
    refine#[trivial,?_];exact ak h
   |some i=>
    simp only[f]at h;have J:=uf (k:=.inl i) (gS (ad:=ad) (k:=k) (g:=g) (M:=M));rw[nz]at J;simp only[kD]at J
    simp_arith! only[ON,frz,af,UN,az,qz,ao,ai,ac,dC,aW,Uz,dt,cV,Nz,GZ,zx,J]
    refine#[trivial,?_]
    by_cases c:(WH i:aI)∈g.u
    .rw[if_pos c]at h
     rw[if_pos (by simpa using c)]
     exact ak h
    .rw[if_neg c]at h
     rw[if_neg (by simpa using c)]
     exact ak h
  |cons f0 fr=>
   have B:∃U S,((dw C).filter λk=>decide (k∈(fnd.map Vo:List aI)))=U::S:=by
    have:(Vo f0:aI)∈(dw C).filter λk=>decide (k∈(fnd.map Vo:List aI)):=by
     refine Vd.mpr #[W3 _ (by simp_all),?_]
     rw[G];simp
    cases q:(dw C).filter _ with
    |nil=>rw[q]at this;cases this
    |cons a b=>exact#[a,b,rfl]
   obtain⟨U,S,W⟩:=B;rw[W]at h;simp only at h;refine#[rfl,am λQ' E' O _=>sF o (by rw[<- G,UA];lia) λp f=>O _ _ (bG f ?_)]
   rw[<- G,W];exact ak h
theorem okRs_app{names:ab'}{m many:Int}:∀{a b:List Rw},bi names m many (a++b)↔bi names m many a/\bi names m many b
 |[],b=>by simp[bi]
 |r::a,b=>by simp[bi,okRs_app,and_assoc]
def vf(C:Cse)(g:Gs)(rest:List Rw):Rw->Gs
 |.ifr x a b=>{ g with left:=g.left-1,td:=(if nm g.n x=0 then b else a)++rest }
 |.again x a=>{ g with left:=g.left-1,td:=if nm g.n x=0 then rest else a++(.again x a::rest) }
 |r=>{ g with left:=g.left-1,td:=rest,n:=sN g.n (jq r) (num (g.cf C) g.n r),u:=g.u.filter λk=>decide (k≠.inr (jq r)) }
theorem xB:(vf C g rest r).left=g.left-1:=by cases r<;>rfl
theorem Fj(o:C.Ok)(ok:GOk C g)(e:fO C.names C.w C.many r)(f:bw r=true):0<=num (g.cf C) g.n r/\num (g.cf C) g.n r<C.w:=
 AO (ok.co o) ok.n (by have:=jQ e f;rw[<- ok.lp]at this;exact this)
theorem Fm(o:C.Ok)(ok:GOk C g)(e:g.td=r::rest):GOk C (vf C g rest r):=by
 have h:=ok.td;rw[e]at h;obtain⟨p,f⟩:=h;have B:bw r=true->GOk C { g with left:=g.left-1,td:=rest,n:=sN _ (jq r) _,u:=g.u.filter λk=>decide (k≠.inr (jq r)) }:=λF=>
  #[GG (c:=g.cf C) ok.n (Fj o ok p F),ok.lp,ok.rp,f]
 cases r with
 |ifr x a b=>
  refine#[ok.n,ok.lp,ok.rp,okRs_app.mpr #[?_,f]]
  split
  .exact p.2.2
  exact p.2.1
 |again x a=>
  refine#[ok.n,ok.lp,ok.rp,?_];show bi _ _ _ (if nm _ x=0 then rest else a++(.again x a::rest))
  split
  .exact f
  exact okRs_app.mpr #[p.2,p,f]
 |_=>exact B rfl
theorem Ij(h:cP names m many r):jq r∈names:=by
 cases r with
 |two w x y z=>exact h.2.1
 |ifr=>exact h.elim
 |again=>exact h.elim
 |_=>exact h.1
theorem FL:RC (gM ad k g M) (.ref k.du)=true:=by simp[RC,gS]
theorem Lv(h:k∉u):u.filter (λx=>decide (x≠k))=u:=Zw.mpr (by lia)
theorem QD(o:C.Ok)(ok:GOk C g)(f:fO C.names C.w C.many r)(p:bw r=true)(h:D'.nx [ap C.d,ap (.ref k.a),ap r.d] (gM ad k { g with n:=sN g.n (jq r) (num (g.cf C) g.n r),u:=g.u.filter λk=>decide (k≠.inr (jq r)) } M)):
  iE ad EE D' [ap C.d,ap (.ref k.a),ap r.d] (gM ad k g M):=by
 have e:∀{M:Mem}{K:DK},K (.str<|jq r) M->aw r.d (.int 1) M K:=λq=>by
  cases r<;>assumption
 unfold iE uC
 simp_arith! only[ah,ar,aq,aj,aa,ac,aW,Uz,dt,cV,MR]
 refine#[trivial,trivial,rfl,aH (λ_ _ q=>xJ o ok f p hZ rj q) ?_]
 simp_arith! only[frz,cM,aW,ai,ac,dC,Uz,dt,cV,MR]
 refine#[trivial,e ?_];have B:(eE g.n).length<sizeLine:=by
  have H:(eE g.n).length=C.names.length:=by rw[<- ok.n.keys];simp[eE]
  have:=o.l1;exact gn (by lia)
 simp_arith! only[kL,hZ,cW,nN (by rw[ok.n.keys];exact(Ij<|jQ f p)),MA]
 refine#[B,?_]
 simp_arith! only[b6,HA,aW,ai,ac,dC,Uz,dt,cV,Nz,FL]
 refine#[trivial,trivial,e ?_]
 simp_arith! only[gS,cW]
 cases G:dm (uD _) _ with
 |some v=>simp only[oe_s,x6,Mc];exact h
 |none=>
  have F:(Vo<|jq r)∉g.u:=λz=>by
   have:=nz (u:=g.u) (k:=.inr (jq r))
   simp_all
  rw[Lv F]at h;exact h
theorem oZ{rest:List D}(f:Y[2]?=ap (ap<|.tup (.str w::rest)))(q:K (decide (w=e)) M):ao (ai bX (ai aw (ac 2)<|dC<|.int 0)<|dC<|.str e) Y M K:=by
 simp_arith! only[ao,ai,ac,f]
 trivial
theorem EI(h:fO C.names C.w C.many r)(e:bw r=true):∃w rest,r.d=.tup (.str w::rest)/\decide (w=("if":Str))=eC/\decide (w=("again":Str))=false:=by
 cases r with
 |ifr=>cases e
 |again=>cases e
 |two w x y z=>
  obtain⟨f,_⟩:=h;refine#[_,_,rfl,?_];rcases f with rfl|rfl|rfl|rfl<;>exact#[by rfl,by rfl]
 |_=>exact#[_,_,rfl,by rfl,by rfl]
theorem xZ(o:C.Ok)(ok:GOk C g)(e:g.td=r::rest)(h:Q .non (gM ad k (vf C g rest r) M)):C1 ad [C.d,.ref k.a,r.d] (gM ad k g M) Q E:=by
 have htd:=ok.td;rw[e]at htd;obtain⟨hr,hrest⟩:=htd;have ok1:GOk C { g with td:=rest,left:=g.left-1 }:=#[ok.n,ok.lp,ok.rp,hrest];rw[Ut];unfold C3 sE;have etd:qf g.td=.tup [r.d,qf rest]:=by rw[e];rfl
 have u1:=vR (ad:=ad) (k:=k) (g:=g) (M:=M) (td:=g.td) (left:=g.left-1)
 simp_arith! only[ah,uj,cG,aW,ai,ac,dC,Uz,dt,cV,gf4,gfl,Td,u1]
 refine#[trivial,by decide,trivial,trivial,?_]
 have u2:=vR (ad:=ad) (k:=k) (g:={ g with left:=g.left-1 }) (M:=M) (td:=rest) (left:=g.left-1);have u3:=vR (ad:=ad) (k:=k) (g:=g) (M:=M) (td:=rest) (left:=g.left-1)
 simp_arith! only[RF,gf4,Td,Mem.upd_same,Mem.upd_upd,u3,etd,dC,ac,aw,aO,atI_1,Uz,dt,cV,gfl,Of,u2]
 refine#[trivial,by decide,?_]
 have hset:bw r=true->∀{D':DEnds}{EE:DX},D'.nx [ap C.d,ap (.ref k.a),ap r.d] (gM ad k (vf C g rest r) M)->iE ad EE D' _ (gM ad k _ M):=λhs D' EE q=>QD o ok1 hr hs (by
  cases r<;>trivial)
 have hset':bw r=true->(iE ad<|aF E) { nx:=λ_ M'=>drp Q .non M',rt:=drp Q } _ _:=λhs=>by
  exact hset hs (ak h)
 by_cases hs:bw r=true
 .obtain⟨w,wr,er,n1,n2⟩:=EI hr hs
  have:=hset' hs;rw[er]at this ⊢;refine oZ rfl ?_;simp only[n1,if_false];refine oZ rfl ?_
  simp_all
 cases r with
 |ifr x a b=>
  have hx:=hr.1;have hn:=(ok1.n.at hx).1;have u3:=λl=>vR (ad:=ad) (k:=k) (g:={ g with td:=rest,left:=g.left-1 }) (M:=M) (td:=l) (left:=g.left-1);have fin:∀l:List Rw,(vf C g rest<|.ifr x a b).td=l++rest->calls (oF ad) (aF E) [.tup (aD l),qf rest] (gM ad k { g with td:=rest,left:=g.left-1 } M) (λd M'=>frz d M' λy M1=>match M1 k.a with
    |some (MO.ins C' fs)=>C'=ad.C_Going/\fs.length<1000/\drp Q D.non (M1.upd k.a<|MO.ins ad.C_Going<|b_ (WU "todo") y fs)
    |_=>False) #[]:=λl hl=>by
   refine aH (λ_ _ q=>eY q) ?_;have ft:∀{l:List Rw}{M:Mem}{Q:DK},Q (qf l) M->frz (qf l) M Q:=λ{l} {M} {Q} q=>by cases l<;>exact q
   refine ft ?_;simp only[cV,gfl,Of,u3];rw[<- hl];exact#[trivial,by decide,ak h]
  simp only[Rw.d];refine oZ rfl ?_;simp![atI_1,atI_2,atI_3,cV,MR,RF,hZ,ck,hn,VI]
  by_cases c:nm g.n x=0
  .simp only[c,if_true]
   exact fin b (by simp only[vf,c,if_true])
  .simp only[c]
   exact fin a (by simp only[vf,c,if_false])
 |again x a=>
  have hx:=hr.1;have hn:=(ok1.n.at hx).1;have u3:=λl=>vR (ad:=ad) (k:=k) (g:={ g with td:=rest,left:=g.left-1 }) (M:=M) (td:=l) (left:=g.left-1);have n1:decide ("again"="if")=false:=by rfl
  simp only[Rw.d];refine oZ rfl ?_;refine oZ rfl ?_;simp;simp![atI_1,atI_2,cV,MR,RF,hZ,ck,hn,VI]
  by_cases c:nm g.n x=0
  .simp only[c,decide_true]
   refine ak ?_;have:vf C g rest (.again x a)={ g with td:=rest,left:=g.left-1 }:=by simp only[vf,c,if_true]
   simp_all
  simp only[c,decide_false,XY,if_true];refine#[bg (by decide),?_]
  refine aH (λ_ _ q=>eY (td:=.again x a::rest) q) ?_;have ft:∀{l:List Rw}{M:Mem}{Q:DK},Q (qf l) M->frz (qf l) M Q:=λ{l} {M} {Q} q=>by cases l<;>exact q
  refine ft ?_
  simp_arith! only[ac,Uz,dt,cV,gfl,Of,u3]
  have:vf C g rest (.again x a)={ g with td:=a++(.again x a::rest),left:=g.left-1 }:=by simp only[vf,c,if_false]
  rw[<- this];exact#[trivial,by decide,ak h]
 |_=>trivial
def cY(C:Cse):Nat->Gs->Option aI×Gs
 |0,g=>(ay,g)
 |f+1,g=>match g.td with
  |[]=>(if (Vo C.mn:aI)∈g.u then ap (.inr C.mn) else ay,g)
  |r::rest=>if g.left<=0 then (ay,g) else match k8 C g r with
   |some k=>(ap k,g)
   |none=>cY C f (vf C g rest r)
section
variable{k:Gk}
theorem Qn:lY (qf td)=td.isEmpty:=by cases td<;>rfl
theorem AS(o:C.Ok):∀(f:Nat)(g:Gs),GOk C g->GOk C (cY C f g).2
 |0,g,h=>h
 |f+1,g,h=>by
  unfold cY;cases e:g.td with
  |nil=>exact h
  |cons r rest=>
   dsimp only
   split
   .exact h
   cases a:k8 C g r with
   |some k=>exact h
   |none=>exact AS o f _ (Fm o h e)
theorem Ja(o:C.Ok)(ok:GOk C g)(e:g.td=r::rest)(S:g.left<=0->D'.rt .non (gM ad k g M))(R:¬g.left<=0->∀q,k8 C g r=ap q->D'.rt (kD q) (gM ad k g M))(h3:¬g.left<=0->k8 C g r=ay->∀F G,D'.nx [ap C.d,ap (.ref k.a),F,G] (gM ad k (vf C g rest r) M)):iA ad EE D' [ap C.d,ap (.ref k.a),F,G] (gM ad k g M):=by
 have f:=ok.td;rw[e]at f;obtain⟨J,B⟩:=f;have p:qf g.td=.tup [r.d,qf rest]:=by rw[e];rfl
 unfold iA
 simp_arith! only[ah,aC,ao,ai,aW,ac,dC,oLe,md,Uz,dt,cV,gf4]
 refine#[trivial,?_]
 by_cases h:g.left<=0
 .rw[if_pos (by simp_all)]
  exact S h
 rw[if_neg (by simp_all)]
 simp[aB];unfold tq tF
 simp_arith! only[ah,ar,ai,aW,ac,Uz,dt,cV,p]
 refine#[trivial,rfl,aH (λ_ _ q=>uJ o ok J q) ?_];have O:∀{q:Option _}{M:Mem}{Q:DK},Q (Kz q) M->frz (Kz q) M Q:=λ{q} {M} {Q} z=>by
  cases q with
  |none=>exact z
  |some k=>cases k<;>exact z
 refine O ?_;unfold sM sf;have P:lY (Kz<|k8 C g r)=(k8 C g r).isNone:=by
  cases k8 C g r with
  |none=>rfl
  |some k=>cases k<;>rfl
 simp_arith! only[af,UN,ah,aC,ao,ai,ac,dC,eq,Uz,dt,P]
 cases H:k8 C g r with
 |some q=>
  exact R h q H
 |none=>
  exact#[rfl,am λQ' E' I _=>xZ o ok e (I _ _<|h3 h H _ _)]
theorem qC{EE:DX}{D':DEnds}{J:BxW (ao<|ai eq (aW ad.C_Going (ac 1) "todo")<|dC .non) (iA ad EE) D'}(o:C.Ok):∀(f:Nat)(g:Gs)(h p:Option D),GOk C g->g.left<f->
  (∀h p g',(cY C f g)=(if (Vo C.mn:aI)∈g'.u then ap (.inr C.mn) else ay,g')->g'.td=[]->D'.nx [ap C.d,ap (.ref k.a),h,p] (gM ad k g' M))->
  (∀g' q,cY C f g=(q,g')->D'.rt (Kz q) (gM ad k g' M))->0<=g.left->
  cu (ao<|ai eq (aW ad.C_Going (ac 1) "todo")<|dC .non) (iA ad EE) D' J (f+1) [ap C.d,ap (.ref k.a),h,p] (gM ad k g M)
 |0,g,h,p,ok,hf,h1,h2,h0=>by lia
 |f+1,g,h,p,ok,hf,h1,h2,h0=>by
  have I:∀K:Bool->Mem->Prop,K _ _->ao (ai eq (aW _ (ac 1) "todo")<|dC .non) [ap C.d,ap (.ref k.a),h,p] (gM ad k g M) K:=λK q=>by
   simp_arith! only[ao,ai,aW,ac,dC,Uz,dt,cV,RF,eq,Qn]
   trivial
  cases e:g.td with
  |nil=>
   refine whF (by simp_all) (h1 h p g ?_ e)
   unfold cY;rw[e]
  |cons r rest=>
   have F:cY C (f+1) g=if g.left<=0 then (ay,g) else match k8 C g r with
    |some k=>(ap k,g)
    |none=>cY C f (vf C g rest r):=by conv=>lhs;unfold cY;rw[e]
   have H:(vf C g rest r).left=g.left-1:=xB;refine whT (by simp_all) (Ja o ok e (λB=>?_) (λB q G=>?_) λB G h p=>?_)
   .rw[if_pos B]at F
    exact h2 g _ F
   .rw[if_neg B,G]at F
    exact h2 g _ F
   exact qC o f _ _ _ (Fm o ok e) (by lia) (by simp_all) (by lia) (by lia)
theorem DN{f:Nat}(o:C.Ok)(ok:GOk C g)(F:0<=g.left)(B:g.left<f)(h:Q (Kz (cY C f g).1) (gM ad k (cY C f g).2 M)):Cs ad [C.d,.ref k.a] (gM ad k g M) Q E:=by
 refine#[_,qC o f g _ _ ok B (λH G p e _=>?_) (λp q e=>?_) F]
 .unfold uL
  rw[e]at h
  simp_arith! only[(@Ca C),az,qz,ao,ai,aW,ac,dC,Uz,dt,aw,aO,atI_4,cV,Nz,FX,F9]
  refine#[trivial,?_]
  by_cases c:(Vo C.mn)∈p.u
  .simp[if_pos c]at h
   rw[if_pos (by simpa using c)]
   exact ak h
  simp only[if_neg c]at h;rw[if_neg (by simpa using c)]
  exact ak h
 rw[e]at h;exact ak h
def Sc(C:Cse)(g:Gs):D:=if g.td=[] then .int (nm g.n C.mn) else .non
theorem vT(o:C.Ok)(ok:GOk C g)(h:Q (Sc C g) (gM ad k g M)):BM ad [C.d,.ref k.a] (gM ad k g M) Q E:=by
 rw[Uj];unfold Bn
 simp_arith! only[az,qz,ao,ai,aW,ac,dC,Uz,dt,cV,RF,ji]
 refine#[trivial,?_];unfold Sc at h;cases e:g.td with
 |nil=>
  rw[if_pos e]at h
  simp_arith! only[(@Ca C),ai,ac,dC,MR,aw,aO,atI_4,Uz,dt,hZ,uF,cW,ck,((ok.n.at o.mn).1)]
  exact#[trivial,ak h]
 |cons r rest=>
  rw[if_neg (by rw[e];simp)]at h
  exact ak h
end
def gr(g:Gs)(q:aI)(v:Int):Gs:=match q with
 |.inl i=>{ g with u:=g.u.filter λk=>decide (k≠q),ps:=g.ps.set i.toNat v }
 |.inr x=>{ g with u:=g.u.filter λk=>decide (k≠q),n:=sN g.n x v }
theorem Bl(ok:GOk C g)(e:0<=v/\v<C.w):GOk C (gr g q v):=by
 cases q with
 |inl i=>
  refine#[ok.n,by show (g.ps.set _ _).length=_;rw[VR];exact ok.lp,λz f=>?_,ok.td]
  rcases List.mem_or_eq_of_mem_set f with h|h
  .exact ok.rp z h
  rw[h];exact e
 |inr x=>exact#[GG (c:=g.cf C) ok.n e,ok.lp,ok.rp,ok.td]
theorem jg:(gr g q v).u=g.u.filter λk=>decide (k≠q):=by cases q<;>rfl
theorem rT:(gr g q v).left=g.left:=by cases q<;>rfl
theorem pC{x:eg}(h:Q .non (M.upd x<|.ins ad.C_Going [("numbers",e),("pieces",f),("unsettled",d3),("todo",td),("left",.int left)])):
  IU ad [.ref x,e,f,d3,td,.int left] (M.upd x<|.ins ad.C_Going []) Q E:=by
 have G:b_ _ e []=[(("numbers":Str),e)]:=rfl;have B:b_ "pieces" f [("numbers",e)]=[(("numbers":Str),e),("pieces",f)]:=rfl;have p:b_ "unsettled" d3 [("numbers",e),("pieces",f)]=[(("numbers":Str),e),("pieces",f),("unsettled",d3)]:=rfl;have F:b_ "todo" td [("numbers",e),("pieces",f),("unsettled",d3)]=[(("numbers":Str),e),("pieces",f),("unsettled",d3),("todo",td)]:=rfl;rw[u_q3];unfold JS;simp![Mem.upd_upd,G,B,p,F];exact#[by decide,by decide,by decide,by decide,by decide,ak h]
structure Gat(ad:Ad)(k:Gk)(g:Gs)(N:Mem):Prop where
 a:N k.a=ap (.ins ad.C_Going<|gF k (qf g.td) g.left)
 dn:N k.dn=ap (.dK<|eE g.n)
 lp:N k.lp=ap (.lst<|g.ps.map D.int)
 du:N k.du=ap (.dK<|uD g.u)
theorem Gat.of:Gat ad k g (gM ad k g M):=#[cV,hZ,rj,gS]
theorem Gat.more(h:Gat ad k g M)(f:k1.Fr M):Gat ad k g (gM ad k1 e M):=#[dW f h.a,dW f h.dn,dW f h.lp,dW f h.du]
theorem uq(at':Gat ad k g N)(o:C.Ok)(ok:GOk C g)(hk:q∈dw C)(hu:q∈g.u)(h:∀Z:Gk,Z.Fr N->Q (.ref Z.a) (gM ad Z (gr g q v) N)):
  HR ad [.ref k.a,kD q,.int v] N Q E:=by
 obtain⟨F,hdn,R,J⟩:=at';rw[u_q5];unfold KP
 simp_arith! only[ah,ar,iW,aa,bc,aW,ac,dt,F,MR,kR,hdn]
 refine#[trivial,λU W=>?_];have a1:=Mem.ne F W;have l1:=Mem.ne R W;have u1:=Mem.ne J W
 simp_arith! only[ae a1,F,gf1,eL,aO,ae l1,R]
 refine#[trivial,λP S=>?_];have G:=Mem.ne Mem.upd_same S;rw[ae G.symm]at S;have a2:=Mem.ne F S;have u2:=Mem.ne J S
 simp_arith! only[aa,bc,kR,aW,ac,dt,ae a2,ae a1,F,Nz,ae u2,ae u1,J]
 refine#[trivial,λX O=>?_];have I:=Mem.ne Mem.upd_same O;rw[ae I.symm]at O;have B:=Mem.ne Mem.upd_same O;rw[ae B.symm]at O;have a3:=Mem.ne F O
 simp_arith! only[aa,aW,ac,dt,ae a3,ae a2,ae a1,F,RF]
 refine#[trivial,trivial,rfl,λx H=>?_];have p:=Mem.ne Mem.upd_same H;rw[ae p.symm]at H;have e:=Mem.ne Mem.upd_same H;rw[ae e.symm]at H;have f:=Mem.ne Mem.upd_same H;rw[ae f.symm]at H;refine am λQ' E' hq _=>pC (hq _ _ ?_);have key:((((N.upd U<|.dK<|eE g.n).upd P<|.lst<|g.ps.map D.int).upd X<|.dK<|uD g.u).upd x<|.ins ad.C_Going [("numbers",.ref U),("pieces",.ref P),("unsettled",.ref X),("todo",qf g.td),("left",.int g.left)])=gM ad #[x,U,P,X,f.symm,e.symm,p.symm,G,B,I] g N:=by
  unfold gM gF;rw[aA p,aA e,aA f]
 rw[key];have hfr:Gk.Fr #[x,U,P,X,f.symm,e.symm,p.symm,G,B,I] N:=#[H,W,S,O];have hh:=h _ hfr;generalize hk':(#[x,U,P,X,_,_,_,_,_,_]:Gk)=Z at *;have ex:x=Z.a:=by rw[<- hk']
 rw[ex];simp[af,UN];unfold yh;have hv:=V7.mp (by rw[nz];simpa using hu)
 obtain⟨w,hv⟩:=hv
 simp_arith! only[ah,b6,IC,aW,ac,Uz,dt,cV,Nz,FL,gS,fM,hv,x6,Mc]
 rcases nM hk with⟨y,hy,rfl⟩|⟨i,hi,rfl⟩
 .have nl:(eE g.n).length<sizeLine:=by
   have W:(eE g.n).length=C.names.length:=by rw[<- ok.n.keys];simp[eE]
   have:=o.l1;exact gn (by lia)
  simp only[kD]at hh ⊢;simp![bQ,m5,Xs,Yh,X7,Y0,XH,cV,MR,hZ,nN (by rw[ok.n.keys];exact hy),MA]
  exact#[nl,ak hh]
 .have e3:ve (g.ps.map D.int).length i=ap i:=by
   rw[fh (by lia) (by rw[UA,ok.lp];lia),UW]
  have e4:(g.ps.map D.int).set i (.int v)=(g.ps.set i v).map D.int:=by simp_all
  simp only[kD]at hh ⊢;simp![m5,Xs,Yh,XH,cV,gf1,rj,e3,e4,Tu];exact ak hh
noncomputable def eO(ad:Ad)(L c:Nat):MO:=.ins ad.C_Ends [("limit",.int (L:Nat)),("count",.int (c:Nat))]
set_option genInjectivity true in
inductive Tr where
 |e (m:D)|a (q:aI) (x y:Tr)
def Tr.d:Tr->D
 |.e m=>.tup [.str "end",m]
 |.a q x y=>.tup [.str "ask",kD q,x.d,y.d]
def Tr.asks:Tr->Nat
 |.e _=>0
 |.a _ x y=>1+x.asks+y.asks
def dQ(C:Cse)(s t:Sta):Nat->Gs->Tr
 |0,_=>.e .non
 |n+1,g=>match (cY C (C.most+1) g).1 with
  |none=>.e (Sc C (cY C (C.most+1) g).2)
  |some q=>.a q (dQ C s t n<|gr (cY C (C.most+1) g).2 q<|aN C s q) (dQ C s t n<|gr (cY C (C.most+1) g).2 q<|aN C t q)
theorem jR{c:Nat}(f:M e=ap (eO ad L c))(H:c+1<=L)(h:Q .non (M.upd e<|eO ad L (c+1))):Hd ad [.ref e] M Q E:=by
 have G:∀v,b_ "count" _ [("limit",D.int _),("count",D.int c)]=[(("limit":Str),D.int L),("count",D.int v)]:=λ_=>rfl;have F:∀v,Vk ("count":Str) [("limit",D.int L),("count",D.int v)]=ap _:=λ_=>rfl;have p:∀v,Vk ("limit":Str) [("limit",D.int L),("count",D.int v)]=ap _:=λ_=>rfl;have B:decide ((L:Int)<c+1)=false:=decide_eq_false (by lia)
 unfold eO at f h;rw[u_q8];unfold Jo y4
 simp_arith! only[ah,sJ,aC,ao,ai,aW,ac,dC,dt,f,G,F,p,Mem.upd_same,md,B]
 refine#[trivial,by simp,trivial,trivial,trivial,?_]
 refine ak ?_
 assumption
theorem Fg{a:eg}{m:Str}(f:∀K:DK,K (.ref a) M->e Y M K)(p:M a=ap (.ins Cl fs))(B:fs.lookup m=ay)(h:t Y M λds M2=>ds.length+1=n/\calls T EE (.ref a::ds) M2 Q #[]):dA Cl m T EE n e t Y M Q:=by
 refine f _ ?_;simp[RJ,p];trivial
theorem qx(e:Gat ad k g N)(o:C.Ok)(P:SOk C s)(O:SOk C t)(ok:GOk C g)(J:q∈dw C)(R:q∈g.u)(h:∀(k1 k2:Gk)(p:eg),k1.Fr N->k2.Fr (gM ad k1 (gr g q<|aN C s q) N)->gM ad k2 (gr g q<|aN C t q) (gM ad k1 (gr g q<|aN C s q) N) p=ay->
   Q (.ref p) ((gM ad k2 (gr g q<|aN C t q)<|gM ad k1 (gr g q<|aN C s q) N).upd p<|.lst [.ref k1.a,.ref k2.a])):
  zL ad [aS C s t,.ref k.a,kD q] N Q E:=by
 rw[SI];unfold BE;generalize f:aq (dA _ _ _ _ 3 _ _)=te;have F:∀{N:Mem}{z:Sta}{K:DK},Gat ad k g N->SOk C z->(∀k1:Gk,k1.Fr N->K _ _)->te [ap _,ap _,ap _,ap (aS C s t)] N K:=λ{N z K} G H hh=>by
  rw[<- f];exact (λf o H ok B I h=>by
     have G:∀{a:eg}{M:Mem}{Q:DK}{fs:List _},M a=ap (.ins ad.C_Going fs)->Q _ M->frz (.ref a) M Q:=λ{a M Q fs} e z=>by simp_arith! only[frz,e];exact z
     exact Fg (λK q=>q) f.a gfs #[rfl,aH (λ_ _ z=>dX o H B z)<|(λz=>z) #[rfl,am λQ' E' F _=>uq f o ok B I λk1 p=>F _ _ (G cV<|h k1 p)]]) G o H ok J R hh
 refine#[aL,?_];refine F e P λk1 B=>#[by trivial,?_]
 exact#[aL,F (e.more B) O λk2 I=>#[gn (by simp),#[aL,λp S=>ak (by simp_all)]]]
theorem oO{b:eg}(h:M b=ap o):M.upd b o=M:=by
 funext c;unfold Mem.upd
 simp_all
theorem Jx(h:k2.Fr (gM ad k1 e N)):gM ad k2 G (gM ad k1 e N)=gM ad k1 e (gM ad k2 G N):=by
 obtain⟨a1,I,a3,R,_⟩:=cq h.a;obtain⟨b1,b2,O,J,_⟩:=cq h.dn;obtain⟨X,U,H,c4,_⟩:=cq h.lp;obtain⟨S,W,P,Z,_⟩:=cq h.du;funext b
 by_cases F:b=k2.a
 .subst F;rw[cV,pY a1 I a3 R,cV]
 by_cases p:b=k2.dn
 .subst p;rw[hZ,pY b1 b2 O J,hZ]
 by_cases f:b=k2.lp
 .subst f;rw[rj,pY X U H c4,rj]
 by_cases B:b=k2.du
 .subst B;rw[gS,pY S W P Z,gS]
 unfold gM;simp[Mem.upd,F,p,f,B]
theorem Od(h:k8 C g r=ap q):q∈g.u:=by
 unfold k8 at h
 split at h
 .cases h
 split at h
 .rename_i B f e
  cases h;have:q∈(dw C).filter λk=>decide (k∈((kU r).filter λx=>decide ((Vo x)∈g.u)).map Vo):=by rw[e];simp
  obtain⟨x,p,rfl⟩:=UR.mp (of_decide_eq_true<|(Vd.mp this).2)
  simp_all
 split at h
 .split at h
  .simp_all
  cases h
 cases h
theorem SX:(vf C g rest r).u.length<=g.u.length/\∀x∈(vf C g rest r).u,x∈g.u:=by
 have f:∀z:aI,(g.u.filter λk=>decide (k≠z)).length<=g.u.length/\∀x∈g.u.filter (λk=>decide (k≠z)),x∈g.u:=λz=>#[Vn _ _,λx e=>(Vd.mp e).1];cases r with
 |ifr=>exact#[UQ _,λ_ h=>h]
 |again=>exact#[UQ _,λ_ h=>h]
 |_=>exact f _
theorem oW:∀(f:Nat)(g:Gs),((cY C f g).2.u.length<=g.u.length/\∀x∈(cY C f g).2.u,x∈g.u)/\(0<=g.left->0<=(cY C f g).2.left/\(cY C f g).2.left<=g.left)/\∀q,(cY C f g).1=ap q->q∈(cY C f g).2.u
 |0,g=>#[#[UQ _,λ_ h=>h],λh=>#[h,YA _],λq h=>by cases h]
 |f+1,g=>by
  unfold cY;cases e:g.td with
  |nil=>
   simp_all
  |cons r rest=>
   dsimp only
   split
   .simp_all
   cases a:k8 C g r with
   |some k=>
    refine#[by lia,by lia,λq h=>?_]
    cases h;exact Od a
   |none=>
    obtain⟨⟨G,H⟩,p,F⟩:=oW f _;obtain⟨B,J⟩:=SX;have I:(vf C g rest r).left=g.left-1:=xB;exact#[#[UL G B,by simp_all],λh=>#[(p<|by lia).1,by dsimp only;lia],F]
theorem As(h:q∈u):(u.filter λk=>decide (k≠q)).length<u.length:=by
 rw[List.length_filter_lt_length_iff_exists]
 simp_all
theorem jb(o:C.Ok)(hs:SOk C s)(ht:SOk C t):∀(n:Nat)(g:Gs)(k:Gk)(M:Mem)(c:Nat)(Q:DK)(E:DX),GOk C g->0<=g.left->g.left<=C.most->(∀x∈g.u,x∈dw C)->g.u.length<n->M e=ap (eO ad L c)->k.Fr M->
  c+(dQ C s t n g).asks<=L->Q (dQ C s t n g).d (M.upd e<|eO ad L (c+(dQ C s t n g).asks))->ZP ad n [aS C s t,.ref k.a,.ref e] (gM ad k g M) Q E
 |0,g,k,M,c,Q,E,ok,h0,hm,hu,hn,he,hf,hc,h=>by lia
 |n+1,g,k,M,c,Q,E,ok,h0,hm,hu,hn,he,hf,hc,h=>by
  have G:=AS o (C.most+1) g ok;obtain⟨⟨hlen,Z⟩,hlft,X⟩:=oW (C:=C) (C.most+1) g;rw[Tq];unfold BI;refine#[rfl,am λQ' E' H _=>DN (f:=C.most+1) o ok h0 (by lia) (H _ _ ?_)]
  have fo:∀{q:Option aI}{M:Mem}{Q:DK},Q (Kz q) M->frz (Kz q) M Q:=λ{q} {M} {Q} z=>by
   cases q with
   |none=>exact z
   |some k=>cases k<;>exact z
  refine fo ?_;simp only[af,UN];unfold dQ at h hc;generalize hgo:cY C (C.most+1) g=go at *;obtain⟨a,J⟩:=go;dsimp only at *;unfold sB;cases a with
  |none=>
   refine#[rfl,aH (λ_ _ z=>vT o G z) #[bg (by simp),?_]]
   simp only[Tr.asks,Tr.d,Nat.add_zero,oO he]at h;exact#[M,λb ob eb=>dW hf eb,h]
  |some q=>
   have S:=X q rfl;have R:=hu q (Z q S);have fl:=As S;simp only[Tr.asks,Tr.d]at h hc;have nn:lY (kD q)=false:=by cases q<;>rfl
   simp_arith! only[ah,aC,ao,ai,ac,dC,Kz,ji,nn,aB,Uz,dt]
   rw[if_neg (by simp)]
   have lo:Vk ("one_more":Str) [(("limit":Str),D.int (L:Nat)),(("count":Str),D.int (c:Nat))]=none:=rfl;refine Fg (a:=e) (λK q=>q) (dW hf he) lo ?_;refine#[rfl,am λQ' E' H _=>jR (dW hf he) (by lia) (H _ _ ?_)]
   rw[uM hf he];have W:(M.upd e<|eO ad L (c+1)) e=ap (eO ad L (c+1)):=Mem.upd_same;have F:∀{o':MO},k.Fr (M.upd e o'):=λ{o'}=>#[by rw[ae (λz=>by rw[<- z,hf.a]at he;cases he)];exact hf.a,by rw[ae (λz=>by rw[<- z,hf.dn]at he;cases he)];exact hf.dn,by rw[ae (λz=>by rw[<- z,hf.lp]at he;cases he)];exact hf.lp,by rw[ae (λz=>by rw[<- z,hf.du]at he;cases he)];exact hf.du]
   refine#[rfl,am λQ' E' H _=>qx .of o hs ht G R S λk1 k2 p h1 I hp=>H _ _ (bG hp ?_)];generalize hg1:gr J q (aN C s q)=g1 at *;generalize hg2:gr J q (aN C t q)=g2 at *;have O:g1.u.length<n/\(∀x∈g1.u,x∈dw C)/\g1.left=J.left/\GOk C g1:=by
    rw[<- hg1];exact#[by rw[jg];lia,λx hx=>by rw[jg]at hx;simp_all,rT,Bl G<|dN o hs R]
   have P:g2.u.length<n/\(∀x∈g2.u,x∈dw C)/\g2.left=J.left/\GOk C g2:=by
    rw[<- hg2];exact#[by rw[jg];lia,λx hx=>by rw[jg]at hx;simp_all,rT,Bl G<|dN o ht R]
   rw[Jx I];have B:k2.Fr _:=#[(cq I.a).2.2.2.2,(cq I.dn).2.2.2.2,(cq I.lp).2.2.2.2,(cq I.du).2.2.2.2];obtain⟨a1,a2,a3,a4,_⟩:=cq I.a;obtain⟨b1,b2,b3,b4,_⟩:=cq I.dn;obtain⟨c1,c2,c3,c4,_⟩:=cq I.lp;obtain⟨d1,d2,d3,d4,_⟩:=cq I.du;have heN:gM ad k J (M.upd e<|eO ad L (c+1)) e=ap (eO ad L (c+1)):=dW F W;refine#[rfl,am λQ' E' H _=>jb o hs ht n g1 k1 _ (c+1) _ _ O.2.2.2 (by lia) (by lia) O.2.1 O.1 (dW B heN) #[by rw[pY a1.symm b1.symm c1.symm d1.symm];exact h1.a,by rw[pY a2.symm b2.symm c2.symm d2.symm];exact h1.dn,by rw[pY a3.symm b3.symm c3.symm d3.symm];exact h1.lp,by rw[pY a4.symm b4.symm c4.symm d4.symm];exact h1.du] (by lia) (H _ _ ?_)]
   rw[uM B heN,uM F W,Mem.upd_upd];have U:k2.Fr (gM ad k J<|M.upd e<|eO ad L (c+1+(dQ C s t n g1).asks)):=by
    have z:∀{b:eg},gM ad k J (M.upd e<|eO ad L (c+1)) b=ay->gM ad k J (M.upd e<|eO ad L (c+1+(dQ C s t n g1).asks)) b=none:=λ{b} hb=>by
     obtain⟨n1,n2,n3,n4,n5⟩:=cq hb;rw[pY n1 n2 n3 n4];have:b≠e:=λz=>by rw[z,Mem.upd_same]at n5;cases n5
     rw[ae this]at n5 ⊢;exact n5
    exact#[z B.a,z B.dn,z B.lp,z B.du]
   refine#[rfl,am λQ' E' H _=>jb o hs ht n g2 k2 _ (c+1+(dQ C s t n g1).asks) _ _ P.2.2.2 (by lia) (by lia) P.2.1 P.1 (dW F Mem.upd_same) U (by lia) (H _ _ ?_)]
   rw[uM F Mem.upd_same,Mem.upd_upd];refine#[bg (by simp),M.upd e (eO ad L (c+(1+(dQ C s t n g1).asks+(dQ C s t n g2).asks))),λb ob eb=>?_,h]
   have ec:c+1+(dQ C s t n g1).asks+(dQ C s t n g2).asks=c+(1+(dQ C s t n g1).asks+(dQ C s t n g2).asks):=by lia
   rw[ec];exact dW F eb
def g0(C:Cse)(s t:Sta):Gs:=#[C.names.zip s.nums,s.pieces,aK C s t,C.rows,(C.most:Nat)]
theorem sO(o:C.Ok):(aK C s t).Nodup:=by
 refine Yt _ ?_;show (dw C).Nodup;unfold dw;rw[Xq];refine#[?_,?_,?_]
 .exact YL _ (by lia) o.nd
 .exact YL _ (by lia) Yp
 intro a f b e z;obtain⟨x,_,rfl⟩:=UR.mp f;obtain⟨y,_,rfl⟩:=UR.mp e;cases z
theorem Kj:∀x∈aK C s t,x∈dw C:=λx e=>(Vd.mp e).1
theorem vS(o:C.Ok):(aK C s t).length<=200:=by
 have f:(aK C s t).length<=(dw C).length:=Vn _ _;have e:(dw C).length=C.names.length+C.many:=by simp[dw]
 have:=o.l1;have:=o.few;lia
theorem bM(o:C.Ok)(B:SOk C s)(F:SOk C t)(h:∀p,M p=ay->Q (.ref p) (M.upd p<|.lst<|(aK C s t).map kD)):lU ad [aS C s t] M Q E:=by
 exact#[rfl,am λQ' E' e _=>(λo H I h=>by
    have l1:=o.l1;have few:=o.few;have J:(dw C).length=C.names.length+C.many:=by simp[dw]
    refine#[rfl,am λQ' E' G _=>vL o λp f=>G _ _ (bG f ?_)];refine da (λd=>match cW d with|some k=>decide (aN C s k≠aN C t k)|none=>eC) id aL (by simp;lia) (λx F K q=>?_) (λx F _ K q=>q) ?_
    .obtain⟨k,B,rfl⟩:=UR.mp F
     refine#[rfl,aH (λ_ _ q=>dX o H B q) ?_];refine#[rfl,aH (λ_ _ q=>dX o I B q) ?_];refine#[rfl,rfl,?_];have e:cW (kD k)=ap k:=by cases k<;>rfl
     simp[e]at q
     assumption
    intro p f;have e:(((dw C).map kD).filter λd=>match cW d with|some k=>decide (aN C s k≠aN C t k)|none=>eC).map id=(aK C s t).map kD:=by
     rw[V3,Vx];congr 1;refine Wj λk _=>?_;cases k<;>rfl
    rw[e];exact ak (h p f)) o B F λp f=>e _ _ (ak<|h p f)]
theorem Th(o:C.Ok)(e:SOk C s):GOk C (g0 C s t):=#[(o.pl e).nok,e.lp,e.rp,o.ok]
theorem sdE:s.d=.tup [.tup (s.nums.map D.int),.tup (s.pieces.map D.int)]:=rfl
theorem yN(o:C.Ok)(hs:SOk C s)(ht:SOk C t)(h:∀k:Gk,k.Fr M->Q (.ref k.a) (gM ad k (g0 C s t) M)):AM ad [aS C s t] M Q E:=by
 have ul:=vS (s:=s) (t:=t) o;rw[Si];refine#[rfl,am λQ' E' U _=>bM o hs ht λp Z=>U _ _ (bG Z ?_)];refine gW (λd=>.tup [d,.bl true]) aL (by simp;lia) (λx f K q=>?_) ?_
 .exact#[bg (by simp),q]
 intro p Z;refine bG Z ?_;have e:((aK C s t).map kD).map (λd=>D.tup [d,.bl true])=(aK C s t).map λk=>D.tup [kD k,.bl true]:=by simp
 rw[e];have X:(([]:List (aI×D)).map (·.1)++(uD<|aK C s t).map (·.1)).Nodup:=by rw[tO];exact sO o
 simp_arith! only[h7,Ic,dI,kX,BS X]
 refine#[trivial,by simp[uD];lia,λR h3=>?_]
 simp[af];unfold tN
 simp_arith! only[az,iW,aa,ib,ai,ac,dC,dt,Uz,Ca,sdE,aw,aO,atI_0,atI_1,eK,UA]
 refine#[hs.ln.symm,o.l0,UL o.l1 (by decide),λP h1=>?_]
 have B:=Mem.ne Mem.upd_same h1;rw[ae B.symm]at h1;intro S O;have J:=Mem.ne Mem.upd_same O;rw[ae J.symm]at O;have G:=Mem.ne Mem.upd_same O;rw[ae G.symm]at O;refine#[rfl,aH (λ_ _ q=>eY (td:=[]) q) ?_];have ft:∀{l:List Rw}{M:Mem}{Q:DK},Q (qf l) M->frz (qf l) M Q:=λ{l} {M} {Q} q=>by cases l<;>exact q
 rw[Vl];refine ft ?_;refine#[rfl,λx f=>?_];have H:=Mem.ne Mem.upd_same f;rw[ae H.symm]at f;have I:=Mem.ne Mem.upd_same f;rw[ae I.symm]at f;have F:=Mem.ne Mem.upd_same f;rw[ae F.symm]at f;refine am λQ' E' U _=>pC (U _ _ ?_);rw[gO hs.ln.symm o.nd];have W:((((M.upd R<|.dK<|uD<|aK C s t).upd P<|.dK<|eE<|C.names.zip s.nums).upd S<|.lst<|s.pieces.map D.int).upd x<|.ins ad.C_Going [("numbers",.ref P),("pieces",.ref S),("unsettled",.ref R),("todo",qf C.rows),("left",.int C.most)])=gM ad #[x,P,S,R,I.symm,H.symm,F.symm,J,B.symm,G.symm] (g0 C s t) M:=by
  unfold gM gF g0;rw[aA H,aA I,aA F,aA B,aA G]
 rw[W];exact ak (h #[x,P,S,R,_,_,_,_,_,_] #[f,h1,O,h3])
def Cse.tree(C:Cse)(s t:Sta):Tr:=dQ C s t 24 (g0 C s t)
theorem Er(o:C.Ok)(f:SOk C s)(B:SOk C t)(ea:C.mark s=.int a)(p:C.mark t=.int b)(F:a≠b)(O:(aK C s t).length<24)(P:1+(C.tree s t).asks<=L)(h:Q (C.tree s t).d M):
  Ag ad [aS C s t,.int (L:Nat)] M Q E:=by
 refine#[rfl,aH (λ_ _ q=>o5 o f B ea p F q) #[rfl,λe G=>?_]];have I:b_ _ _ []=[(("limit":Str),D.int L)]:=rfl;refine am λQ' E' hq _=>?_;rw[u_q9];unfold Kw;simp![I];refine#[by decide,by decide,ak<|hq _ _ ?_]
 simp[SK];refine Fg (λK q=>q) Mem.upd_same rfl ?_;refine#[rfl,am λQ' E' hq _=>jR (c:=0) Mem.upd_same (by lia) (hq _ _ ?_)]
 rw[Mem.upd_upd];refine#[rfl,am λQ' E' hq _=>yN o f B λk J=>hq _ _ ?_];have H:∀{M:Mem}{Q:DK}{fs:List _},M k.a=ap (.ins ad.C_Going fs)->Q _ M->frz (.ref k.a) M Q:=λ{M Q fs} e z=>by simp_arith! only[frz,e];exact z
 refine H cV #[rfl,am λQ' E' hq _=>jb o f B 24 _ k _ 1 _ _ (Th o f) (by show (0:Int)<=C.most;lia) (YA _) Kj O Mem.upd_same J P (hq _ _ ?_)]
 rw[Mem.upd_upd];refine#[M,λb R p=>?_,h];rw[ae (Mem.ne p G)];exact p
theorem Dz(a b:Nat):XT (a:Int) (b:Int)=((a ||| b:Nat):Int):=by
 have f:(-(-(a:Int)-1)-1).toNat=a:=by lia
 have e:(-(-(b:Int)-1)-1).toNat=b:=by lia
 unfold XT W7 Builtin.bitNot;rw[(decide_eq_false<|by lia),(decide_eq_false<|by lia)]
 simp only[f,e];lia
theorem Go(a:Nat):W7 (a:Int) 1=((a % 2:Nat):Int):=by
 unfold W7
 simp_all
noncomputable def Je(b:Nat):Nat:=VW (b:Int)
def bf(b:Nat):List Nat:=(Vu<|Je b).filter λi=>b.testBit i
theorem Hg{b m:Nat}(h:b<2 ^ m):Je b<=m:=by
 unfold Je VW
 split
 .lia
 rw[Int.natAbs_natCast];have:=(Zu<|by lia).mpr h
 lia
theorem lj{b m:Nat}(h:b<2 ^ m):bf b=(Vu m).filter λi=>b.testBit i:=by
 obtain⟨d,rfl⟩:∃d,m=Je b+d:=#[m-Je b,by have:=Hg h;lia]
 unfold bf;rw[List.range_add,Yb];have:((Vu d).map (Je b+·)).filter b.testBit=[]:=by
  rw[Zf];intro i f;obtain⟨j,_,rfl⟩:=UR.mp f;have e:b<2 ^ Je b:=by
   unfold Je VW
   split
   .simp_all
   exact Nat.lt_log2_self
  rw[Nat.testBit_lt_two_pow (UM e<|VE (by decide)<|by lia)]
  simp
 rw[this,Vl]
theorem gX{b:Nat}(I:b<2 ^ 200)(h:∀p,M p=ay->Q (.ref p) (M.upd p<|.lst ((bf b).map λ(i:Nat)=>D.int (i:Int)))):wv ad [.int (b:Nat)] M Q E:=by
 have F:=Hg I;rw[R_];unfold BF
 simp_arith! only[az,aZ,dt,cN,UG,VF,Vf,Vc,VS]
 have B:(VW b)<=200:=by have:VW _<=200:=F;lia
 refine#[rfl,by lia,by lia,?_]
 refine da (λd=>match d with|.int i=>b.testBit i.toNat|_=>eC) id aL ?_ (λx f K q=>?_) (λx f _ K q=>q) ?_
 .simp[dD,UA];lia
 .simp only[dD,UR]at f
  obtain⟨i,O,rfl⟩:=f;rw[Zn]at q ⊢;have G:(b:Int) / 2 ^ ((i:Int)).toNat=(b / 2 ^ i:Nat):=by simp
  simp_arith! only[ao,ai,ac,dC,dt,Uz,PN,oI,md,G,Go,bX,dv,br,aR]
  simp[Nat.testBit_eq_decide_div_mod_eq]at q;have J:decide (((b / 2 ^ i % 2:Nat):Int)=1)=decide (b / 2 ^ i % 2=1):=by congr 1;exact propext (by lia)
  simp_all
 intro p H;have e:((dD 0<|Yu (VW b:Nat)).filter λd=>match d with|.int i=>b.testBit i.toNat|_=>eC).map id=(bf b).map λ(i:Nat)=>D.int i:=by
  rw[V3];unfold dD bf Je;rw[Vx];have:∀l:List _,l.map (λ(i:Nat)=>D.int (0+i))=l.map λ(i:Nat)=>D.int i:=λl=>VH (by lia)
  rw[this];congr 1;refine Wj λi _=>?_;simp
 rw[e];exact ak (h p H)
theorem mC{b:BxC (dE 2<|aP (af 0)<|aP (af 1) dh) dL te ok Q}{rest:Dl}(f:Nat->D->D)(B:ok M):∀(xs:List D)(j:Nat)(ab5:List D)(F e:Option D),ab5.length+xs.length<=100000->
  (∀(i:Nat) x,xs[i]?=ap x->∀K:DK,K (f (j+i) x) M->te (ap (.int ((j+i:Nat):Int))::ap x::rest) M K)->Q (ab5++(xs.zipIdx j).map λp=>f p.2 p.1) M->
  di (dE 2<|aP (af 0)<|aP (af 1) dh) dL te ok Q b (fH j xs) ab5 (F::e::rest) M
 |[],j,ab5,F,e,hl,he,h=>by
  unfold fH di;exact#[B,by simpa using h]
 |x::xs,j,ab5,F,e,hl,he,h=>by
  simp only[UO]at hl;unfold fH di;refine#[B,?_]
  simp_arith! only[dE,aP,dh,af,UN,dL,if_true]
  refine#[rfl,he 0 x rfl _ #[gn (by lia),?_]]
  refine mC f B xs (j+1) _ _ _ (by simp;lia) (λi y G K q=>?_) ?_
  .have:=he (i+1) y (by simpa using G) K (by rw[show j+(i+1)=j+1+i by lia];exact q)
   rw[show j+(i+1)=j+1+i by lia]at this
   exact this
  .simpa [XA] using h
structure Out where
 v:Str
 s:Nat
 f:Nat
noncomputable def E_(ad:Ad)(x:Out):MO:=.ins ad.C_Outcome [("verdict",.str x.v),("sound",.int (x.s:Nat)),("faulty",.int (x.f:Nat))]
def Ext(M M':Mem):Prop:=∀b o,M b=ap o->M' b=ap o
theorem Ext.refl:Ext M M:=λ_ _ e=>e
theorem Ext.trans{M1 M2:Mem}(a:Ext M M1)(b:Ext M1 M2):Ext M M2:=λx o e=>b x o (a x o e)
theorem Ext.no(h:Ext M M'){b:eg}(e:M' b=ay):M b=none:=by
 cases q:M b with
 |none=>rfl
 |some o=>rw[h b o q]at e;cases e
theorem Ext.new{b:eg}(h:M b=ay):Ext M (M.upd b o):=λx u e=>by rw[ae (Mem.ne e h)];exact e
theorem Ext.upd{b:eg}(x:Ext M M')(h:M b=ay):Ext M (M'.upd b o):=λc u e=>by rw[ae (Mem.ne e h)];exact x c u e
theorem Ext.del{b:eg}(x:Ext M M')(h:M b=ay):Ext M (M'.del b):=λc u e=>by unfold Mem.del;rw[if_neg (Mem.ne e h)];exact x c u e
inductive Lay(ad:Ad)(M:Mem):List eg->List Out->Prop
 |nil:Lay ad M [] []
 |cons {a:eg} {x:Out} {as:acb} {xs:List Out} (h:M a=ap (E_ ad x)) (t:Lay ad M as xs):Lay ad M (a::as) (x::xs)
theorem Lay.go{ad:Ad}{M M':Mem}:∀{as:acb}{xs:List Out},Lay ad M as xs->(∀a x,M a=ap (E_ ad x)->M' a=ap (E_ ad x))->Lay ad M' as xs
 |_,_,.nil,_=>.nil
 |_,_,.cons h t,g=>.cons (g _ _ h) (t.go g)
theorem Lay.snoc{ad:Ad}{M:Mem}{a:eg}{x:Out}(h:M a=ap (E_ ad x)):∀{as:acb}{xs:List Out},Lay ad M as xs->Lay ad M (as++[a]) (xs++[x])
 |_,_,.nil=>.cons h .nil
 |_,_,.cons h' t=>.cons h' (t.snoc h)
theorem Lay.length{ad:Ad}{M:Mem}:∀{as:acb}{xs:List Out},Lay ad M as xs->as.length=xs.length
 |_,_,.nil=>rfl
 |_,_,.cons _ t=>congrArg _ t.length
theorem xN{xs:List D}(h:M l=ap (.lst xs))(a:eg)(x:Out)(e:M a=ap (E_ ad x)):(M.upd l<|.lst ys) a=ap (E_ ad x):=by
 rw[ae (λz=>by rw[z,h]at e;cases e)];exact e
noncomputable def Lw(a b:Int)(m:D):Str:=if aR m (.int a)=true then "sound" else if aR m (.int b)=true then "faulty" else "other"
noncomputable def bitK(us:List aI)(q:aI):Nat:=2 ^ us.idxOf q
def gq(a b:Int)(us:List aI):Tr->Nat->Nat->List Out
 |.e m,S,F=>[#[Lw a b m,S,F]]
 |.a q x y,S,F=>gq a b us y S (F ||| bitK us q)++gq a b us x (S ||| bitK us q) F
def LG(us:List aI):Tr->Prop
 |.e m=>m=.non\/∃v,m=.int v
 |.a q x y=>q∈us/\LG us x/\LG us y
def gl:Tr->Nat
 |.e _=>1
 |.a _ x y=>1+gl x+gl y
def wD(w:Tr×Nat×Nat):D:=.tup [w.1.d,.int (w.2.1:Nat),.int (w.2.2:Nat)]
def yK(a b:Int)(us:List aI)(ws:List (Tr×Nat×Nat)):List Out:=(ws.map λw=>gq a b us w.1 w.2.1 w.2.2).flatten
def cZ(ws:List (Tr×Nat×Nat)):Nat:=(ws.map λw=>gl w.1).sum
theorem rS:∀t:Tr,1<=gl t
 |.e _=>UQ _
 |.a _ x y=>by unfold gl;lia
theorem TL:∀e:List (Tr×Nat×Nat),e.length<=cZ e
 |[]=>UQ _
 |w::e=>by
  have:=TL e;have:=rS w.1;simp[cZ]at *;lia
noncomputable def bD(us:List aI):List (aI×D):=us.zipIdx.map λp=>(p.1,D.int ((2 ^ p.2:Nat):Int))
theorem Ks:(bD us).map (·.1)=us:=by
 unfold bD;rw[Vq];exact List.zipIdx_map_fst 0 us
theorem OH(h:q∈us):dm (bD us) q=ap (.int ((bitK us q:Nat):Int)):=by
 have f:∀(l:List _)(j:Nat),q∈l->dm ((l.zipIdx j).map λp=>(p.1,D.int (2 ^ p.2))) q=ap (.int (2 ^ (j+l.idxOf q):Nat)):=by
  intro l
  induction l with
  |nil=>simp_all
  |cons a r ih=>
   intro j h;rw[XA,UG];unfold dm;rw[WG]
   by_cases e:a=q
   .simp_all
   have B:(a==q)=false:=by simpa using e
   simp only[e,decide_false];have:=ih (j+1) (by rcases UK.mp h with z|z;exact absurd z.symm e;exact z)
   unfold dm at this;rw[this,List.idxOf_cons,B];congr 4;simp;lia
 have:=f us 0 h;rw[WW]at this;exact this
theorem ye{x:eg}{y:Out}(h:Q .non (M.upd x<|E_ ad y)):LP ad [.ref x,.str y.v,.int (y.s:Nat),.int (y.f:Nat)] (M.upd x<|.ins ad.C_Outcome []) Q E:=by
 have p:b_ _ _ []=[(("verdict":Str),D.str y.v)]:=rfl;have e:b_ "sound" _ [("verdict",D.str y.v)]=[(("verdict":Str),D.str _),("sound",D.int y.s)]:=rfl;rw[u_q0];unfold JO;simp![Mem.upd_upd,p,e];exact#[by decide,by decide,by decide,ak h]
structure OK(ad:Ad)(M0:Mem)(us:List aI)(db lf lw:eg)(as:acb)(ds:List Out)(ws:List (Tr×Nat×Nat))(N:Mem):Prop where
 x:Ext M0 N
 f:M0 lf=ay
 w:M0 lw=ay
 b:M0 db=ay
 bd:N db=ap (.dK<|bD us)
 lf':N lf=ap (.lst<|as.map D.ref)
 lw':N lw=ap (.lst (ws.map wD).reverse)
 ne:lf≠lw
 nb:lf≠db
 ny:Lay ad N as ds
 few:as.length+cZ ws<=100000
 tr:∀w∈ws,LG us w.1
theorem wDE:wD (tr,S,F)=.tup [tr.d,.int (S:Nat),.int (F:Nat)]:=rfl
theorem G4{w:Tr×Nat×Nat}(I:OK ad M0 us J P B as ds (w::p) N)(h:∀as' ds' R N' c6 c7 c8 c9,OK ad M0 us J P B as' ds' R N'->cZ R<cZ (w::p)->ds'++yK a b us R=ds++yK a b us (w::p)->D'.nx [ap cs,ap ld,ap (.tup [.int a,.int b]),ap (.ref J),ap (.ref P),ap (.ref B),c6,c7,c8,c9] N'):
  iD ad EE D' [ap cs,ap ld,ap (.tup [.int a,.int b]),ap (.ref J),ap (.ref P),ap (.ref B),c6,c7,c8,c9] N:=by
 obtain⟨tr,S,F⟩:=w;have ew:((((tr,S,F)::p).map wD).reverse)=(p.map wD).reverse++[wD (tr,S,F)]:=by simp
 have O:=I.lw';rw[ew]at O;have Z:((p.map wD).reverse++[wD (tr,S,F)])[((p.map wD).reverse++[wD (tr,S,F)]).length-1]?=ap (wD (tr,S,F)):=by simp
 have X:=I.tr _ UP;have few:=I.few;have len:=TL p;simp only[cZ,UG,Wg]at few len;unfold iD
 simp_arith! only[ah,ar,jd,ac,ag,dt,Uz,cy,O,EH,Z,List.dropLast_concat]
 refine#[trivial,?_];unfold u_ t6
 simp_arith! only[ah,ar,ai,ac,dC,wDE,aw,aO,atI_1,atI_2,af,UN,dt,Uz]
 have I1:∀{u:D},(N.upd B<|.lst (p.map wD).reverse) P=ap _:=λ{u}=>by rw[ae I.ne];exact I.lf'
 have ex1:Ext M0 (N.upd B<|.lst (p.map wD).reverse):=I.x.upd I.w;have ny1:Lay ad (N.upd B<|.lst (p.map wD).reverse) as ds:=I.ny.go λa x=>xN O a x;have U:J≠B:=λz=>by have:=I.bd;simp_all
 have G:(N.upd B<|.lst (p.map wD).reverse) J=ap (.dK<|bD us):=by rw[ae U];exact I.bd
 generalize hN1:N.upd B _=N1 at *;have H:N1 B=ap (.lst (p.map wD).reverse):=by rw[<- hN1,Mem.upd_same]
 have J2:N1 P=ap _:=I1 (u:=.non);unfold tU;cases tr with
 |e m=>
  unfold ue
  simp_arith! only[aC,ao,ai,ac,dC,aw,aO,atI_0,atI_1,Tr.d,bX,dv,br,aR,if_true,dt,Uz,b6,jd,cy,J2,aa,iW,aq,aj,ag]
  refine#[trivial,trivial,trivial,rfl,aH (λ_ _ q=>me X q) ?_];refine (λz=>z) #[rfl,λx W=>am λQ' E' hq _=>ye (y:=#[Lw a b m,S,F]) (hq _ _ ?_)];have nx:P≠x:=Mem.ne J2 W;have nw:B≠x:=Mem.ne H W;have nd:J≠x:=Mem.ne G W
  simp_arith! only[ag,bv,ae nx,J2]
  refine#[by simp[gl]at *;exact gn (by lia),?_]
  refine h (as++[x]) (ds++[#[Lw a b m,S,F]]) p _ _ _ _ _ #[(ex1.upd<|ex1.no W).upd I.f,I.f,I.w,I.b,?_,?_,?_,I.ne,I.nb,?_,?_,λw hw=>I.tr w (UJ _ hw)] ?_ ?_
  .rw[ae (Vb I.nb),ae nd];exact G
  .rw[Mem.upd_same];simp
  .rw[ae (Vb I.ne),ae nw];exact H
  .refine Lay.snoc ?_ (ny1.go λa y e=>?_)
   .rw[ae (Vb nx),Mem.upd_same]
   .rw[ae (λz=>by rw[z,J2]at e;cases e),ae (Mem.ne e W)];exact e
  .simp only[cZ,UU,Wi,gl]at few ⊢;lia
  .simp[cZ,gl]
  .simp[yK,gq]
 |a q x y=>
  obtain⟨hq,htx,hty⟩:=X;have hne:decide (("ask":Str)=("end":Str))=false:=by decide +kernel
  have gd:uF N1 J (kD q)=ap (ap<|.int ((bitK us q:Nat):Int)):=by simp_arith! only[uF,G,fM,OH hq]
  unfold tH tD uk
  simp_arith! only[aC,ao,ai,ac,dC,aw,atI_0,atI_1,atI_2,atI_3,Tr.d,bX,dv,br,aR,hne,dt,Uz,ah,ar,aO,G,gd,af,UN,b6,jd,cy,H,aa,aQ,ag,oOr,md,Dz,bv,Mem.upd_same,Mem.upd_upd]
  refine#[trivial,trivial,?_];have hr:(p.map wD).reverse.length=p.length:=by simp
  refine#[trivial,bg (by simp),by rw[hr];exact gn (by lia),trivial,bg (by simp),by exact gn (by simp;lia),?_]
  have er:((p.map wD).reverse++[D.tup [x.d,.int ((S ||| bitK us q:Nat):Int),.int (F:Nat)]])++[D.tup [y.d,.int (S:Nat),.int ((F ||| bitK us q:Nat):Int)]]=(((y,S,F ||| bitK us q)::(x,S ||| bitK us q,F)::p).map wD).reverse:=by simp[wD]
  rw[er];refine h as ds _ _ _ _ _ _ #[ex1.upd I.w,I.f,I.w,I.b,by rw[ae U];exact G,by rw[ae I.ne];exact J2,Mem.upd_same,I.ne,I.nb,ny1.go λa x=>xN H a x,?_,?_] ?_ ?_
  .simp only[cZ,UG,Wg,gl]at few ⊢;lia
  .intro w hw
   rcases UK.mp hw with z|hw
   .rw[z];exact hty
   .rcases UK.mp hw with z|hw
    .rw[z];exact htx
    .exact I.tr w (by simp_all)
  .simp only[cZ,UG,Wg,gl];lia
  .simp[yK,gq]
section
variable{t:Sta}
theorem wj{us:List aI}{a b:Int}{R P:D}{J G H:eg}{M0:Mem}{D':DEnds}{EE:DX}{bx:BxW (cz<|ac 5) (iD ad EE) D'}:∀(n:Nat)(as:acb)(ds:List Out)(ws:List (Tr×Nat×Nat))(N:Mem)(B p e f:Option D),cZ ws<=n->OK ad M0 us J G H as ds ws N->
  (∀F N' B p e f,OK ad M0 us J G H F (ds++yK a b us ws) [] N'->D'.nx [ap R,ap P,ap (.tup [.int a,.int b]),ap (.ref J),ap (.ref G),ap (.ref H),B,p,e,f] N')->
  cu (cz<|ac 5) (iD ad EE) D' bx (n+1) [ap R,ap P,ap (.tup [.int a,.int b]),ap (.ref J),ap (.ref G),ap (.ref H),B,p,e,f] N
 |n,as,ds,[],N,B,p,e,f,hn,I,h=>by
  refine whF (λK q=>?_) (h as N B p e f<|by simpa [yK] using I)
  simp_arith! only[cz,ac,dt,Uz,EY,I.lw']
  exact q
 |0,as,ds,w::ws,N,B,p,e,f,hn,I,h=>by
  have:=rS w.1;simp[cZ]at hn;lia
 |n+1,as,ds,w::ws,N,B,p,e,f,hn,I,h=>by
  refine whT (λK q=>?_) (G4 I λF Z ws' N' d6 X S d9 I' hlt he=>?_)
  .have:((((w::ws).map wD).reverse).isEmpty)=false:=by simp
   simp_arith! only[cz,ac,dt,Uz,EY,I.lw',this]
   exact q
  exact wj n _ _ _ N' d6 X S d9 (by lia) I' λO N2 W U e8 e9 I2=>h O N2 W U e8 e9 (by simp_all)
theorem rV:∀(n:Nat)(g:Gs),(∀x∈g.u,x∈us)->LG us (dQ C s t n g)
 |0,g,h=>.inl rfl
 |n+1,g,h=>by
  obtain⟨⟨p,F⟩,f,B⟩:=oW (C:=C) (C.most+1) g;unfold dQ;cases e:(cY C _ g).1 with
  |none=>
   show Sc C _=.non\/_;unfold Sc
   split
   .simp_all
   simp_all
  |some q=>
   have hs:∀v,∀x∈(gr (cY C (C.most+1) g).2 q v).u,x∈us:=λv x G=>by rw[jg]at G;simp_all
   exact#[by simp_all,rV n _ (hs _),rV n _<|hs _]
theorem oK:∀t:Tr,gl t=2*t.asks+1
 |.e _=>rfl
 |.a _ x y=>by unfold gl Tr.asks;rw[oK x,oK y];lia
theorem qH:∀(us:List aI)(j:Nat),wz ((us.zipIdx j).map λp=>D.tup [kD p.1,.int ((2 ^ p.2:Nat):Int)])=ap ((us.zipIdx j).map λp=>(p.1,D.int ((2 ^ p.2:Nat):Int)))
 |[],_=>rfl
 |k::ks,j=>by simp only[XA,UG,wz,fM,qH ks _]
theorem qy(o:C.Ok)(U:SOk C s)(S:SOk C t)(ea:C.mark s=.int a)(eb:C.mark t=.int b)(J:a≠b)(hu:(aK C s t).length<24)(hc:1+(C.tree s t).asks<=L)(hL:L<=10000)(h:∀p as N,Ext M N->N p=ap (.lst<|as.map D.ref)->M p=ay->Lay ad N as (gq a b (aK C s t) (C.tree s t) 0 0)->Q (.ref p) N):BR ad [aS C s t,.int (L:Nat)] M Q E:=by
 have ft:∀{xs:List D}{M:Mem}{Q:DK},Q _ M->frz (.tup xs) M Q:=λz=>z;refine#[rfl,aH (λ_ _ q=>o5 o U S ea eb J q)<|ft ?_];refine#[rfl,am λQ' E' hq _=>bM o U S λp P=>hq _ _ (bG P ?_)]
 simp_arith! only[aO,fV]
 refine mC (λi d=>.tup [d,.int (2 ^ i:Nat)]) aL _ 0 [] _ _ (by simp;lia) (λi x Z K q=>?_) ?_
 .have hi:i<200:=by
   have h1:i<((aK C s t).map kD).length:=by
    rcases VX i _ with z|z
    .exact z
    simp_all
   rw[UA]at h1;lia
  refine#[#[by lia,by lia,by decide],bg (by simp),?_]
  simp_all
 intro p P;refine bG P ?_;have e:[]++(((aK C s t).map kD).zipIdx 0).map (λp=>D.tup [p.1,.int (2 ^ p.2:Nat)])=((aK C s t).zipIdx 0).map λp=>D.tup [kD p.1,.int (2 ^ p.2:Nat)]:=by
  rw[Yw,Vq];rfl
 rw[e];have R:(([]:List (aI×D)).map (·.1)++(bD<|aK C s t).map (·.1)).Nodup:=by rw[Ks];exact sO o
 have F:=BS R
 simp_arith! only[h7,Ic,dI,qH]
 refine#[trivial,by simp;lia,λdb H=>?_]
 have G:(List.foldl _ []<|List.map (λp=>(p.1,D.int _))<|List.zipIdx _)=bD _:=F;rw[G];refine#[by trivial,λO B=>?_]
 have n1:=Mem.ne Mem.upd_same B;rw[ae n1.symm]at B;refine#[rfl,aH (λ_ _ q=>Er o U S ea eb J hu hc q) #[bg (by simp),bg (by simp),λW f=>?_]]
 have n2:=Mem.ne Mem.upd_same f;rw[ae n2.symm]at f;have X:=Mem.ne Mem.upd_same f;rw[ae X.symm]at f;have I:OK ad M (aK C s t) db O W [] [] [(C.tree s t,0,0)] (((M.upd db _).upd O<|.lst []).upd W _):=
  #[((Ext.new H).upd B).upd f,B,f,H,by rw[ae X,ae n1,Mem.upd_same],by rw[ae n2,Mem.upd_same];rfl,Mem.upd_same,n2,n1.symm,.nil,by simp[cZ,UG,VF,Wg,List.sum_nil,V0,oK];lia,λw hw=>by
   rcases UK.mp hw with z|z
   .rw[z];exact rV 24 _ λx Z=>Z
   cases z]
 refine#[_,wj _ _ _ _ _ _ _ _ _ (UQ _) I λas' N' c6 c7 c8 c9 I'=>?_];refine ak (h O _ N' I'.x I'.lf' B ?_);simpa [yK] using I'.ny
end
def fct:Nat->Nat
 |0=>1
 |n+1=>fct n*(n+1)
theorem jL:∀n,0<fct n
 |0=>by decide
 |n+1=>Xt (jL n) (by lia)
theorem o8:∀{a b:Nat},a<=b->fct a<=fct b:=by
 intro a b h
 induction b with
 |zero=>
  simp_all
 |succ b ih=>
  by_cases e:a=b+1
  .simp_all
  exact UL (by lia) (Nat.le_mul_of_pos_right _<|by lia)
theorem ik{a:Nat}(h:a<=20):((fct a:Nat):Int)<2 ^ 64:=by
 have f:=o8 h;have e:fct 20<2 ^ 64:=by decide
 exact_mod_cast (by lia)
def gB(n:Nat):List D:=(Vu (n+1)).map λi=>D.int ((fct i:Nat):Int)
theorem jP(h:i<=n):fm (gB n) (i:Int)=ap (.int ((fct i:Nat):Int)):=by
 rw[bz (by lia),gB,UH,Wb (by lia)];rfl
theorem iN:fm (gB n) (-1)=ap (.int ((fct n:Nat):Int)):=by
 have e:(gB n).length=n+1:=by simp[gB]
 rw[yu];unfold atI ve;rw[if_neg (by decide),e,if_pos (by lia)]
 have:((-1:Int)+(n+1:Nat)).toNat=n:=by lia
 rw[this];show (gB n)[n]?=_;rw[gB,UH,Wb (by lia)];rfl
theorem fj(I:n<=20)(h:∀p,M p=ay->Q (.ref p) (M.upd p<|.lst<|gB n)):vM ad [.int (n:Nat)] M Q E:=by
 refine#[by trivial,λp G=>#[by lia,by lia,?_]]
 refine cA (λB Y N=>∃(c:Option D)(j:Nat),j<=n/\B=(Vu (n-j)).map (λi=>D.int (j+i:Nat))/\Y=[ap _,ap _,c]/\N=M.upd p (.lst<|gB j)) (λ_ _ _ _=>aL) ?_ ?_ _ _ _ #[_,0,by lia,?_,rfl,rfl]
 .rintro Y N ⟨c,j,H,e,rfl,rfl⟩
  have:j=n:=by
   have:=congrArg V8 e;simp at this;lia
  subst this;exact ak (h p G)
 .rintro y B Y N ⟨c,j,H,e,rfl,rfl⟩ D' F _ _ _
  have f:j<n:=by
   rcases VX j n with z|z
   .exact z
   simp_all
  rw[show n-j=(n-(j+1))+1 by lia,Ze]at e
  simp at e;obtain⟨rfl,rfl⟩:=e;unfold uY
  simp_arith! only[af,UN,b6,jd,ac,aa,ai,dC,qk,dt,Uz,cy,Mem.upd_same,aw,aO,iN,aU,cB,bv]
  refine#[trivial,.inl #[by lia,(ik<|by lia)],by simp[gB];exact gn (by lia),F _ _ #[_,_,f,?_,rfl,?_]]
  .refine VH λi _=>?_
   simp only[Function.comp];congr 2;lia
  unfold gB;rw[List.range_succ (n:=j+1)];simp[fct]
 rfl
theorem vO{n d:Int}{EE:DX}{D':DEnds}{G:BxW (ao<|ai fX (ac 3)<|dC<|.int 0) (ph ad EE) D'}:∀(f:Nat)(v r:Nat)(p:Option D),r<f->r<v->(∀p,D'.nx [ap (.int n),ap (.int d),ap (.int ((Wx v r:Nat):Int)),ap (.int 0),p] M)->
  cu (ao<|ai fX (ac 3)<|dC<|.int 0) (ph ad EE) D' G (f+1) [ap (.int n),ap (.int d),ap (.int (v:Nat)),ap (.int (r:Nat)),p] M
 |0,v,r,p,hf,hv,h=>by lia
 |f+1,v,r,p,hf,hv,h=>by
  have B:∀K:Bool->Mem->Prop,K (!decide (((r:Nat):Int)=0)) M->ao (ai fX (ac 3)<|dC<|.int 0) [ap (.int n),ap (.int d),ap (.int (v:Nat)),ap (.int (r:Nat)),p] M K:=λK q=>by
   simp_arith! only[ao,ai,ac,dC,fX,dv,br,aR,dt,Uz]
   exact#[trivial,trivial,q]
  by_cases F:r=0
  .subst F
   refine whF (λK q=>B K (by simpa using q)) ?_
   have:=h p;rw[Nat.gcd_zero_right]at this;exact this
  .refine whT (λK q=>B K (by
    have:¬((r:Nat):Int)=0:=by lia
    rw[decide_eq_false this];exact q)) ?_
   unfold ph yU;have e:((v:Nat):Int) % ((r:Nat):Int)=((v % r:Nat):Int):=by simp
   simp_arith! only[ah,ar,ai,ac,af,UN,dR,oI,dt,Uz,e]
   refine#[by lia,vO f r (v % r) _ ?_ ?_ λp=>?_]
   .have:=Nat.mod_lt v (show r>0 by lia);lia
   .exact Nat.mod_lt v (by lia)
   .have:=h p
    rw[Nat.gcd_comm v r,Nat.gcd_rec,Nat.gcd_comm]at this;exact this
theorem lF(f:0<d)(B:d<2 ^ 190)(h:Q (.tup [.int (n / ((Wx d (n % (d:Int)).toNat:Nat):Int)),.int (((d:Nat):Int) / ((Wx d (n % (d:Int)).toNat:Nat):Int))]) M):Lz ad [.int n,.int (d:Nat)] M Q E:=by
 rw[u_q1];unfold Lh yg yf;have G:=VL n (show (d:Int)≠0 by lia)
 have I:=VM n (show 0<(d:Int) by lia)
 have p:n % d=((n % d).toNat):=by lia
 simp_arith! only[ah,ar,ai,ac,af,UN,dR,oI,dt,Uz]
 refine#[by lia,(n % d).toNat+2,?_]
 rw[p];have F:0<Wx d (n % d).toNat:=Zd _ f;refine vO _ d _ _ (by lia) (by lia) λH=>?_
 have e:((Wx d (n % d).toNat):Int)<2 ^ 200:=by
  exact_mod_cast (WL (Nat.gcd_le_left _ f)<|by lia)
 exact#[#[by lia,e],#[by lia,e],bg (by simp),ak h]
mutual
theorem zn:∀(d:D)(n:Nat),br n d=true->aR d d=true
 |.non,_,_=>rfl
 |.bl b,_,_=>by simp[aR]
 |.int i,_,_=>by simp[aR]
 |.str x,_,_=>by simp[aR]
 |.tup xs,n+1,h=>by simp only[aR];exact yy xs n (by simpa [br] using h)
 |.lst xs,n+1,h=>by simp only[aR];exact yy xs n (by simpa [br] using h)
 |.tup xs,0,h=>by simp[br]at h
 |.lst xs,0,h=>by simp[br]at h
 |.ty x,n,h=>by cases n<;>simp[br]at h
 |.ref x,n,h=>by cases n<;>simp[br]at h
 |.mt x,n,h=>by cases n<;>simp[br]at h
 |.ml x,n,h=>by cases n<;>simp[br]at h
theorem yy:∀(ds:List D)(n:Nat),fits n ds=true->eW ds ds=true
 |[],_,_=>by simp[eW]
 |d::ds,n,h=>by
  simp only[fits,VU]at h;simp only[eW,zn d n h.1,yy ds n h.2,Bool.and_self]
end
def ya(n:Nat)(x:Out)(i:Nat):Int:=
 (if x.f.testBit i=true then ((fct n / fct ((bf x.f).length+(bf x.s).length)*fct ((bf x.f).length-1)*fct (bf x.s).length:Nat):Int) else 0)
 - (if x.s.testBit i=true then ((fct n / fct ((bf x.f).length+(bf x.s).length)*fct (bf x.f).length*fct ((bf x.s).length-1):Nat):Int) else 0)
def qi(n:Nat)(xs:List Out)(i:Nat):Int:=(xs.map λx=>ya n x i).sum
noncomputable def cU(n:Nat)(T:Nat->Int):List D:=(Vu n).map λi=>D.int (T i)
structure OutOk(n:Nat)(x:Out):Prop where
 s:x.s<2 ^ n
 f:x.f<2 ^ n
 l:(bf x.f).length+(bf x.s).length<=n
theorem wX(h:j<n):(cU n T).set j (.int v)=cU n λi=>if i=j then v else T i:=by
 unfold cU;refine WT λi=>?_;rw[Xr]
 by_cases e:j=i
 .subst e
  rw[if_pos rfl,UH,Wb h];simp[h]
 rw[if_neg e,UH,UH]
 by_cases f:i<n
 .rw[Wb f]
  have:¬i=j:=λz=>e z.symm;simp[this]
 simp_all
theorem nE(h:j<n):(cU n T)[j]?=ap (.int<|T j):=by
 unfold cU;rw[UH,Wb h];rfl
theorem Cb{b:Nat}:(bf b).Nodup:=Yt _ Yp
theorem fQ{b:Nat}(h:b<2 ^ n):i∈bf b↔i<n/\b.testBit i=true:=by
 rw[lj h,Vd,Wc]
theorem pM{n:Nat}{D':DEnds}{lt:eg}{H:av}{ok:Mem->Prop}{R:BxF (af 10) H D' ok}{v:Int}{δ0:Dl}{P:Prop}(p:∀M,ok M)(G:δ0.length=10)
  (F:P->∀(j:Nat)(T:Nat->Int)(N:Mem)(D2:DEnds),j<n->N lt=ap (.lst<|cU n T)->D2.nx (δ0++[ap (.int (j:Nat))]) (N.upd lt<|.lst (cU n λi=>if i=j then T i+v else T i))->H D2 (δ0++[ap (.int (j:Nat))]) N):
  ∀(f:List Nat)(T:Nat->Int)(N:Mem)(c:Option D),(f≠[]->P)->(∀j∈f,j<n)->f.Nodup->N lt=ap (.lst<|cU n T)->(∀c,D'.nx (δ0++[c]) (N.upd lt<|.lst (cU n λi=>T i+if i∈f then v else 0)))->
  eV (af 10) H D' ok R (f.map λ(j:Nat)=>D.int (j:Int)) (δ0++[c]) N
 |[],T,N,c,hP,hj,nd,hN,h=>by
  unfold eV;refine#[p _,?_];have:=h c;simp only[Wq,if_false,Int.add_zero]at this;rw[oO hN]at this;exact this
 |j::f,T,N,c,hP,hj,nd,hN,h=>by
  unfold eV;refine#[p _,?_];have J:(δ0++[c]).set 10 (ap<|.int (j:Int))=δ0++[ap (.int (j:Int))]:=by
   rw[List.set_append_right _ _ (by lia),G];rfl
  simp only[af,J];have B:=VQ.mp nd;refine F (hP<|by simp) j T N _ (hj j UP) hN ?_
  refine pM p G F f _ _ _ (λ_=>hP (by simp)) (λx O=>hj x (UJ _ O)) B.2 Mem.upd_same λc=>?_
  rw[Mem.upd_upd];have e:(λi=>(if i=j then T i+v else T i)+if i∈f then v else 0)=λi=>T i+if i∈j::f then v else 0:=by
   funext i
   by_cases I:i=j
   .subst I
    simp[B.1]
   .simp[I]
  rw[e];exact h c
theorem FA{x:Out}{a:eg}(hn:n<=20)(H:OutOk n x)(ha:N a=ap (E_ ad x))(hl:N lt=ap (.lst<|cU n T))(h:∀c7 c8 c9 G,D'.nx [ap W,ap U,ap X,ap (.ref lt),ap B,ap (.lst<|gB n),ap (.ref a),c7,c8,c9,G] (N.upd lt<|.lst (cU n λi=>T i+ya n x i))):
  iL ad EE D' [ap W,ap U,ap X,ap (.ref lt),ap B,ap (.lst<|gB n),ap (.ref a),c7,c8,c9,G] N:=by
 have hx1:=H.l;have p1:x.f<2 ^ 200:=UM H.f (VE (by decide)<|UL hn<|by decide)
 have p2:x.s<2 ^ 200:=UM H.s (VE (by decide)<|UL hn<|by decide)
 have f1:Vk ("faulty":Str) [(("verdict":Str),D.str x.v),(("sound":Str),D.int (x.s:Nat)),(("faulty":Str),D.int (x.f:Nat))]=ap (.int (x.f:Nat)):=rfl;have f2:Vk ("sound":Str) [(("verdict":Str),D.str x.v),(("sound":Str),D.int (x.s:Nat)),(("faulty":Str),D.int (x.f:Nat))]=ap (.int (x.s:Nat)):=rfl;unfold E_ at ha;unfold iL;generalize hK5:mH ad EE=K5
 simp_arith! only[ah,ar,aq,aj,aa,aW,ac,ag,dt,Uz,ha,f1]
 refine#[trivial,rfl,am λQ' E' hq _=>gX p1 λp Z=>hq _ _ (bG Z ?_)];simp only[af,UN];rw[<- hK5];unfold mH;generalize hK4:mw ad EE=K4
 simp_arith! only[ah,ar,aq,aj,aa,aW,ac,ag,dt,Uz,ha,f2]
 refine#[trivial,rfl,am λQ' E' hq _=>gX p2 λp Z=>hq _ _ (bG Z ?_)];simp only[af,UN];rw[<- hK4];unfold mw;generalize hK3:mE ad EE=K3;generalize I:(bf x.f).length=al at *;generalize R:(bf x.s).length=zl at *;have la:∀(l:List Nat),(l.map λ(i:Nat)=>D.int (i:Int)).length=l.length:=λl=>by simp
 have eaz:((al:Nat):Int)+((zl:Nat):Int)=((al+zl:Nat):Int):=by lia
 simp_arith! only[ah,ar,ai,ac,bc,aa,ag,dC,aq,qk,dt,Uz,bj,aO,aw,iN,la,I,R,aU,frz,eaz,jP (show al+zl<=n by lia),gR,oI,IQ,af,UN]
 have fb:=ik (a:=al+zl) (by lia)
 have fp:=jL (al+zl);refine#[#[by lia,Int.lt_trans fb<|by decide],?_]
 have ee:((fct n:Nat):Int) / ((fct (al+zl):Nat):Int)=((fct n / fct (al+zl):Nat):Int):=by simp
 rw[ee,<- hK3];unfold mE um t9;have hz:zl<=n:=by lia
 have b1:=ik (a:=zl) (by lia)
 have b2:=ik (a:=al) (by lia)
 refine pM (n:=n) (lt:=lt) (P:=0<al) (δ0:=[ap W,ap U,ap X,ap (.ref lt),ap B,ap (.lst<|gB n),ap (.ref a),ap _,ap _,ap _]) (v:=((fct n / fct (al+zl)*fct (al-1)*fct zl:Nat):Int)) (λ_=>aL) rfl (λhP j T N D2 F hN q=>?_) (bf x.f) T N G (λz=>?_) (λj F=>((fQ H.f).mp F).1) Cb hl λc=>?_
 .have e1:((al:Nat):Int)-1=((al-1:Nat):Int):=by lia
  have b3:=ik (a:=al-1) (by lia)
  have O:((fct n / fct (al+zl):Nat):Int)*((fct (al-1):Nat):Int)*((fct zl:Nat):Int)=((fct n / fct (al+zl)*fct (al-1)*fct zl:Nat):Int):=by simp
  simp only[Vf,Vc]at q ⊢
  simp_arith! only[vx,ac,ai,bc,aa,ag,dC,dt,Uz,FS,hN,UW,nE F,bj,aO,aw,la,I,R,gu,md,e1,jP (show al-1<=n by lia),jP hz,cB,qG,O,kL]
  have ix:ve (cU n T).length ((j:Nat):Int)=ap j:=by rw[fh (by lia) (by simp[cU];exact F),UW]
  simp only[Sz,ix,wX F,O];refine#[by lia,.inr #[by lia,b3],.inr #[by lia,b1],?_]
  have J:(λi=>if i=j then T j+((fct n / fct (al+zl)*fct (al-1)*fct zl:Nat):Int) else T i)=λi=>if i=j then T i+((fct n / fct (al+zl)*fct (al-1)*fct zl:Nat):Int) else T i:=by
   funext i
   by_cases e:i=j
   .subst e;rfl
   .simp[e]
  rw[J];exact q
 .rw[<- I];exact Zv.mpr z
 .refine pM (n:=n) (lt:=lt) (P:=0<zl) (δ0:=[ap W,ap U,ap X,ap (.ref lt),ap B,ap (.lst<|gB n),ap (.ref a),ap _,ap _,ap _]) (v:=-((fct n / fct (al+zl)*fct al*fct (zl-1):Nat):Int)) (λ_=>aL) rfl (λhP j T N D2 F hN q=>?_) (bf x.s) _ _ c (λz=>?_) (λj F=>((fQ H.s).mp F).1) Cb Mem.upd_same λc=>?_
  .have e1:((zl:Nat):Int)-1=((zl-1:Nat):Int):=by lia
   have b3:=ik (a:=zl-1) (by lia)
   have O:((fct n / fct (al+zl):Nat):Int)*((fct al:Nat):Int)*((fct (zl-1):Nat):Int)=((fct n / fct (al+zl)*fct al*fct (zl-1):Nat):Int):=by simp
   simp only[Vf,Vc]at q ⊢
   simp_arith! only[vx,ac,ai,bc,aa,ag,dC,dt,Uz,FS,hN,UW,nE F,bj,aO,aw,la,I,R,gu,md,e1,jP (show zl-1<=n by lia),jP (show al<=n by lia),cB,qG,O,kL]
   have ix:ve (cU n T).length ((j:Nat):Int)=ap j:=by rw[fh (by lia) (by simp[cU];exact F),UW]
   simp only[Sz,ix,wX F,O];refine#[by lia,.inr #[by lia,b2],.inr #[by lia,b3],?_]
   have J:(λi=>if i=j then T j-((fct n / fct (al+zl)*fct al*fct (zl-1):Nat):Int) else T i)=λi=>if i=j then T i+-((fct n / fct (al+zl)*fct al*fct (zl-1):Nat):Int) else T i:=by
    funext i
    by_cases e:i=j
    .subst e;simp[Int.sub_eq_add_neg]
    .simp[e]
   rw[J];exact q
  .rw[<- R];exact Zv.mpr z
  .rw[Mem.upd_upd]
   have J:cU n (λi=>(T i+if i∈bf x.f then ((fct n / fct (al+zl)*fct (al-1)*fct zl:Nat):Int) else 0)+if i∈bf x.s then -((fct n / fct (al+zl)*fct al*fct (zl-1):Nat):Int) else 0)=cU n λi=>T i+ya n x i:=by
    unfold cU;refine VH λi S=>?_;have S:=Wc.mp S;congr 1;unfold ya;rw[I,R];have m1:=propext #[λz=>((fQ H.f).mp z).2,λz=>(fQ H.f).mpr #[S,z]];simp only[m1,(propext #[λz=>((fQ H.s).mp z).2,λz=>(fQ H.s).mpr #[S,z]])]
    split<;>split<;>lia
   rw[J];exact h _ _ _ _
noncomputable def RB(N:Mem)(a:eg):Bool:=match N a with
 |some (.ins _ fs)=>match fs.lookup ("verdict":Str) with
  |some (.str v)=>decide (v=("faulty":Str))
  |_=>eC
 |_=>eC
theorem Ig{a:eg}{x:Out}(h:N a=ap (E_ ad x)):RB N a=decide (x.v=("faulty":Str)):=by
 unfold RB;rw[h];rfl
theorem Lay.filt{ad:Ad}:∀{as:acb}{xs:List Out},Lay ad N as xs->Lay ad N (as.filter<|RB N) (xs.filter λx=>decide (x.v=("faulty":Str)))
 |_,_,.nil=>.nil
 |_,_,.cons (x:=x) h t=>by
  have e:=Ig h;have f:=t.filt
  by_cases c:x.v="faulty"
  .rw[Y7 (by rw[e];simpa using c),Y7 (by simpa using c)]
   exact .cons h f
  rw[Y8 (by rw[e];simpa using c),Y8 (by simpa using c)]
  exact f
theorem Lay.mem{ad:Ad}{c:eg}:∀{as:acb}{xs:List Out},Lay ad N as xs->c∈as->∃y,N c=ap (E_ ad y)
 |_,_,.nil,h=>by cases h
 |_,_,.cons h t,hc=>by
  rcases UK.mp hc with z|z
  .rw[z];exact#[_,h]
  exact t.mem z
theorem ko{a b:Int}:∀(t:Tr){S F:Nat},(gq a b us t S F).length=t.asks+1
 |.e m,S,F=>rfl
 |.a q x y,S,F=>by unfold gq Tr.asks;rw[UU,ko x,ko y];lia
theorem wQ{n:Nat}{lt:eg}{O J P p:D}{D':DEnds}{EE:DX}{ok:Mem->Prop}{bx:BxF (af 6) (iL ad EE) D' ok}(R:n<=20)(B:∀M,ok M):∀(as:acb)(xs:List Out)(T:Nat->Int)(N:Mem)(I H F G f:Option D),Lay ad N as xs->(∀x∈xs,OutOk n x)->N lt=ap (.lst<|cU n T)->
  (∀I H F G f,D'.nx [ap O,ap J,ap P,ap (.ref lt),ap p,ap (.lst<|gB n),I,H,F,G,f] (N.upd lt<|.lst (cU n λi=>T i+qi n xs i)))->
  eV (af 6) (iL ad EE) D' ok bx (as.map D.ref) [ap O,ap J,ap P,ap (.ref lt),ap p,ap (.lst<|gB n),I,H,F,G,f] N
 |_,_,T,N,I,H,F,G,f,.nil,hx,hl,h=>by
  have:=h I H F G f;simp[qi]at this;rw[oO hl]at this;exact#[B _,this]
 |_,_,T,N,I,H,F,G,f,.cons (xs:=xs) ha ht,hx,hl,h=>by
  refine#[B _,?_];refine FA R (by simp_all) ha hl λd7 d8 d9 d10=>?_
  refine wQ R B _ xs _ _ _ _ _ _ _ (ht.go λb y e=>xN hl b y e) (by simp_all) Mem.upd_same λX U S Z W=>?_
  simp[Int.add_assoc];exact(h X U S Z _)
theorem j8(o:C.Ok)(hs:SOk C s)(ht:SOk C t)(ea:C.mark s=.int a)(eb:C.mark t=.int b)(hab:a≠b)(hu:(aK C s t).length<=20)(hc:1+(C.tree s t).asks<=L)(hL:L<=10000)(H:∀x∈(gq a b (aK C s t) (C.tree s t) 0 0).filter (λx=>decide (x.v=("faulty":Str))),OutOk (aK C s t).length x)(h:∀p,M p=ay->Q (.ref p) (M.upd p<|.lst<|cU (aK C s t).length<|qi (aK C s t).length ((gq a b (aK C s t) (C.tree s t) 0 0).filter λx=>decide (x.v=("faulty":Str))))):qY ad [aS C s t,.int (L:Nat)] M Q E:=by
 rw[T4];unfold B5;generalize G:kj ad _=K10;refine#[rfl,am λQ' E' F _=>bM o hs ht λp I=>F _ _ (bG I ?_)];rw[<- G];unfold kj;generalize W:nk ad _=K9;refine gW _ aL (by simp;lia) (λx H K q=>q) ?_
 intro lt hlt;have e0:((aK C s t).map kD).map (λ_=>D.int 0)=cU (aK C s t).length λ_=>0:=by
  unfold cU;refine List.ext_getElem (by simp) λi h1 h2=>?_
  simp
 rw[<- W];unfold nk;generalize Z:nK ad _=K8;refine#[rfl,am λQ' E' F _=>qy o hs ht ea eb hab (by lia) hc hL λp J N ex I O ny=>F _ _ ?_]
 have nl:lt≠p:=λz=>by simp_all
 have hlt':=ex _ _ Mem.upd_same
 simp_arith! only[frz,I]
 have B:Lay ad (N.del p) J _:=ny.go λc y e=>by unfold Mem.del;rw[if_neg (λz=>by rw[z,I]at e;cases e)];exact e
 have P:(N.del p) lt=ap (.lst (cU (aK C s t).length λ_=>0)):=by unfold Mem.del;simp_all
 have ex1:=ex.del O;generalize N.del p=N1 at *;have al:=B.length;have hal:J.length<=100000:=by rw[al,ko];lia
 refine da (λd=>match d with|.ref a=>RB N1 a|_=>eC) id aL (by simp_all) (λx H K q=>?_) (λx H _ K q=>q) ?_
 .obtain⟨c,X,rfl⟩:=UR.mp H
  obtain⟨y,hy⟩:=B.mem X;have l1:Vk ("verdict":Str) [("verdict",D.str y.v),("sound",D.int y.s),("faulty",D.int y.f)]=ap _:=rfl;unfold E_ at hy
  simp_arith! only[ao,ai,aW,ac,dC,dt,hy,l1,bX,dv,br,aR]
  exact#[trivial,trivial,trivial,(by rw[<- Ig hy];exact q)]
 intro p4 S;have e4:((J.map D.ref).filter λd=>match d with|.ref a=>RB N1 a|_=>eC).map id=(J.filter<|RB N1).map D.ref:=by
  rw[V3,Vx];rfl
 rw[e4];refine bG (Q:=λd M'=>K8 _ [ap _,ap _,ap _,ap _,ap d,ay,ay,ay,ay,ay,ay] M') S ?_;rw[<- Z];unfold nK;generalize U:uZ ad _=K7;have lu:((aK C s t).map kD).length=(aK C s t).length:=by simp
 simp_arith! only[ah,ar,aq,aj,bc,aa,ac,bj,aO,lu,dt,Uz]
 refine#[rfl,am λQ' E' F _=>fj hu λp5 hp5=>F _ _ (bG hp5 ?_)];rw[<- U];refine wQ hu (λ_=>aL) _ _ _ _ _ _ _ _ _ B.filt H P λc6 c7 c8 c9 c10=>?_
 simp_arith! only[Zn]
 have R:=hlt;refine#[_,λz ob e=>?_,h lt R]
 by_cases c:z=lt
 .simp_all
 .rw[ae c]at e ⊢
  exact ex1 z ob (by rw[ae c];exact e)
def QR(n:Nat)(T:Nat->Int)(i:Nat):D:=.tup [.int (T i / ((Wx (fct n) (T i % ((fct n:Nat):Int)).toNat:Nat):Int)),.int (((fct n:Nat):Int) / ((Wx (fct n) (T i % ((fct n:Nat):Int)).toNat:Nat):Int))]
mutual
theorem Sh:∀(r:Rw)(n:Nat),2*hR r+1<=n->br n r.d=true
 |.put _ _,n+1,_=>by simp[Rw.d,br,fits]
 |.take _ _,n+1,_=>by simp[Rw.d,br,fits]
 |.pick _ _,n+1,_=>by simp[Rw.d,br,fits]
 |.two _ _ _ _,n+1,_=>by simp[Rw.d,br,fits]
 |.ifr _ a b,n+2,h=>by
  simp only[hR]at h;have e:=kK a n (by lia)
  have f:=kK b n (by lia)
  simp[Rw.d,br,fits,e,f]
 |.again _ a,n+2,h=>by
  simp only[hR]at h;have e:=kK a n (by lia)
  simp[Rw.d,br,fits,e]
 |.ifr _ _ _,0,h=>by lia
 |.ifr _ _ _,1,h=>by simp only[hR]at h;lia
 |.again _ _,0,h=>by lia
 |.again _ _,1,h=>by simp only[hR]at h;lia
theorem kK:∀(rs:List Rw)(n:Nat),2*dz rs+1<=n->fits n (aD rs)=true
 |[],n,_=>by simp[aD,fits]
 |r::rs,n,h=>by
  simp only[dz]at h;simp[aD,fits,Sh r n (by lia),kK rs n (by lia)]
end
theorem pX:∀(n:Nat)(xs:ab'),fits n (xs.map D.str)=true
 |n,[]=>by simp[fits]
 |n,x::xs=>by
  rw[UG];unfold fits;rw[pX n xs];rfl
theorem fE(o:C.Ok):br 60 C.d=true:=by
 unfold Cse.d;simp[br,fits,(kK C.rows 58<|by have:=o.h;lia),(pX 58 _)]
theorem xu(o:C.Ok)(hs:SOk C s)(ht:SOk C t)(ea:C.mark s=.int a)(eb:C.mark t=.int b)(hab:a≠b)(hu:(aK C s t).length<=20)(hc:1+(C.tree s t).asks<=L)(hL:L<=10000)(hx:∀x∈(gq a b (aK C s t) (C.tree s t) 0 0).filter (λx=>decide (x.v=("faulty":Str))),OutOk (aK C s t).length x)(hT:qi (aK C s t).length ((gq a b (aK C s t) (C.tree s t) 0 0).filter λx=>decide (x.v=("faulty":Str)))=T)(hTb:∀i,i<(aK C s t).length->-1000000000000000<=T i/\T i<=1000000000000000)(h:∀p,M p=ay->Q (.ref p) (M.upd p<|.lst (((aK C s t).zipIdx 0).map λp=>D.tup [kD p.1,QR (aK C s t).length T p.2]))):qR ad [.lst [aS C s t],.int (L:Nat)] M Q E:=by
 have hcs:=@JZ C s t;have fp:=jL (aK C s t).length;have f64:=ik hu;rw[Nh];unfold wY;generalize hK5:iz ad _=K5;have te:∀{K:DK}{c:Option D},K _ M->(λY M Q=>aj (qY ad) kP 2 (aa (ac 0)<|aa (ac 1) ag) Y M λd M'=>frz d M' Q) [ap _,ap _] M K:=λ{K c} q=>by
  refine#[rfl,am λQ' E' hq _=>j8 o hs ht ea eb hab hu hc hL hx λp hp=>hq _ _ (bG hp ?_)];rw[hT];exact q
 refine gW (λ_=>.lst (cU (aK C s t).length T)) aL (by simp) (λx hx K q=>?_) ?_
 .have:x=aS C s t:=by simpa using hx
  subst this;exact te (c:=ay) q
 intro p hp;refine bG hp ?_;simp;rw[<- hK5];unfold iz;generalize hK4:iB ad _=K4;refine#[rfl,am λQ' E' hq _=>bM o hs ht λp hp=>hq _ _ (bG hp ?_)];simp only[af];rw[<- hK4];unfold iB;generalize hK3:iu ad _=K3
 simp_arith! only[ah,cJ,cg,ac,aO,dt]
 have fu:br 60 (.lst<|(aK C s t).map kD)=true:=by exact mz 59 _
 have fd:=fE o;have dvp:∀{M:Mem},dv M C.d=C.d:=rfl;refine#[aL,?_];simp only[af,UN];unfold iQ
 simp_arith! only[aC,yQ,ao,ai,ac,dC,aw,aO,atI_0,dt,Uz,hcs,fX,dvp,fd,zn _ _ fd]
 refine#[trivial,trivial,?_];rw[<- hcs];refine#[rfl,am λQ' E' hq _=>bM o hs ht λp hp=>hq _ _ (bG hp ?_)];have dvl:∀{M:Mem},dv M (.lst _)=.lst ((aK C s t).map kD):=rfl;simp only[dvl,fu,zn _ _ fu];refine#[trivial,trivial,?_];simp;refine#[aL,?_];rw[<- hK3];unfold iu;generalize hK2:iy ad _=K2;have lu:((aK C s t).map kD).length=(aK C s t).length:=by simp
 simp_arith! only[ah,ar,ai,aq,aj,bc,aa,ac,ag,dC,qk,bj,aO,lu,dt,Uz]
 refine#[rfl,am λQ' E' hq _=>fj hu λp5 hp5=>hq _ _ (bG hp5 ?_)]
 simp_arith! only[ai,dC,qk,bc,aa,ac,ag,bj,dt,aw,aO,iN,cB,UO,V0]
 refine#[.inr (by trivial),?_]
 have ew:(fct (aK C s t).length:Nat)*((0+1:Nat))=((fct (aK C s t).length):Int):=by simp
 simp only[af,UN,ew];rw[<- hK2];unfold iy
 simp_arith! only[az,aZ,jy,aa,ac,ag,aO,fV,cN,UG,VF,Vf,dt,Uz]
 refine mC (λi d=>.tup [d,QR (aK C s t).length T i]) aL _ 0 [] _ _ (by simp;lia) (λi x hx K q=>?_) ?_
 .have hi:i<(aK C s t).length:=by
   rcases VX i _ with z|z
   .exact z
   .rw[VT (by simpa using z)]at hx;cases hx
  rw[WW]at q ⊢
  simp_arith! only[aQ,aa,aq,aj,bc,aZ,cg,ac,ag,aO,cN,UG,VF,Vf,Vc,dt,Uz,VS]
  refine gW (λ_=>.int (T i)) aL (by simp) (λx hx K q=>?_) ?_
  .have:x=.lst (cU (aK C s t).length T):=by simpa using hx
   subst this
   simp_arith! only[ai,ac,dt,Uz,aw,aO,bz (show 0<=(i:Int) by lia),UW,nE hi]
   exact q
  intro p6 hp6;refine bG hp6 ?_;have hb:=hTb i hi
  simp_arith! only[UG,VF,wo,dI,jm,Wg,List.sum_nil,Int.add_zero]
  refine#[#[by simp,λx hx=>by simp at hx;subst hx;exact hb],rfl,aH (λ_ _ z=>lF fp (UM (show fct _<2 ^ 64 by exact_mod_cast f64)<|by decide) z) ?_]
  exact#[bg (by simp),q]
 .intro p7 hp7
  have e:[]++(((aK C s t).map kD).zipIdx 0).map (λp=>D.tup [p.1,QR (aK C s t).length T p.2])=((aK C s t).zipIdx 0).map λp=>D.tup [kD p.1,QR (aK C s t).length T p.2]:=by
   rw[Yw,Vq];rfl
  rw[e];exact ak (h p7 hp7)
theorem xj(o:C.Ok)(J:SOk C s)(I:SOk C t)(ea:C.mark s=.int a)(P:C.mark t=.int b)(f:a≠b)(O:(aK C s t).length<=20)(S:1+(C.tree s t).asks<=L)(G:L<=10000)(R:∀x∈(gq a b (aK C s t) (C.tree s t) 0 0).filter (λx=>decide (x.v=("faulty":Str))),OutOk (aK C s t).length x)(H:qi (aK C s t).length ((gq a b (aK C s t) (C.tree s t) 0 0).filter λx=>decide (x.v=("faulty":Str)))=T)(B:∀i,i<(aK C s t).length->-1000000000000000<=T i/\T i<=1000000000000000)(h:∀p,M p=ay->Q (.ref p) (M.upd p<|.lst (((aK C s t).zipIdx 0).map λp=>D.tup [kD p.1,QR (aK C s t).length T p.2]))):vt ad [aS C s t,.int (L:Nat)] M Q E:=by
 rw[RK];unfold zm
 simp_arith! only[az]
 refine#[bg (by simp),λp e=>bG e #[rfl,am λQ' E' F _=>xu o J I ea P f O S G R H B λp e=>F _ _ (ak<|h p e)]]
def wN(cf:Cf)(n:cS)(rest:List Rw):Rw->cS×List Rw
 |.ifr x a b=>(n,(if nm n x=0 then b else a)++rest)
 |.again x a=>(n,if nm n x=0 then rest else a++(.again x a::rest))
 |r=>(sN n (jq r) (num cf n r),rest)
def fin(cf:Cf):Nat->cS->List Rw->Option cS
 |_,n,[]=>ap n
 |0,_,_::_=>ay
 |k+1,n,r::rest=>fin cf k (wN cf n rest r).1 (wN cf n rest r).2
theorem eG:fin cf k n []=ap n:=by cases k<;>rfl
def Ey(cf:Cf)(b:Bool×Sx)(rest:List Rw):Option cS:=if b.1=true then fin cf (cf.most-b.2.steps.length) b.2.nums rest else ay
section
variable{cf:Cf}
theorem Bt{s:Sx}:Ey cf (true,s) rest=fin cf (cf.most-s.steps.length) s.nums rest:=by rfl
theorem ID{s:Sx}:Ey cf (eC,s) rest=none:=by rfl
theorem Sk{s:Sx}(h:s.steps.length<cf.most):nt cf pl v s=(true,#[s.nums,s.steps++[(pl,v)]]):=by unfold nt;rw[if_pos h]
theorem Uk{s:Sx}(h:¬s.steps.length<cf.most):nt cf pl v s=(eC,s):=by unfold nt;rw[if_neg h]
theorem sv{s:Sx}(h:¬s.steps.length<cf.most):fin cf (cf.most-s.steps.length) n (r::rest)=none:=by
 have:cf.most-s.steps.length=0:=by lia
 rw[this];rfl
theorem yI{s:Sx}(h:s.steps.length<cf.most):fin cf (cf.most-s.steps.length) n (r::rest)=fin cf (cf.most-(s.steps++[p]).length) (wN cf n rest r).1 (wN cf n rest r).2:=by
 have:cf.most-s.steps.length=(cf.most-(s.steps++[p]).length)+1:=by simp;lia
 rw[this];rfl
theorem vy{x:Str}{a:List Rw}(F:∀pl s rest,fin cf (cf.most-s.steps.length) s.nums (a++rest)=Ey cf (cc cf a pl 0 s) rest):∀(f t:Nat)(s:Sx)(rest:List Rw),cf.most-s.steps.length<f->
  fin cf (cf.most-s.steps.length) s.nums (.again x a::rest)=Ey cf (fD cf x pl (λt s=>cc cf a (pl++[(t:Int)]) 0 s) f t s) rest
 |0,t,s,rest,h=>by lia
 |f+1,t,s,rest,h=>by
  unfold fD
  by_cases c:s.steps.length<cf.most
  .rw[Sk c,if_pos rfl,yI c]
   by_cases e:nm s.nums x=0
   .have p:lk s.nums x=0:=by unfold lk;rw[if_pos e]
    rw[p,if_neg (by decide),Bt]
    simp[wN,if_pos e]
   have p:lk s.nums x=1:=by unfold lk;rw[if_neg e]
   rw[p];simp only[wN,if_neg e];have i1:=F (pl++[(t:Int)]) #[s.nums,s.steps++[(pl++[(t:Int)],1)]] (.again x a::rest);generalize G:cc cf a _ 0 _=ex at *;obtain⟨b,s2⟩:=ex;rw[i1];cases b with
   |true=>
    have B:s.steps.length+1<=s2.steps.length:=by
     have:=(gb (c:=cf) a (pl++[(t:Int)]) 0 #[s.nums,s.steps++[(pl++[(t:Int)],1)]]).1
     simp_all
    exact vy F f _ s2 _ (by lia)
   |false=>rfl
  rw[Uk c];exact sv c
theorem mG{s:Sx}(f:bw r=true):fin cf (cf.most-s.steps.length) s.nums (r::rest)=Ey cf (jp cf r pl s) rest:=by
 rw[cK f];unfold ma;have e:wN cf s.nums rest r=(sN s.nums (jq r) (num cf s.nums r),rest):=by
  cases r<;>trivial
 by_cases c:s.steps.length<cf.most
 .rw[if_pos c,Bt,yI c,e]
 rw[if_neg c];exact sv c
mutual
theorem TM:∀(r:Rw)(pl:ab_)(s:Sx)(rest:List Rw),fin cf (cf.most-s.steps.length) s.nums (r::rest)=Ey cf (jp cf r pl s) rest
 |.ifr x a b,pl,s,rest=>by
  unfold jp
  by_cases c:s.steps.length<cf.most
  .rw[Sk c,if_pos rfl,yI (p:=(pl,lk s.nums x)) c]
   by_cases e:nm s.nums x=0
   .have f:lk s.nums x=0:=by unfold lk;rw[if_pos e]
    rw[f,if_neg (by decide)]
    simp only[wN,if_pos e];exact jf b (pl++[0]) 0 #[s.nums,s.steps++[(pl,0)]] rest
   .have f:lk s.nums x=1:=by unfold lk;rw[if_neg e]
    rw[f,if_pos rfl];simp only[wN,if_neg e];exact jf a (pl++[1]) 0 #[s.nums,s.steps++[(pl,1)]] rest
  .rw[Uk c,if_neg (by simp),ID]
   exact sv c
 |.again x a,pl,s,rest=>by
  unfold jp;exact vy (λpl s rest=>jf a pl 0 s rest) _ _ _ _ (by lia)
 |.put x k,pl,s,rest=>mG rfl
 |.take x k,pl,s,rest=>mG rfl
 |.pick x y,pl,s,rest=>mG rfl
 |.two w x y z,pl,s,rest=>mG rfl
theorem jf:∀(rs:List Rw)(pl:ab_)(j:Nat)(s:Sx)(rest:List Rw),fin cf (cf.most-s.steps.length) s.nums (rs++rest)=Ey cf (cc cf rs pl j s) rest
 |[],pl,j,s,rest=>by unfold cc;rw[Bt];rfl
 |r::rs,pl,j,s,rest=>by
  unfold cc;rw[Vf,TM r (pl++[(j:Int)]) s (rs++rest)];generalize jp cf r (pl++[(j:Int)]) s=ex;obtain⟨b,s2⟩:=ex;cases b with
  |true=>rw[Bt,if_pos rfl];exact jf rs pl (j+1) s2 rest
  |false=>rw[ID,if_neg (by simp),ID]
end
end
def mkO(mn:Str):Option cS->D
 |some n=>.int (nm n mn)
 |none=>.non
theorem FI:C.mark z=mkO C.mn (fin (C.cf z) C.most (C.names.zip z.nums) C.rows):=by
 have h:=jf (cf:=C.cf z) C.rows [] 0 #[C.names.zip z.nums,[]] [];rw[Vl]at h;have e:fin _ C.most _ _=Ey _ (C.run z) []:=h;rw[e];unfold Cse.mark wg Ey
 split
 .rw[eG];rfl
 rfl
theorem rA(h:x∈n.map (·.1)):nm (sN n x v) y=if y=x then v else nm n y:=by
 unfold nm;rw[U0 h]
 split<;>rfl
section
variable{t:Sta}
theorem lx:∀(f:Nat)(g:Gs),(dQ C s t f g).asks+1<=2 ^ g.u.length
 |0,g=>Nat.one_le_two_pow
 |f+1,g=>by
  obtain⟨⟨F,G⟩,_,h⟩:=oW (C:=C) (C.most+1) g;unfold dQ;generalize cY C (C.most+1) g=go at *;obtain⟨a,B⟩:=go;dsimp only at *;cases a with
  |none=>exact Nat.one_le_two_pow
  |some q=>
   have J:=As (h q rfl);have I:=lx f (gr B q<|aN C s q);have H:=lx f (gr B q<|aN C t q);rw[jg]at I H;have e:2 ^ ((B.u.filter λk=>decide (k≠q)).length+1)<=2 ^ g.u.length:=VE (by decide) (by lia)
   rw[Nat.pow_succ]at e;show 1+_+_+1<=_;lia
theorem lh:1+(C.tree s t).asks<=2 ^ (aK C s t).length:=by
 have:=lx (C:=C) (s:=s) (t:=t) 24 (g0 C s t);have e:(g0 C s t).u=aK C s t:=rfl;rw[e]at this;show 1+(dQ C s t 24 _).asks<=_;lia
end
def TrN:Tr->List aI->Prop
 |.e _,_=>True
 |.a q x y,u=>q∈u/\TrN x (u.filter λk=>decide (k≠q))/\TrN y (u.filter λk=>decide (k≠q))
theorem TrN.mono:∀{t:Tr}{u v:List aI},TrN t u->(∀k∈u,k∈v)->TrN t v
 |.e _,_,_,_,_=>trivial
 |.a q x y,u,v,h,s=>#[s q h.1,h.2.1.mono (by simp_all),h.2.2.mono<|by simp_all]
theorem xx{C:Cse}{s:Sta}:∀(f:Nat)(g:Gs),TrN (dQ C s t f g) g.u
 |0,_=>trivial
 |f+1,g=>by
  obtain⟨⟨_,h⟩,_,e⟩:=oW _ g;unfold dQ;generalize cY C _ g=go at *;obtain⟨a,p⟩:=go;cases a with
  |none=>trivial
  |some q=>
   have w:∀v,TrN _ (g.u.filter λk=>decide (k≠q)):=λv=>by
    have:=xx (C:=C) (s:=s) (t:=t) f (gr p q v);rw[jg]at this;exact this.mono (by simp_all)
   exact#[by simp_all,w _,w _]
structure Wy(us:List aI)(u:List aI)(S F:Nat):Prop where
 s:S<2 ^ us.length
 f:F<2 ^ us.length
 sub:∀q∈u,q∈us
 no:∀q∈u,S.testBit (us.idxOf q)=eC/\F.testBit (us.idxOf q)=eC
 dis:∀i,¬(S.testBit i=true/\F.testBit i=true)
section
variable{us:List aI}
theorem FV:(bitK us q).testBit i=decide (us.idxOf q=i):=by unfold bitK;grind
theorem KA(p:k∈us)(e:q∈us)(h:us.idxOf q=us.idxOf k):k=q:=by
 have f:=List.getElem_idxOf (YF e)
 simp_all
theorem Wy.swap(w:Wy us u S F):Wy us u F S:=#[w.f,w.s,w.sub,λq e=>(w.no q e).symm,λi h=>w.dis i h.symm]
theorem Wy.fa(w:Wy us u S F)(G:q∈u):Wy us (u.filter λk=>decide (k≠q)) S (F ||| bitK us q):=by
 have e:=w.sub q G;refine#[w.s,Nat.or_lt_two_pow w.f ((λe=>Nat.pow_lt_pow_right (by decide) (YF e)) e),λk p=>w.sub k (Vd.mp p).1,λk p=>?_,λi h=>?_]
 .obtain⟨B,H⟩:=Vd.mp p
  refine#[(w.no k B).1,?_];rw[Nat.testBit_or,(w.no k B).2,FV];exact decide_eq_false λz=>(of_decide_eq_true H) (KA (w.sub k B) e z)
 rw[Nat.testBit_or,FV]at h
 by_cases c:us.idxOf q=i
 .subst c;rw[(w.no q G).1]at h;exact absurd h.1 (by simp)
 rw[decide_eq_false c,X7]at h;exact w.dis i h
theorem Wy.so(w:Wy us u S F)(e:q∈u):Wy us (u.filter λk=>decide (k≠q)) (S ||| bitK us q) F:=(w.swap.fa e).swap
theorem vD{r:Nat->Bool}:∀(l:List Nat),(∀i,¬(p i=true/\r i=true))->(l.filter p).length+(l.filter r).length<=l.length
 |[],_=>by simp
 |i::l,h=>by
  have:=vD l h;rw[UZ,UZ]
  split<;>split<;>simp_all<;>lia
theorem Wy.ok(w:Wy us u S F){v:Str}:OutOk us.length #[v,S,F]:=by
 refine#[w.s,w.f,?_];rw[lj w.f,lj w.s];have:=vD (Vu us.length) λi h=>w.dis i h.symm
 simp_all
theorem tT:∀(t:Tr)(u:List aI)(S F:Nat),TrN t u->Wy us u S F->∀x∈gq a b us t S F,OutOk us.length x
 |.e m,u,S,F,_,w,x,hx=>by
  have:x=#[Lw a b m,S,F]:=by simpa [gq] using hx
  subst this;exact w.ok
 |.a q x y,u,S,F,h,w,o,ho=>by
  rcases Vg.mp ho with h1|h1
  .exact tT y _ _ _ h.2.2 (w.fa h.1) o h1
  exact tT x _ _ _ h.2.1 (w.so h.1) o h1
theorem Wy.zero(h:∀q∈u,q∈us):Wy us u 0 0:=#[Nat.two_pow_pos _,Nat.two_pow_pos _,h,λq _=>#[Nat.zero_testBit _,Nat.zero_testBit _],by simp_all]
end
def E5(C:Cse)(s t:Sta)(a b:Int):List Out:=(gq a b (aK C s t) (C.tree s t) 0 0).filter λx=>decide (x.v=("faulty":Str))
theorem GY:TrN (C.tree s t) (aK C s t):=xx 24 _
theorem tW:∀x∈E5 C s t a b,OutOk (aK C s t).length x:=λx e=>tT _ _ _ _ GY (Wy.zero λ_ h=>h) x (Vd.mp e).1
noncomputable def gT(d:Nat)(T:Int):Nat:=Wx d (T % (d:Int)).toNat
theorem r_(h:0<d):0<gT d T:=Zd _ h
theorem Ip:gT d T ∣ d:=Nat.gcd_dvd_left _ _
theorem PY(h:0<d):((gT d T:Nat):Int) ∣ T:=by
 have f:gT d T ∣ (T % d).toNat:=Nat.gcd_dvd_right _ _;have e:((gT d T):Int) ∣ T % d:=by
  have:=WN.mpr f
  rwa [ZF (VL T<|by lia)]at this
 have:=Int.dvd_add e (Zh (c:=T / d)<|WN.mpr Ip)
 rwa [Int.emod_add_mul_ediv]at this
theorem GJ(h:0<d):(T / ((gT d T:Nat):Int))*(d:Int)=T*((d / gT d T:Nat):Int):=by
 have B:=r_ (T:=T) h;obtain⟨x,f⟩:=PY (T:=T) h;obtain⟨y,e⟩:=Ip (d:=d) (T:=T);generalize gT d T=g at *;have p:T / (g:Int)=x:=by rw[f];exact Y9 _ (by lia)
 have F:d / g=y:=by rw[e];exact Nat.mul_div_cancel_left _ B
 rw[p,F,f,e]
 push_cast
 rw[<- Int.mul_assoc,Int.mul_comm x (g:Int)]
theorem NZ(p:0<k)(h:0<d):gT (k*d) ((k:Int)*T)=k*gT d T:=by
 have f:=VL T (show ((d:Nat):Int)≠0 by lia)
 unfold gT;have:((k:Int)*T % ((k*d:Nat):Int)).toNat=k*(T % (d:Int)).toNat:=by
  rw[Wh,Int.mul_emod_mul_of_pos _ _ (by lia)]
  obtain⟨r,e⟩:=XE f;rw[e,<- Wh,UW,UW]
 rw[this,Nat.gcd_mul_left]
theorem rM{k:Nat}(e:0<k)(h:0<d):(k:Int)*T / ((gT (k*d) ((k:Int)*T):Nat):Int)=T / ((gT d T:Nat):Int)/\((k*d:Nat):Int) / ((gT (k*d) ((k:Int)*T):Nat):Int)=(d:Int) / ((gT d T:Nat):Int):=by
 rw[NZ e h,Wh,Wh];exact#[Zg _ _ (by lia),Zg _ _<|by lia]
theorem OutOk.more{x:Out}(h:OutOk n x):OutOk (n+2) x:=
 #[UM h.s (by lia),UM h.f (by lia),by have:=h.l;lia]
theorem oy(h:n<=7):fct n<=5040:=o8 (b:=7) h
theorem Pj{x:Out}(I:n<=7)(h:OutOk n x):-128024064000<=ya n x i/\ya n x i<=128024064000:=by
 have J:=h.l;have e:fct n / fct ((bf x.f).length+(bf x.s).length)<=5040:=UL (Nat.div_le_self _ _) (oy I);have p:∀E A B:Nat,E<=5040->A<=5040->B<=5040->E*A*B<=128024064000:=λE A B H G F=>by
  exact(Xj (Xj H G) F)
 have O:=p _ _ _ e (oy (n:=(bf x.f).length-1)<|by lia) (oy (n:=(bf x.s).length)<|by lia)
 have P:=p _ _ _ e (oy (n:=(bf x.f).length)<|by lia) (oy (n:=(bf x.s).length-1)<|by lia)
 unfold ya
 split<;>split<;>lia
theorem Cj{i:Nat}(e:n<=7):∀{xs:List Out},(∀x∈xs,OutOk n x)->-128024064000*(xs.length:Int)<=qi n xs i/\qi n xs i<=128024064000*(xs.length:Int)
 |[],_=>by simp[qi]
 |x::xs,h=>by
  have f:=Cj (i:=i) e λy p=>h y (UJ _ p);have B:=Pj (i:=i) e (h x<|by simp_all)
  unfold qi at f ⊢;rw[UG,Wg,UO];lia
def flt(rs:List Rw):List Rw:=rs.filter bw
noncomputable def HY(d:D):Bool:=match d with
 |.tup (.str w::_)=>!(decide (w=("if":Str))||decide (w=("again":Str)))
 |_=>true
theorem Pe(h:fO names m many r):HY r.d=bw r:=by
 have e:∀w rest,HY (.tup (.str w::rest))=!(decide _||decide _):=λ_ _=>rfl
 cases r with
 |two w x y z=>
  simp[Rw.d,e,bw];rcases h.1 with rfl|rfl|rfl|rfl<;>decide +kernel
 |_=>rfl
theorem BG{names:ab'}{m many:Int}:∀{rs:List Rw},bi names m many rs->(aD rs).filter HY=aD (flt rs)
 |[],_=>rfl
 |r::rs,h=>by
  have e:=BG h.2;unfold flt at e ⊢;rw[aD,UZ,UZ,Pe h.1,e]
  split<;>rfl
theorem yq{names:ab'}{m many:Int}:∀{rs:List Rw},bi names m many rs->bi names m many (flt rs)
 |[],_=>trivial
 |r::rs,h=>by
  have e:=yq h.2;unfold flt at e ⊢;rw[UZ]
  split
  .exact#[h.1,e]
  exact e
theorem tZ(h:fO names m many r):∃(w:Str)(rest:List D),r.d=.tup (.str w::.str (jq r)::rest):=by
 cases r<;>exact#[_,_,rfl]
theorem xC(h:d∈aD rs):∃r∈rs,d=r.d:=by
 rw[iO]at h;obtain⟨r,e,rfl⟩:=UR.mp h;exact#[r,e,rfl]
theorem jx{names:ab'}{m many:Int}:∀{rs:List Rw}{r:Rw},bi names m many rs->r∈rs->fO names m many r
 |r::rs,q,h,hq=>by
  rcases UK.mp hq with rfl|hq
  .exact h.1
  exact jx h.2 hq
theorem qT(J:rs.length<=1000)(ok:bi names m many rs)(h:Q (.tup<|aD<|flt rs) M):vF ad [.tup (aD rs)] M Q E:=by
 refine da HY id aL (by rw[cb];lia) (λx G K q=>?_) (λx G _ K q=>q) ?_
 .obtain⟨r,H,rfl⟩:=xC G
  obtain⟨w,rest,e⟩:=tZ (jx ok H);have I:HY r.d=!(decide (w="if")||decide (w="again")):=by rw[e];rfl
  rw[I]at q;rw[e];simp![atI_0];refine#[by trivial,λp B=>?_]
  rw[Mem.upd_del,au B];rcases Decidable.em (w="if") with c1|c1
  .subst c1
   assumption
  rcases Decidable.em (w="again") with c2|c2
  .subst c2
   assumption
  have f:¬"if"=w:=λz=>c1 z.symm;have F:¬"again"=w:=λz=>c2 z.symm;simpa [aR,c1,c2,f,F] using q
 intro p B;rw[V3,BG ok];exact bG B (ak h)
theorem c_(B:Has k M)(G:2<=m)(f:m<=997)(F:0<=v/\v<m)(h:∀w M',0<=w->w<m->w≠v->Dr k M M'->Q (.int w) M'):kd ad [.ref k.p,.int m,.int v] M Q E:=by
 rw[SH];unfold CF;simp![];refine aG B (by lia) (by lia) λr M' a b d=>?_
 refine#[by lia,ak<|h _ _ (VL _<|by lia) (VM _<|by lia) ?_ d]
 intro z
 by_cases c:v+1+r<m
 .rw[Int.emod_eq_of_lt (by lia) c]at z;lia
 have e:(v+1+r) % m=v+1+r-m:=by
  rw[<- Int.sub_emod_right,Int.emod_eq_of_lt (by lia) (by lia)]
 lia
def EV(C:Cse)(s t:Sta):D:=if (C.run s).1=true/\(C.run t).1=true then .tup [.int (nm (C.run s).2.nums C.mn),.int (nm (C.run t).2.nums C.mn)] else .non
theorem q_:∀(n:Nat)(f:Str->Int)(xs:ab'),fits n (xs.map λx=>D.int (f x))=true
 |n,f,[]=>by rfl
 |n,f,x::xs=>by
  have:=q_ n f xs
  assumption
theorem Kr{r:Bool×Sx}:br 60 (fC names r)=true:=by
 unfold fC
 split
 .simp[br,(q_ 59 _ _)]
 rfl
theorem Jd{r:Bool×Sx}:aR (fC names r) .non=!r.1:=by
 unfold fC;cases r.1<;>rfl
theorem Fh{r:Bool×Sx}(e:r.1=true)(f:names[j]?=ap mk):∃xs,fC names r=.tup xs/\fm xs (j:Int)=ap (.int<|nm r.2.nums mk):=by
 refine#[_,by unfold fC;rw[if_pos e],?_]
 rw[bz (by lia),UW,UH,f];rfl
theorem Tx(o:C.Ok)(e:SOk C z)(h:K (fC C.names<|C.run z) M):
  ai aw (zc<|aj (qW ad) EE 3<|aa (ac 1)<|aa (ac 0)<|aa (ac 2) ag) (dC<|.int 1) [ap z.d,ap C.d,ap (.int (C.most:Nat))] M K:=by
 rw[e.pd];refine#[rfl,xm (o.pl e) ?_]
 assumption
theorem dj(o:C.Ok)(X:SOk C s)(Z:SOk C t)(h:Q (EV C s t) M):lO ad [C.d,s.d,t.d,.int (C.most:Nat)] M Q E:=by
 rw[So];unfold BW;generalize f:mR ad _=K3;generalize H:(ai _ _ _)=te;have I:∀{z:Sta}{K:DK},SOk C z->K _ M->te _ M K:=λ{z K} U q=>by
  rw[<- H];exact Tx o U q
 refine#[bg (by simp),λp B=>bG B ?_]
 refine#[aL,?_];refine I X #[by trivial,?_]
 refine#[aL,?_];refine I Z #[gn (by simp),?_]
 refine#[aL,λp B=>?_]
 simp_arith! only[Vc,Vf,UN,dt,Uz,g5,Mem.upd_same,Mem.upd_del,au B]
 rw[<- f];unfold mR;generalize F:mm ad _=K2;unfold EV at h;have R:fits 60 [fC C.names (C.run s),fC C.names (C.run t)]=true:=by simp[fits,Kr]
 simp_arith! only[ah,aC,ao,ai,dC,ac,dt,Uz,FX,sH,aO,dv,R,X6,List.any_nil,Jd,X7]
 by_cases c:(C.run s).1=true/\(C.run t).1=true
 .rw[if_pos c]at h
  simp[c.1,c.2];rw[<- F];unfold mm;generalize G:sS ad _=K1;obtain⟨j,W,e⟩:=pR o.mn;obtain⟨xs,J,O⟩:=Fh c.1 e;obtain⟨ys,S,P⟩:=Fh c.2 e;rw[(@Ca C)];simp![atI_1,atI_4,eD,W];rw[<- G];simp![atI_0,atI_1,J,S,O,P];exact#[UL o.l1 (by decide),by trivial,ak h]
 rw[if_neg c]at h;have:(!(C.run s).1||!(C.run t).1)=true:=by
  cases h1:(C.run s).1<;>cases h2:(C.run t).1<;>simp_all
 simp[this,dC];exact ak h
theorem jH(h:Q (EV C s t) M):frz (EV C s t) M Q:=by
 unfold EV at h ⊢
 split at h
 .rename_i c;rw[if_pos c];exact h
 rename_i c;rw[if_neg c];exact h
theorem La:wN cf n (rs++rest) r=((wN cf n rs r).1,(wN cf n rs r).2++rest):=by
 cases r with
 |ifr x a b=>simp[wN]
 |again x a=>
  simp only[wN]
  split<;>simp
 |_=>rfl
theorem mx:∀(k:Nat)(n:cS)(rs:List Rw)(f:cS),fin cf k n rs=ap f->∀(e:Nat)(rest:List Rw),∃j,e<=j/\fin cf (k+e) n (rs++rest)=fin cf j f rest
 |k,n,[],f,h,e,rest=>by
  rw[eG]at h;cases h;exact#[_,by lia,rfl]
 |0,n,r::rs,f,h,e,rest=>by cases h
 |k+1,n,r::rs,f,h,e,rest=>by
  obtain⟨j,p,B⟩:=mx k _ _ _ h e _;refine#[j,p,?_];have:k+1+e=(k+e)+1:=by lia
  rw[this,Vf];show fin cf (k+e) _ _=_;rw[La];exact B
theorem stp_cf:wN #[m,ps,k1] n rest r=wN #[m,ps,k2] n rest r:=by rfl
theorem FG{m:Int}:∀(k:Nat)(n:cS)(rs:List Rw),fin #[m,ps,k1] k n rs=fin #[m,ps,k2] k n rs
 |k,n,[]=>by rw[eG,eG]
 |0,n,r::rs=>rfl
 |k+1,n,r::rs=>by
  exact FG k _ _
def fz(cf:Cf)(n:cS)(rs:List Rw):cS:=rs.foldl (λn r=>sN n (jq r) (num cf n r)) n
theorem mV:∀(rs:List Rw)(k:Nat)(n:cS),(∀r∈rs,bw r=true)->rs.length<=k->fin cf k n rs=ap (fz cf n rs)
 |[],k,n,_,_=>eG
 |r::rs,0,n,_,h=>by simp at h
 |r::rs,k+1,n,hs,h=>by
  have f:=hs r (by simp_all)
  have e:wN cf n rs r=(sN n (jq r) (num cf n r),rs):=by
   cases r<;>trivial
  show fin cf k _ _=_;rw[e];exact mV rs k _ (by simp_all) (by simpa using h)
theorem Ke:∀(rs:List Rw),(fz cf n rs).map (·.1)=n.map (·.1):=by
 intro rs
 induction rs generalizing n with
 |nil=>rfl
 |cons r rs ih=>
  show (fz cf _ rs).map _=_;rw[ih,n8]
theorem NK{y:Str}:∀(rs:List Rw)(n:cS),(∀r∈rs,jq r∈n.map (·.1))->(∀r∈rs,jq r≠y)->nm (fz cf n rs) y=nm n y
 |[],n,_,_=>rfl
 |r::rs,n,hk,hn=>by
  show nm (fz cf _ rs) y=_;rw[NK rs _ (λq e=>by rw[n8];simp_all) (by simp_all),rA (by simp_all),if_neg λz=>hn r (by simp_all) z.symm]
theorem F6{q:Int}(hp:0<=p/\p<m)(hq:0<=q/\q<m)(h:p≠q):(a+p) % m≠(a+q) % m:=by
 intro z;obtain⟨c,hc⟩:=(Int.dvd_of_emod_eq_zero<|Int.emod_eq_emod_iff_emod_sub_eq_zero.mp z);have:c=0:=by
  rcases Int.lt_trichotomy c 0 with g|g|g
  .have:=Yz (show c<=-1 by lia) (show 0<=m by lia)
   lia
  .exact g
  .have:=Yz (by trivial) (show 0<=m by lia)
   lia
 subst this;lia
noncomputable def Cse.rw(C:Cse)(rs:List Rw):Cse:={ C with rows:=rs }
def Cse.two(C:Cse)(s t:Sta):Prop:=∃a b,C.mark s=.int a/\C.mark t=.int b/\a≠b
theorem zA(o:C.Ok)(e:SOk C z):NOk C.names C.w (C.run z).2.nums:=dB (o.pl e).co _ (o.pl e).ok [] 0 _ (o.pl e).nok
theorem Bf(h:(C.run z).1=true):fin (C.cf z) C.most (C.names.zip z.nums) C.rows=ap (C.run z).2.nums:=by
 have e:=jf (cf:=C.cf z) C.rows [] 0 #[C.names.zip z.nums,[]] [];rw[Vl]at e;have f:fin _ C.most _ _=Ey _ (C.run z) []:=e;rw[f];unfold Ey;rw[if_pos h,eG]
theorem mF(h:fin (C.cf z) C.most (C.names.zip z.nums) C.rows=ap n):(C.run z).1=true/\(C.run z).2.nums=n:=by
 have e:=jf (cf:=C.cf z) C.rows [] 0 #[C.names.zip z.nums,[]] [];rw[Vl]at e;have f:fin _ C.most _ _=Ey _ (C.run z) []:=e;rw[f]at h;unfold Ey at h
 split at h
 .rw[eG]at h
  simp_all
 cases h
theorem fK(h:fin (C.cf z) C.most (C.names.zip z.nums) C.rows=ap n):C.mark z=.int (nm n C.mn):=by
 rw[FI,h];rfl
theorem rH(h:fin (C.cf z) (C.most-4) (C.names.zip z.nums) C.rows=ap n)(F:4<=C.most)(p:∀r∈more,bw r=true)(G:more.length<=4):(C.rw (C.rows++more)).mark z=.int (nm (fz (C.cf z) n more) C.mn):=by
 obtain⟨j,B,e⟩:=mx _ _ _ _ h 4 more;have f:C.most-4+4=C.most:=by lia
 rw[f,mV more j n p (by lia)]at e
 exact fK (C:=C.rw (C.rows++more)) e
def qe(y:Str)(rs:List Rw):List Rw:=rs.filter λr=>decide (jq r≠y)
noncomputable def JQ(y:Str)(d:D):Bool:=match d with
 |.tup (_::.str x::_)=>decide (x≠y)
 |_=>true
theorem xA{names:ab'}{m many:Int}{y:Str}:∀{rs:List Rw},bi names m many rs->(aD rs).filter (JQ y)=aD (qe y rs)
 |[],_=>rfl
 |r::rs,h=>by
  have f:=xA (y:=y) h.2;obtain⟨w,rest,e⟩:=tZ h.1;have p:JQ y r.d=decide (jq r≠y):=by rw[e];rfl
  unfold qe at f ⊢;rw[aD,UZ,UZ,p,f]
  split<;>rfl
theorem zQ{names:ab'}{m many:Int}:∀{rs:List Rw},bi names m many rs->bi names m many (rs.filter p)
 |[],_=>trivial
 |r::rs,h=>by
  have e:=zQ (p:=p) h.2;rw[UZ]
  split
  .exact#[h.1,e]
  exact e
theorem ER:∀{rs:List Rw},bi names m many rs->(∀r∈rs,bw r=true)->∀r∈rs,cP names m many r:=λh f r e=>jQ (jx h e) (f r e)
theorem ip:∀{rs:List Rw},(∀r∈rs,bw r=true)->dz rs=0
 |[],_=>rfl
 |r::rs,h=>by
  have f:=h r (by simp_all)
  have p:=ip λq e=>h q (UJ _ e);cases r<;>trivial
theorem sV:∀r∈flt rs,bw r=true:=λr e=>(Vd.mp e).2
theorem iP:∀r∈qe y (flt rs),bw r=true:=λr e=>sV r (Vd.mp e).1
theorem IA{a b c:D}:iS [a,b,c,d,e] ay (ap 3)=[a,b,c]:=rfl
theorem Cse.Ok.rw(o:C.Ok)(f:bi C.names C.w C.many rs)(e:dz rs<=7):(C.rw rs).Ok:=#[o.m2,o.m1,o.few,o.most,o.nd,o.l0,o.l1,f,e,o.mn]
theorem SOk.rw(k:SOk C s):SOk (C.rw rs) s:=#[k.ln,k.lp,k.rn,k.rp]
theorem oz(o:C.Ok)(e:∀r∈rs,bw r=true)(f:rs.length<=C.most):fin ((C.rw rs).cf z) (C.rw rs).most (C.names.zip z.nums) (C.rw rs).rows=ap (fz (C.cf z) (C.names.zip z.nums) rs):=mV rs _ _ e f
theorem E7(o:C.Ok)(e:∀r∈rs,bw r=true)(f:rs.length<=C.most):(C.rw rs).mark z=.int (nm (fz (C.cf z) (C.names.zip z.nums) rs) C.mn):=fK (oz o e f)
theorem HM(G:fin (C.cf s) C.most (C.names.zip s.nums) C.rows=ap n)(F:fin (C.cf t) C.most (C.names.zip t.nums) C.rows=ap e):EV C s t=.tup [.int (nm n C.mn),.int (nm e C.mn)]:=by
 obtain⟨f,B⟩:=mF G;obtain⟨h,p⟩:=mF F;unfold EV;rw[if_pos #[f,h],B,p]
theorem wt(o:C.Ok)(hs:SOk C s)(ht:SOk C t)(hy:y∈C.names)(hn:aN C s (.inr y)≠aN C t (.inr y))(hrl:C.rows.length<=1000)(hl:(flt C.rows).length+1<=C.most)(h:∀rs,(C.rw rs).Ok->(C.rw rs).two s t->(∀r∈rs,bw r=true)->rs.length<=(flt C.rows).length+1->Q (C.rw rs).d M):Bv ad [C.d,s.d,t.d,.int (C.most:Nat),.str y] M Q E:=by
 have S:=@Ca C;have H:∀rs,(C.rw rs).d=.tup [.int C.w,.tup (C.names.map D.str),.int (C.many:Nat),.tup (aD rs),.str C.mn]:=λ_=>rfl;have G:=yq o.ok;have B:bi C.names C.w C.many (qe y<|flt C.rows):=zQ G;have ln:(qe y<|flt C.rows).length<=(flt C.rows).length:=Vn _ _;have lf:(flt C.rows).length<=C.rows.length:=Vn _ _;have o1:=o.rw B (by rw[ip iP];decide)
 have f1:=oz (z:=s) o iP (show (qe y<|flt C.rows).length<=C.most by lia)
 have f2:=oz (z:=t) o iP (show (qe y<|flt C.rows).length<=C.most by lia)
 have em:=HM (C:=C.rw (qe y<|flt C.rows)) f1 f2;have rk:∀(z:Sta),SOk C z->∀r∈qe y (flt C.rows),jq r∈(C.names.zip z.nums).map (·.1):=λz I r F=>by
  rw[jC I.ln.symm];exact Ij (ER B iP r F)
 have ny:∀(z:Sta),SOk C z->nm (fz (C.cf z) (C.names.zip z.nums)<|qe y<|flt C.rows) y=aN C z (.inr y):=λz I=>NK _ _ (rk z I) λr F=>of_decide_eq_true (Vd.mp F).2;rw[TK];unfold De;generalize X:nR ad (aF E)=K5;rw[S];refine#[rfl,aH (λ_ _ q=>qT hrl o.ok q) ?_];refine da (JQ y) id aL (by rw[cb];lia) (λx hx K q=>?_) (λx hx _ K q=>q) ?_
 .obtain⟨r,F,rfl⟩:=xC hx
  obtain⟨w,rest,e⟩:=tZ (jx G F);have e2:JQ y r.d=decide (jq r≠y):=by rw[e];rfl
  rw[e2]at q;rw[e];exact (λq=>by
     trivial) (by simpa [aR] using q)
 intro p hp;rw[V3,xA G];rw[<- X];unfold nR;generalize hK4:mJ ad (aF E)=K4;simp![Mem.upd_del,au hp,IA,atI_4];refine#[bg (by decide),bg (by decide),?_]
 rw[<- hK4];unfold mJ;generalize P:nG ad (aF E)=K3;rw[<- H];refine#[rfl,aH (λ_ _ q=>dj (C:=C.rw (qe y<|flt C.rows)) o1 hs.rw ht.rw q)<|jH ?_];rw[em];simp only[af,UN];rw[<- P];unfold nG;generalize U:mO ad (aF E)=K2;simp![atI_0,atI_1];generalize hfs:fz (C.cf s) (C.names.zip s.nums) (qe y<|flt C.rows)=ns at *;generalize R:fz (C.cf t) (C.names.zip t.nums) (qe y<|flt C.rows)=nt' at *;have Z:(C.rw<|qe y<|flt C.rows).mn=C.mn:=rfl;rw[Z]
 by_cases c:nm ns C.mn=nm nt' C.mn
 .simp only[if_pos c]
  rw[<- U];unfold mO;generalize W:nj ad (aF E)=K1;rw[H];simp![atI_4];refine#[bg (by decide),?_]
  rw[<- W];unfold nj;simp![IA,atI_4,cb];refine#[bg (by decide),bg (by lia),bg (by decide),bg (by decide),ak ?_]
  have er:aD (qe y<|flt C.rows)++[D.tup [.str "sum",.str C.mn,.str C.mn,.str y]]=aD (qe y (flt C.rows)++[.two "sum" C.mn C.mn y]):=by
   rw[bZ];rfl
  rw[er,<- H];have f:∀r∈qe y (flt C.rows)++[.two "sum" C.mn C.mn y],bw r=true:=λr F=>by
   rcases Vg.mp F with h|h
   .exact iP r h
   .simp only[VC]at h;subst h;rfl
  have O:bi C.names C.w C.many (qe y (flt C.rows)++[.two "sum" C.mn C.mn y]):=OkRs_append.mpr #[B,#[#[.inl rfl,o.mn,o.mn,hy],trivial]];refine h _ (o.rw O<|by rw[ip f];decide) ?_ f (by simp_all)
  have g:∀(z:Sta),SOk C z->(C.rw _).mark z=.int ((nm (fz (C.cf z) (C.names.zip z.nums)<|qe y<|flt C.rows) C.mn+aN C z (.inr y)) % C.w):=λz I=>by
   refine (E7 o f<|by rw[UU,Wi];lia).trans ?_
   have e:fz (C.cf z) (C.names.zip z.nums) (qe y (flt C.rows)++[.two "sum" C.mn C.mn y])=sN (fz (C.cf z) (C.names.zip z.nums)<|qe y<|flt C.rows) C.mn (num (C.cf z) (fz (C.cf z) (C.names.zip z.nums)<|qe y<|flt C.rows)<|.two "sum" C.mn C.mn y):=by
    unfold fz;rw[List.foldl_append];rfl
   rw[e];rw[rA (by rw[Ke,jC I.ln.symm];exact o.mn),if_pos rfl]
   show D.int (EZ "sum" _ _ _)=_;unfold EZ;rw[if_pos rfl,ny z I];rfl
  refine#[_,_,g s hs,g t ht,?_];rw[hfs,R,c];have J:(Vo y:aI)∈dw C:=Vg.mpr (.inl<|UR.mpr #[y,hy,rfl]);exact F6 (dN o hs J) (dN o ht J) hn
 .simp only[if_neg c]
  refine ak (h _ o1 #[_,_,?_,?_,c] iP<|by lia)
  .exact fK f1
  .exact fK f2
theorem qN:∀(n:Nat)(xs:ab'),fits n (xs.map D.str)=true
 |n,[]=>by rfl
 |n,x::xs=>by
  have:=qN n xs
  assumption
theorem Mb{xs:ab'}{b:Bool}(B:b=!xs.isEmpty)(q:K b M):ao (ai fX (ac 2)<|aq<|bP ag) [δ0,e,ap (.lst<|xs.map D.str)] M K:=by
 refine#[by trivial,λp h=>bG h ?_]
 have f:fits 59 []=true:=rfl;simp only[fX,dv,br,(qN 59 xs),f];refine#[trivial,trivial,?_];rw[B]at q;cases xs<;>assumption
theorem yz:∀r∈[Rw.take x0 0,.two "sum" f f x0],bw r=true:=by
 intro r e;simp at e;rcases e with rfl|rfl<;>rfl
theorem sD(o:C.Ok)(hs:SOk C s)(ht:SOk C t)(h0:0<C.many)(hn:aN C s (.inl 0)≠aN C t (.inl 0))(hrl:C.rows.length<=1000)(h4:4<=C.most)(f1:fin (C.cf s) (C.most-4) (C.names.zip s.nums) C.rows=ap n1)(f2:fin (C.cf t) (C.most-4) (C.names.zip t.nums) C.rows=ap n2)(k1:n1.map (·.1)=C.names)(k2:n2.map (·.1)=C.names)(he:nm n1 C.mn=nm n2 C.mn)(h:∀more,(C.rw (C.rows++more)).Ok->(C.rw (C.rows++more)).two s t->(∀r∈more,bw r=true)->more.length<=2->Q (C.rw (C.rows++more)).d M):Jt ad [C.d] M Q E:=by
 have U:=@Ca C;have F:∀rs,(C.rw rs).d=.tup [.int C.w,.tup (C.names.map D.str),.int (C.many:Nat),.tup (aD rs),.str C.mn]:=λ_=>rfl;have l1:=o.l1;have I:(WH 0:aI)∈dw C:=Vg.mpr (.inr<|by simp_all)
 have Z:∀more:List Rw,(∀r∈more,bw r=true)->bi C.names C.w C.many more->(C.rw (C.rows++more)).Ok:=λmore e P=>o.rw (OkRs_append.mpr #[o.ok,P]) (by rw[dY,ip e];have:=o.h;lia)
 rw[u_q4];unfold Ko;generalize W:uo ad (aF E)=K4;rw[U];simp![atI_4];refine#[bg (by decide),bg (by decide),?_]
 rw[<- W];unfold uo;generalize R:uX ad (aF E)=K3;refine da (λd=>match d with|.str x=>!decide (x=C.mn)|_=>true) id aL (by rw[UA];lia) (λx G K q=>?_) (λx G _ K q=>q) ?_
 .obtain⟨y,hy,rfl⟩:=UR.mp G
  exact (λq=>by
     trivial) q
 intro p hp;have ef:((C.names.map D.str).filter λd=>match d with|.str x=>!decide (x=C.mn)|_=>true)=(C.names.filter λx=>!decide (x=C.mn)).map D.str:=by
  rw[Vx];rfl
 rw[V3,ef]
 simp_arith! only[g5,UN,dt,Uz,Mem.upd_same,Mem.upd_del,au hp]
 rw[<- R];unfold uX;generalize H:pL ad (aF E)=K2;generalize O:ub ad (aF E)=K1;cases hf:C.names.filter λx=>!decide (x=C.mn) with
 |nil=>
  unfold ah aC;refine Mb (b:=eC) rfl ?_;rw[if_neg (by simp),<- H]
  unfold pL;simp![IA,atI_3,atI_4,cb];refine#[bg (by lia),bg (by decide),bg (by decide),ak ?_]
  have J:aD C.rows++[D.tup [.str "take",.str C.mn,.int 0]]=aD (C.rows++[.take C.mn 0]):=by rw[bZ];rfl
  rw[J,<- F];have e:∀r∈[Rw.take C.mn 0],bw r=true:=λr X=>by simp only[VC]at X;subst X;rfl
  have g:∀(z:Sta)(n:cS),fin (C.cf z) (C.most-4) (C.names.zip z.nums) C.rows=ap n->n.map (·.1)=C.names->(C.rw (C.rows++[.take C.mn 0])).mark z=.int (aN C z<|.inl 0):=λz n f k=>by
   refine (rH f h4 e<|by simp).trans ?_
   have:nm (fz (C.cf z) n [.take C.mn 0]) C.mn=aN C z (.inl 0):=by
    show nm (sN n C.mn _) C.mn=_;rw[rA (by rw[k];exact o.mn),if_pos rfl];rfl
   rw[this]
  exact h _ (Z _ e #[#[o.mn,YA _,by lia],trivial]) #[_,_,g s n1 f1 k1,g t n2 f2 k2,hn] e (by simp)
 |cons x0 xs=>
  have G:x0∈C.names.filter λx=>!decide (x=C.mn):=by rw[hf];exact UP
  have B:=(Vd.mp G).1;have S:¬x0=C.mn:=by simpa using (Vd.mp G).2
  unfold ah aC;refine Mb (b:=true) rfl ?_;rw[if_pos rfl,<- O];unfold ub;rw[UG];simp![atI_0,atI_4];refine#[bg (by decide),bg (by decide),bg (by decide),?_]
  rw[<- H];unfold pL;simp![IA,atI_3,atI_4,cb];refine#[bg (by lia),bg (by decide),bg (by decide),ak ?_]
  have J:aD C.rows++[D.tup [.str "take",.str x0,.int 0],D.tup [.str "sum",.str C.mn,.str C.mn,.str x0]]=aD (C.rows++[.take x0 0,.two "sum" C.mn C.mn x0]):=by rw[bZ];rfl
  rw[J,<- F];have g:∀(z:Sta)(n:cS),fin (C.cf z) (C.most-4) (C.names.zip z.nums) C.rows=ap n->n.map (·.1)=C.names->(C.rw (C.rows++[.take x0 0,.two "sum" C.mn C.mn x0])).mark z=.int _:=λz n f k=>by
   refine (rH f h4 yz<|by simp).trans ?_
   have:nm (fz (C.cf z) n [.take x0 0,.two "sum" C.mn C.mn x0]) C.mn=(nm n C.mn+aN C z (.inl 0)) % C.w:=by
    show nm (sN (sN n x0<|aN C z<|.inl 0) C.mn<|EZ "sum" _ (nm (sN n x0<|aN C z<|.inl 0) x0) C.w) C.mn=_;rw[rA (by rw[n8,k];exact o.mn),if_pos rfl,rA (by rw[k];exact B),rA (by rw[k];exact B),if_neg λz=>S z.symm,if_pos rfl]
    unfold EZ;rw[if_pos rfl]
   rw[this]
  refine h _ (Z _ yz #[#[B,YA _,by lia],#[.inl rfl,o.mn,o.mn,B],trivial]) #[_,_,g s n1 f1 k1,g t n2 f2 k2,?_] yz (by simp)
  rw[he];exact F6 (dN o hs I) (dN o ht I) hn
theorem wa:∀(rs:List Rw),cRs (rs.filter p)<=cRs rs
 |[]=>UQ _
 |r::rs=>by
  have:=wa (p:=p) rs;rw[UZ]
  split
  .simp[cRs];lia
  simp[cRs];lia
theorem uR:∀(rs:List Rw),rs.length<=cRs rs
 |[]=>UQ _
 |r::rs=>by
  have:=uR rs;have:1<=cR r:=by cases r<;>simp[cR]<;>lia
  simp[cRs];lia
theorem vb:∀{rs:List Rw},(∀r∈rs,bw r=true)->cRs rs=rs.length
 |[],_=>rfl
 |r::rs,h=>by
  have f:=h r (by simp_all)
  have p:=vb λq e=>h q (UJ _ e);cases r with
  |ifr=>trivial
  |again=>trivial
  |_=>simp[cRs,cR];lia
def SM(C:Cse)(s t:Sta)(fi:Nat):Prop:=if fi<C.names.length then ∀y,C.names[fi]?=ap y->aN C s (.inr y)≠aN C t (.inr y) else aN C s (.inl 0)≠aN C t (.inl 0)
theorem O7(o:C.Ok)(O:SOk C s)(J:SOk C t)(W:0<C.many)(hc:cRs C.rows<=24)(U:30<=C.most)(f:SM C s t fi)(I:M ln=ap (.lst<|t.nums.map D.int))(S:fin (C.cf s) (C.most-4) (C.names.zip s.nums) C.rows=ap n1)(X:fin (C.cf t) (C.most-4) (C.names.zip t.nums) C.rows=ap n2)(k1:n1.map (·.1)=C.names)(k2:n2.map (·.1)=C.names)(Z:nm n1 C.mn=nm n2 C.mn)(h:∀rs,(C.rw rs).Ok->(C.rw rs).two s t->cRs rs<=26->∀e,D'.nx [d0,d1,d2,ap (C.rw rs).d,ap s.d,ap (.ref ln),d6,ap (.int (fi:Nat)),d8,d9,d10,ap t.d,ap (.int (C.most:Nat)),e] M):
  ∀e,jF ad EE D' [d0,d1,d2,ap C.d,ap s.d,ap (.ref ln),d6,ap (.int (fi:Nat)),d8,d9,d10,ap t.d,ap (.int (C.most:Nat)),e] M:=by
 intro e;have lr:=uR C.rows;have lf:(flt _).length<=C.rows.length:=Vn _ _;have fd:∀{rs:List Rw}{M:Mem}{Q:DK},Q _ M->frz (C.rw rs).d M Q:=λq=>q;unfold jF;have hl:=J.ln
 simp_arith! only[aC,ao,ai,ac,bc,aa,dt,Uz,bj,aO,I,md]
 unfold SM at f
 by_cases c:fi<C.names.length
 .rw[if_pos c]at f
  rw[if_pos (by simp;lia)]
  obtain⟨y,H⟩:∃y,C.names[fi]?=ap y:=#[_,UC c];have R:fm (C.names.map D.str) fi=ap (.str y):=by rw[bz (by lia),UW,UH,H];rfl
  unfold pB
  simp_arith! only[ar,aq,aj,aa,ac,ai,dC,dt,Uz,(@Ca C),aw,aO,atI_1,R]
  refine#[rfl,am λQ' E' B _=>wt o O J (VD H) (f y H) (by lia) (by lia) λrs p G F P=>B _ _ (fd ?_)]
  exact h rs p G (by rw[vb F];lia) _
 .rw[if_neg c]at f
  rw[if_neg (by simp;lia)]
  exact#[rfl,am λQ' E' B _=>sD o O J W f (by lia) (by lia) S X k1 k2 Z λmore p G F P=>B _ _ (fd<|h _ p G (by rw[eh,vb F];lia) _)]
theorem FW(o:C.Ok)(I:SOk C s)(H:SOk C t)(h0:0<C.many)(hc:cRs C.rows<=24)(F:30<=C.most)(Z:SM C s t fi)(G:M ln=ap (.lst<|t.nums.map D.int))(J:fin (C.cf s) (C.most-4) (C.names.zip s.nums) C.rows=ap n1)(O:fin (C.cf t) (C.most-4) (C.names.zip t.nums) C.rows=ap n2)(h:∀rs,(C.rw rs).Ok->(C.rw rs).two s t->cRs rs<=26->D'.rt (aS (C.rw rs) s t) M):
  jJ ad EE D' [d0,d1,d2,ap C.d,ap s.d,ap (.ref ln),d6,ap (.int (fi:Nat)),d8,d9,d10,ap t.d,ap (.int (C.most:Nat)),ay] M:=by
 obtain⟨j1,_,B⟩:=mx _ _ _ _ J 4 [];obtain⟨j2,_,p⟩:=mx _ _ _ _ O 4 [];have W:C.most-4+4=C.most:=by lia
 rw[W,Vl,eG]at B p;have R:=HM B p;have X:=mF B;have S:=mF p;have P:n1.map (·.1)=C.names:=by rw[<- X.2];exact(zA o I).keys
 have U:n2.map (·.1)=C.names:=by rw[<- S.2];exact(zA o H).keys
 have e:∀rs,(C.rw rs).Ok->(C.rw rs).two s t->cRs rs<=26->∀f,ku ad EE D' [d0,d1,d2,ap (C.rw rs).d,ap s.d,ap (.ref ln),d6,ap (.int (fi:Nat)),d8,d9,d10,ap t.d,ap (.int (C.most:Nat)),f] M:=λrs a b c f=>by
  unfold ku
  simp_arith! only[az,aQ,aa,ac,ag,dt,Uz]
  exact#[bg (by simp),h rs a b c]
 unfold jJ
 simp_arith! only[ah,ar,aq,aj,aa,ag,ac,dt,Uz]
 refine#[rfl,aH (λ_ _ q=>dj o I H q)<|jH ?_];rw[R];simp only[af,UN];unfold pz
 simp_arith! only[ah,aC,ao,ai,ac,dC,dt,Uz,aw,aO,atI_0,atI_1,bX,dv,br,aR]
 refine#[trivial,trivial,?_]
 by_cases c:nm n1 C.mn=nm n2 C.mn
 .rw[if_pos (by simpa using c)]
  exact O7 o I H h0 hc F Z G J O P U c e _
 .rw[if_neg (by simpa using c)]
  simp only[aB];exact e C.rows o #[_,_,fK B,fK p,c] (by lia) _
theorem QY(o:C.Ok)(p:SOk C s)(f:SOk C t)(P:0<C.many)(S:cRs C.rows<=24)(B:30<=C.most)(R:SM C s t fi)(F:M ln=ap (.lst<|t.nums.map D.int))(h:∀rs,(C.rw rs).Ok->(C.rw rs).two s t->cRs rs<=26->D'.rt (aS (C.rw rs) s t) M):
  jI ad EE D' [d0,d1,d2,ap C.d,ap s.d,ap (.ref ln),d6,ap (.int (fi:Nat)),d8,d9,d10,ap t.d,ap (.int (C.most:Nat)),ay] M:=by
 have Z:=@Ca C;have lr:=uR C.rows;have lf:(flt _).length<=C.rows.length:=Vn _ _;generalize e:({ C with most:=C.most-4 })=C4;have o4:C4.Ok:=by subst e;exact#[o.m2,o.m1,o.few,by show C.most-4<=_;have:=o.most;lia,o.nd,o.l0,o.l1,o.ok,o.h,o.mn]
 have U:SOk C4 s:=by subst e;exact#[p.ln,p.lp,p.rn,p.rp]
 have t4:SOk C4 t:=by subst e;exact#[f.ln,f.lp,f.rn,f.rp]
 have H:C4.d=C.d:=by subst e;rfl
 have W:(C.most:Int)-4=C4.most:=by subst e;show _=((C.most-4:Nat):Int);lia
 have X:∀z,fin (C4.cf z) C4.most (C4.names.zip z.nums) C4.rows=fin (C.cf z) _ (C.names.zip z.nums) _:=λz=>by
  subst e;exact FG _ _ _
 have G:=yq o.ok;have of:=o.rw G (by rw[ip sV];decide)
 unfold jI
 simp_arith! only[ah,aC,ao,ai,aq,aj,aa,ac,dC,dt,Uz,md,W]
 rw[<- H];refine#[rfl,aH (λ_ _ q=>dj o4 U t4 q)<|jH ?_];rw[H];unfold EV
 by_cases c:(C4.run s).1=true/\(C4.run t).1=true
 .rw[if_pos c]
  have I:=Bf c.1;have J:=Bf c.2;rw[X]at I J;exact FW o p f P S B R F I J h
 .rw[if_neg c]
  refine#[rfl,aH (λ_ _ q=>qT (by lia) o.ok q) ?_]
  simp_arith! only[IA]
  refine#[bg (by simp),bg (by simp),?_]
  have O:∀z,fin ((C.rw<|flt C.rows).cf z) _ (C.names.zip z.nums) (flt C.rows)=ap _:=λz=>mV _ _ _ sV (by show _<=C.most-4;lia)
  exact FW of p.rw f.rw P (UL (wa _) S) B R F (O s) (O t) h
noncomputable def gA(xs:ab_)(i:Nat):Int:=(xs[i]?).getD 0
def FN(xs ys:ab_):Nat:=((Vu xs.length).filter λi=>decide (gA xs i≠gA ys i)).length
theorem vA{q:Nat->Bool}{j:Nat}:∀(l:List Nat),l.Nodup->(∀i∈l,i≠j->p i=true->q i=true)->(l.filter p).length<=(l.filter q).length+if j∈l then 1 else 0
 |[],_,_=>by simp
 |i::l,nd,h=>by
  have f:=VQ.mp nd;have F:=vA (p:=p) (q:=q) (j:=j) l f.2 (by simp_all)
  by_cases e:i=j
  .subst e
   rw[if_neg f.1]at F;rw[UZ,UZ]
   split<;>split<;>(try simp)<;>lia
  have G:(if j∈i::l then 1 else 0)=if j∈l then 1 else 0:=by
   have:j∈i::l↔j∈l:=by simp[Vb e,e]
   simp only[this]
  rw[G,UZ,UZ]
  by_cases B:p i=true
  .rw[if_pos B,if_pos (by simp_all),UO,UO];lia
  rw[if_neg B]
  split
  .rw[UO];lia
  .exact F
theorem og(e:j<xs.length):gA (xs.set j v) i=if i=j then v else gA xs i:=by
 unfold gA
 grind
theorem mU(h:j<ys.length):FN xs (ys.set j v)<=FN xs ys+1:=by
 unfold FN;have:=vA (p:=λi=>decide (gA xs i≠gA (ys.set j v) i)) (q:=λi=>decide _) (Vu xs.length) Yp λi _ e f=>by
  rw[og h,if_neg e]at f;exact f
 split at this<;>lia
theorem kf:FN xs xs=0:=by
 unfold FN;rw[Zf.mpr (by lia)];rfl
theorem uE(h:i<xs.length):gA xs i∈xs:=by
 unfold gA
 simp_all
theorem BX(h:i<xs.length):fm (xs.map D.int) (i:Int)=ap (.int<|gA xs i):=by
 rw[bz (by lia),UW,UH]
 unfold gA;rw[UC h];rfl
structure Cm(k:Pt)(ln lp:eg)(ns ps:ab_)(M0 M:Mem):Prop where
 has:Has k M
 a:ln≠k.p/\ln≠k.q
 b:lp≠k.p/\lp≠k.q
 ab:ln≠lp
 en:M ln=ap (.lst<|ns.map D.int)
 ep:M lp=ap (.lst<|ps.map D.int)
 n0:M0 ln=ay
 p0:M0 lp=ay
 keep:∀b o,b≠k.p->b≠k.q->M0 b=ap o->M b=ap o
structure Df(m:Int)(nums pieces ns ps:ab_)(fi cnt:Nat):Prop where
 ln:ns.length=nums.length
 lp:ps.length=pieces.length
 rn:∀v∈ns,0<=v/\v<m
 rp:∀v∈ps,0<=v/\v<m
 few:FN nums ns+FN pieces ps<=cnt
 fi:if fi<nums.length then gA nums fi≠gA ns fi else gA pieces 0≠gA ps 0
theorem Cm.dr(c:Cm k ln lp ns ps M0 M)(d:Dr k M M'):Cm k ln lp ns ps M0 M':=
 #[d.1,c.a,c.b,c.ab,by rw[d.2 ln c.a.1 c.a.2];exact c.en,by rw[d.2 lp c.b.1 c.b.2];exact c.ep,c.n0,c.p0,λb o e f=>by rw[d.2 b e f];exact c.keep b o e f]
theorem eM:(xs.map D.int).set j (.int v)=(xs.set j v).map D.int:=by simp_all
theorem Cm.sN(c:Cm k ln lp ns ps M0 M):Cm k ln lp (ns.set j v) ps M0 (M.upd ln<|.lst<|(ns.set j v).map D.int):=
 #[c.has.upd c.a,c.a,c.b,c.ab,Mem.upd_same,by rw[ae c.ab.symm];exact c.ep,c.n0,c.p0,λb o f h e=>by rw[ae (Mem.ne e c.n0)];exact c.keep b o f h e]
theorem Cm.sP(c:Cm k ln lp ns ps M0 M):Cm k ln lp ns (ps.set j v) M0 (M.upd lp<|.lst<|(ps.set j v).map D.int):=
 #[c.has.upd c.b,c.a,c.b,c.ab,by rw[ae c.ab];exact c.en,Mem.upd_same,c.n0,c.p0,λb o f h e=>by rw[ae (Mem.ne e c.p0)];exact c.keep b o f h e]
theorem iI(h:∀v∈xs,0<=v/\v<m)(f:0<=v/\v<m):∀w∈xs.set j v,0<=w/\w<m:=λw e=>by
 grind
theorem Df.sN(d:Df m nums pieces ns ps fi cnt)(B:j<nums.length)(h:0<=v/\v<m)(p:v≠gA nums j):Df m nums pieces (ns.set j v) ps fi (cnt+1):=by
 have f:j<ns.length:=by rw[d.ln];exact B
 refine#[by rw[VR];exact d.ln,d.lp,iI d.rn h,d.rp,?_,?_]
 .have:=mU (xs:=nums) (v:=v) f
  have:=d.few;lia
 have:=d.fi
 split at this
 .rename_i c
  rw[if_pos c,og f]
  split
  .rename_i e;rw[e];exact λz=>p z.symm
  exact this
 rename_i c;rw[if_neg c];exact this
theorem Df.sP(d:Df m nums pieces ns ps fi cnt)(B:j<pieces.length)(h:0<=v/\v<m)(p:v≠gA pieces j):Df m nums pieces ns (ps.set j v) fi (cnt+1):=by
 have f:j<ps.length:=by rw[d.lp];exact B
 refine#[d.ln,by rw[VR];exact d.lp,d.rn,iI d.rp h,?_,?_]
 .have:=mU (xs:=pieces) (v:=v) f
  have:=d.few;lia
 have:=d.fi
 split at this
 .rename_i c;rw[if_pos c];exact this
 rename_i c
 rw[if_neg c,og f]
 split
 .rename_i e;rw[e];exact λz=>p z.symm
 exact this
theorem TW(c:Cm k ln lp ns ps M0 M)(d:Df m nums pieces ns ps fi cnt)(m2:2<=m)(m1:m<=997)(rn:∀v∈nums,0<=v/\v<m)(rp:∀v∈pieces,0<=v/\v<m)(hp:fm pl 0=ap (.int m))(s0:0<sm)(s1:sm<=(nums.length:Int)+pieces.length)(hb:nums.length+pieces.length<=1000)(h:∀ns' ps' M' d10',Cm k ln lp ns' ps' M0 M'->Df m nums pieces ns' ps' fi (cnt+1)->D'.nx [ap (.ref k.p),d1,d2,ap (.tup pl),ap (bJ nums pieces),ap (.ref ln),ap (.ref lp),d7,ap (.int sm),d9,d10',d11,d12,d13] M'):
  ug ad EE D' [ap (.ref k.p),d1,d2,ap (.tup pl),ap (bJ nums pieces),ap (.ref ln),ap (.ref lp),d7,ap (.int sm),d9,d10,d11,d12,d13] M:=by
 have fi':∀{v:Int}{M:Mem}{Q:DK},Q _ M->frz (.int v) M Q:=λz=>z;refine#[rfl,aG c.has s0 (by lia) λr M1 a1 b1 dr=>fi' ?_]
 have c1:=c.dr dr;simp[af];unfold sQ
 simp_arith! only[aC,ao,ai,bc,aa,ac,dt,Uz,bj,aO,c1.en,UA,md,d.ln]
 obtain⟨j,hj⟩:∃j:Nat,r=j:=#[r.toNat,by lia]
 subst hj
 by_cases q:j<nums.length
 .rw[if_pos (by simp;lia)]
  unfold si
  simp_arith! only[ar,aq,aj,aa,ac,ai,dC,bJ,dt,Uz,aw,aO,hp,atI_0,BX q]
  refine#[rfl,am λQ' E' hq _=>c_ c1.has m2 m1 (rn _<|uE q) λw M2 w0 w1 wn dr2=>hq _ _ (fi' ?_)];have c2:=c1.dr dr2
  simp_arith! only[cM,ac,dt,Uz,kL,c2.en,UA,fh (by trivial) (show (j:Int)<ns.length by rw[d.ln];lia),eM]
  exact h _ _ _ _ c2.sN (d.sN q #[w0,w1] wn)
 rw[if_neg (by simp;lia)]
 unfold rW
 simp_arith! only[ah,ar,ai,bc,aa,ac,dt,Uz,bj,aO,c1.en,UA,md,d.ln,af,UN]
 obtain⟨i,hi,hi2⟩:∃i:Nat,j-nums.length=(i:Int)/\i<pieces.length:=#[j-nums.length,by lia,by lia]
 rw[hi];unfold sh
 simp_arith! only[ar,aq,aj,aa,ac,ai,dC,bJ,dt,Uz,aw,aO,hp,atI_1,BX hi2]
 refine#[rfl,am λQ' E' hq _=>c_ c1.has m2 m1 (rp _<|uE hi2) λw M2 w0 w1 wn dr2=>hq _ _ (fi' ?_)];have c2:=c1.dr dr2
 simp_arith! only[cM,ac,dt,Uz,kL,c2.ep,UA,fh (by lia) (show (i:Int)<ps.length by rw[d.lp];lia),eM]
 exact h _ _ _ _ c2.sP (d.sP hi2 #[w0,w1] wn)
mutual
theorem Ov{names:ab'}{m a b:Int}(h:a<=b):∀(r:Rw),fO names m a r->fO names m b r
 |.put x k,h1=>h1
 |.take x i,h1=>#[h1.1,h1.2.1,Int.lt_of_lt_of_le h1.2.2 h]
 |.pick x y,h1=>#[h1.1,h1.2.1,Int.lt_of_lt_of_le h1.2.2 h]
 |.two w x y z,h1=>h1
 |.ifr x c d,h1=>by
  simp only[fO]at h1 ⊢;exact#[h1.1,k7 h c h1.2.1,k7 h d h1.2.2]
 |.again x c,h1=>by
  simp only[fO]at h1 ⊢;exact#[h1.1,k7 h c h1.2]
theorem k7{names:ab'}{m a b:Int}(h:a<=b):∀(rs:List Rw),bi names m a rs->bi names m b rs
 |[],_=>trivial
 |r::rs,h1=>#[Ov h r h1.1,k7 h rs h1.2]
end
theorem Lj(l:ab')(p:aI->Bool):((l.map Vo).filter p).length=((Vu l.length).filter λi=>p (.inr<|(l[i]?).getD ("":Str))).length:=by
 have e:l=(Vu l.length).map λi=>l[i]?.getD ("":Str):=List.ext_getElem (by simp) λi h f=>by simp_all
 conv=>lhs;rw[e]
 rw[Vq,Vx,UA];rfl
structure CaOk(C:Cse)(s t:Sta)(few:Nat):Prop where
 o:C.Ok
 hs:SOk C s
 ht:SOk C t
 two:C.two s t
 un:(aK C s t).length<=few
 h0:0<C.many
 h1:C.many<=40
 cn:cRs C.rows<=26
 one:∀x∈C.names,wS x
 ms:20<=C.most/\C.most<=60
 n12:C.names.length<=12
theorem kM(o:C.Ok)(e:SOk C s)(h:C.names[i]?=ap y):aN C s (.inr y)=gA s.nums i:=by
 unfold gA;rw[(oj o.nd e.ln.symm h)];rfl
theorem Lx(o:C.Ok)(f:SOk C s)(h:SOk C t):(aK C s t).length=FN s.nums t.nums+FN s.pieces t.pieces:=by
 unfold aK dw;rw[Yb,UU,Lj];congr 1
 .unfold FN
  rw[f.ln];congr 1;refine Wj λi p=>?_;have e:C.names[i]?=ap (C.names[i]?.getD ""):=by rw[UC (by simp_all)];rfl
  rw[kM o f e,kM o h e]
 unfold FN;rw[Vx,UA,f.lp];rfl
theorem PJ:aK (C.rw rs) s t=aK C s t:=rfl
theorem cut2{a b c:D}:iS [a,b,c,d,e] ay (ap 2)=[a,b]:=rfl
theorem RI{a b c:D}:iS [a,b,c,d,e] (ap 3) ay=[d,e]:=rfl
theorem Dx(f1:1<=few)(f5:few<=5)(hp:Has k M)(h:∀C s t M',CaOk C s t few->Kq k M M'->Q (aS C s t) M'):Ba ad [.ref k.p,.int 24,.int (few:Nat)] M Q E:=by
 have ft:∀{xs:List D}{M:Mem}{Q:DK},Q (.tup xs) M->frz (.tup xs) M Q:=λz=>z;have I:∀{v:Int}{M:Mem}{Q:DK},Q (.int v) M->frz (.int v) M Q:=λz=>z;rw[TB];unfold zg
 simp_arith! only[ah,ar,aq,aj,aa,ag,ac,dt,Uz]
 refine#[rfl,am λQ' E' Z _=>E8 (v:=24) (by decide) (by decide) hp λm many names rows mk M1 pl hc q1=>Z _ _ (ft ?_)]
 simp only[af,UN];unfold oR;have t4:=pl.t.k0;have t5:=pl.t.k1;have m2:=pl.t.m2;have m1:=pl.t.m1;have l0:=pl.t.n0;have l1:=pl.t.n1;obtain⟨f,hmn,mn1,mn40,mle⟩:∃f:Nat,(if many>1 then many else 1)=(f:Int)/\1<=f/\f<=40/\many<=(f:Int):=by
  refine#[(if many>1 then many else 1).toNat,?_,?_,?_,?_]<;>split<;>lia
 simp_arith! only[ah,ar,ai,aq,qS,bu,cC,aQ,aa,ag,bc,ac,dC,ki,dt,Uz,PL,cut2,RI,frz,aw,aO,atI_2,DR,hmn,aU,UO,V0]
 refine#[bg (by simp),bg (by simp),bg (by simp),?_]
 simp only[Vf,Vc,af,UN];have pl':PlG m (f:Int) names rows mk:=#[#[pl.t.m2,pl.t.m1,pl.t.n0,pl.t.n1,by lia,by lia],pl.nd,k7 mle _ pl.ok,pl.h,pl.cn,pl.l,pl.ln,pl.mkm,pl.one]
 have epl:D.tup [.int m,.tup (names.map D.str),.int (f:Int),.tup (aD rows),.str mk]=ki m (f:Int) names rows mk:=rfl
 try rw[epl]
 unfold pN
 simp_arith! only[ah,ar,aq,aj,aa,ag,ac,dt,Uz]
 refine#[rfl,am λQ' E' Z _=>oh q1.1 pl'.t λnums pieces M2 ln lp rn rp q2=>Z _ _ (ft ?_)];simp only[af,UN];unfold oY
 simp_arith! only[ah,ar,bc,ai,aa,ag,ac,dC,bJ,dt,Uz,aw,aO,atI_0,eL]
 intro P han;simp only[af,UN];unfold oQ
 simp_arith! only[ah,ar,bc,ai,aa,ag,ac,dC,dt,Uz,aw,aO,atI_1,eL]
 intro O F;simp only[af,UN];have nap:P≠O:=Mem.ne Mem.upd_same F;rw[ae nap.symm]at F;have W:nums.length=names.length:=ln;have hlP:pieces.length=f:=by lia
 have c0:Cm k P O nums pieces M2 ((M2.upd P<|.lst<|nums.map D.int).upd O<|.lst<|pieces.map D.int):=by
  have a:=q2.1.nep han;have b:=q2.1.nep F;exact#[(q2.1.upd a).upd b,a,b,nap,by rw[ae nap,Mem.upd_same],Mem.upd_same,han,F,λb' o _ _ e=>by rw[ae (Mem.ne e F),ae (Mem.ne e han)];exact e]
 generalize (M2.upd P<|.lst<|nums.map D.int).upd O (.lst<|pieces.map D.int)=M3 at c0 ⊢;have es:D.tup [.tup (nums.map D.int),.tup (pieces.map D.int)]=bJ nums pieces:=rfl;rw[es];unfold oE
 simp_arith! only[ah,ar,aq,aj,ai,bc,aa,ag,ac,dC,dt,Uz,bj,aO,c0.en,UA,cB]
 refine#[.inl #[by decide,by decide],rfl,aG c0.has (by lia) (by lia) λr M4 a4 b4 d4=>I ?_]
 have R:=c0.dr d4;obtain⟨fi,hfi⟩:∃fi:Nat,r=(fi:Int):=#[r.toNat,by lia]
 subst hfi;simp only[af,UN];unfold pi
 simp_arith! only[ah,ar,bc,aa,ag,ac,dt,Uz,bj,aO,R.en,UA,af,UN]
 unfold o7
 have rest:∀(ns ps:ab_)(M5:Mem)(sm:Int),Cm k P O ns ps M2 M5->Df m nums pieces ns ps fi 1->0<sm->sm<=(nums.length:Int)+pieces.length->
   (jz ad<|aF E) { nx:=λx M'=>drp Q D.non M',rt:=drp Q } [ap (.ref k.p),ap (.int 24),ap (.int (few:Nat)),ap (ki m (f:Int) names rows mk),ap (bJ nums pieces),ap (.ref P),ap (.ref O),ap (.int (fi:Nat)),ap (.int sm),ay,ay,ay,ay,ay] M5:=by
  intro ns ps M5 sm X d5 s0 s1;unfold jz
  simp_arith! only[ah,cJ,fW,aa,ag,ai,ac,dC,dt,Uz,gu,md]
  refine#[by lia,by lia,?_]
  refine cA (λxs Y N=>∃(ns ps:ab_)(c9 S:Option D)(j:Nat),xs.length+j=few-1/\Y=[ap (.ref k.p),ap (.int 24),ap (.int (few:Nat)),ap (ki m (f:Int) names rows mk),ap (bJ nums pieces),ap (.ref P),ap (.ref O),ap (.int (fi:Nat)),ap (.int sm),c9,S,ay,ay,ay]/\Cm k P O ns ps M2 N/\Df m nums pieces ns ps fi (1+j))
   (λ_ _ _ _=>aL) ?_ ?_ _ _ _ #[ns,ps,ay,ay,0,by simp[dD],rfl,X,d5]
  .rintro Y N ⟨ns,ps,c9,S,j,e1,rfl,G,H⟩
   have ej:1+j=few:=by simp at e1;lia
   rw[ej]at H;unfold qc
   simp_arith! only[ah,ar,aQ,bc,aa,ag,ac,dt,Uz,ci,dI,aO,G.en,G.ep]
   refine#[bg (by simp),?_]
   have et:D.tup [.tup (ns.map D.int),.tup (ps.map D.int)]=(Sta.mk ns ps).d:=rfl;simp only[af,UN,et];unfold pk
   simp_arith! only[ah,ar,aq,aj,ai,aa,ag,ac,dC,dt,Uz]
   refine#[rfl,aG G.has (by decide) (by decide) λr2 M7 a7 b7 d7=>I ?_]
   have c7:=G.dr d7
   simp_arith! only[aU,af,UN]
   obtain⟨J,hmo,mo1,mo2⟩:∃J:Nat,30+r2=(J:Int)/\30<=J/\J<50:=#[(30+r2).toNat,by lia,by lia,by lia]
   rw[hmo];generalize B:(#[m,f,names,rows,mk,J]:Cse)=C;have o:C.Ok:=by subst B;exact#[m2,m1,by show f<=100;lia,by show J<=10000;lia,pl.nd,by show 0<names.length;lia,by show names.length<=100;lia,pl'.ok,UL pl.h (by decide),pl.mkm]
   have hs:SOk C #[nums,pieces]:=by subst B;exact#[W,hlP,rn,rp]
   have ht:SOk C #[ns,ps]:=by subst B;exact#[H.ln.trans W,H.lp.trans hlP,H.rn,H.rp]
   have eN:C.names.length=nums.length:=by subst B;exact W.symm
   have ed:ki m (f:Int) names rows mk=C.d:=by subst B;rfl
   have es2:bJ nums pieces=(Sta.mk nums pieces).d:=rfl;have em:(J:Nat)=C.most:=by subst B;rfl
   rw[ed,es2,em];refine QY (s:=#[nums,pieces]) (t:=#[ns,ps]) o hs ht (by subst B;show 0<f;lia) (by subst B;show cRs rows<=24;lia) (by rw[<- em];lia) ?_ c7.en λrs o1 tw cr=>ak (h _ _ _ _ #[o1,hs.rw,ht.rw,tw,?_,by subst B;show 0<f;lia,by subst B;exact mn40,cr,by subst B;exact pl.one,by subst B;exact#[by show 20<=J;lia,by show J<=60;lia],by subst B;exact pl.t.n1] ?_)
   .unfold SM
    rw[eN];have hd:=H.fi
    split
    .rename_i c
     rw[if_pos c]at hd;intro y hy;rw[kM o hs hy,kM o ht hy];exact hd
    .rename_i c
     rw[if_neg c]at hd;exact hd
   .rw[PJ,Lx o hs ht]
    exact H.few
   .exact q1.trans (q2.trans #[c7.has,c7.keep])
  .rintro x xs Y N ⟨ns,ps,c9,S,j,e1,rfl,G,H⟩ D' hD _ _ _
   simp only[UO]at e1;simp only[af,UN];refine TW G H m2 m1 rn rp (by simp) s0 s1 (by lia) λns' ps' M' d10' c' d'=>hD _ _ #[ns',ps',_,_,j+1,by lia,rfl,c',?_]
   rw[<- Nat.add_assoc];exact d'
 simp_arith! only[ah,aC,ao,ai,bc,aa,ag,ac,dt,Uz,bj,aO,R.en,UA,EW,md]
 have d0:∀{j:Nat}{v:Int}(hj:j<nums.length),fi=j->0<=v->v<m->v≠gA nums j->Df m nums pieces (nums.set j v) pieces fi 1:=λ{j v} hj e v0 v1 vn=>by
  subst e;refine#[VR,rfl,iI rn #[v0,v1],rp,?_,?_]
  .have h1:=mU (xs:=nums) (ys:=nums) (v:=v) hj
   have h2:=kf (xs:=nums);have h3:=kf (xs:=pieces);lia
  .rw[if_pos hj,og hj,if_pos rfl];exact λz=>vn z.symm
 by_cases q:fi<nums.length
 .rw[if_pos (by simp;lia)]
  unfold sj;have hp0:fm [D.int m,.tup (names.map D.str),.int (f:Int),.tup (aD rows),.str mk] 0=ap (.int m):=by simp
  simp_arith! only[ar,aq,aj,aa,ag,ac,ai,dC,ki,dt,Uz,aw,aO,hp0,R.en,BX q]
  refine#[rfl,am λQ' E' Z _=>c_ R.has m2 m1 (rn _<|uE q) λw M5 w0 w1 wn U=>Z _ _ (I ?_)];have X:=R.dr U
  simp_arith! only[cM,ac,dt,Uz,kL,X.en,UA,fh (show (0:Int)<=(fi:Int) by lia) (show (fi:Int)<(nums.length:Nat) by lia),UW,eM]
  try rw[epl]
  exact rest _ _ _ _ X.sN (d0 q rfl w0 w1 wn) (by lia) (by lia)
 .rw[if_neg (by simp;lia)]
  unfold tP;have hP:0<pieces.length:=by lia
  have hp0:fm [D.int m,.tup (names.map D.str),.int (f:Int),.tup (aD rows),.str mk] 0=ap (.int m):=by simp
  have ga0:=BX (xs:=pieces) hP;have ga0':fm (pieces.map D.int) 0=ap (.int<|gA pieces 0):=ga0
  simp_arith! only[ah,ar,aq,aj,aa,ag,ac,ai,dC,ki,dt,Uz,aw,aO,hp0,R.ep,ga0']
  refine#[rfl,am λQ' E' Z _=>c_ R.has m2 m1 (rp _<|uE hP) λw M5 w0 w1 wn U=>Z _ _ (I ?_)];have X:=R.dr U;have ix0':ve pieces.length 0=ap 0:=fh (by decide) (by lia)
  simp_arith! only[cM,ac,dC,dt,Uz,kL,X.ep,UA,ix0',eM]
  have G:=X.sP (j:=0) (v:=w);generalize M5.upd O (.lst<|(pieces.set 0 w).map D.int)=M6 at G ⊢;unfold ut
  simp_arith! only[ar,aq,ai,bc,aa,ag,ac,dC,dt,Uz,bj,aO,G.ep,UA,VR,cB,FR,aU,frz,af,UN]
  refine#[.inl #[by decide,by decide],?_]
  try rw[epl]
  refine rest _ _ _ _ G #[rfl,VR,rn,iI rp #[w0,w1],?_,?_] (by split<;>lia) (by split<;>lia)
  .have h1:=mU (xs:=pieces) (ys:=pieces) (v:=w) hP
   have h2:=kf (xs:=nums);have h3:=kf (xs:=pieces);lia
  .rw[if_neg q,og hP,if_pos rfl];exact λz=>wn z.symm
theorem p8(h:Q (aS C s t) M):frz (aS C s t) M Q:=h
end _T
namespace _3
open PySem _2
mutual
def good:D->Prop
 |.non=>True
 |.int i=>i.natAbs<10 ^ 6
 |.str x=>x.length<=100/\∀c∈x.cps.toList,c<16 ^ 8
 |.tup xs=>iX xs
 |_=>False
def iX:List D->Prop
 |[]=>True
 |x::xs=>good x/\iX xs
end
mutual
noncomputable def sz:D->Nat
 |.tup xs=>5+qL xs
 |_=>2000
noncomputable def qL:List D->Nat
 |[]=>0
 |x::xs=>sz x+2+qL xs
end
theorem HJ{i:Int}(h:i.natAbs<10 ^ 6):i.natAbs.log2<1920:=by
 by_cases a:i.natAbs=0
 .rw[a];decide
 exact(Zu a).mpr (UM h<|UL (by decide:10 ^ 6<=2 ^ 20)<|VE (by decide)<|by decide)
mutual
theorem J8:∀d:D,good d->(fw d).showable=true
 |.non,_=>by simp only[fw,WD]
 |.int i,h=>by simp only[fw,WD,decide_eq_true_eq];exact HJ h
 |.str x,_=>by simp only[fw,WD]
 |.tup xs,h=>by simp only[fw,WD];exact oV xs h
 |.bl _,h=>h.elim
 |.lst _,h=>h.elim
 |.ty _,h=>h.elim
 |.ref _,h=>h.elim
 |.mt _,h=>h.elim
 |.ml _,h=>h.elim
theorem oV:∀xs:List D,iX xs->X1 (gw xs)=true
 |[],_=>by simp only[gw,X1]
 |x::xs,h=>by simp only[gw,X1,J8 x h.1,oV xs h.2,Bool.and_self]
end
theorem KZ(a:ab'):(tupleText a).length<=piled a+5:=by
 unfold tupleText;rw[aa9,aa9];have c:("(":Str).length=1:=rfl;have b:((if a.length==1 then ",)" else ")":String):Str).length<=2:=by split<;>decide
 by_cases h:a=[]
 .subst h
  trivial
 have:=join_length_add a h;lia
mutual
theorem EU:∀d:D,good d->(fw d).shown.length<=sz d
 |.non,_=>by simp only[fw,Xy,sz];decide
 |.int i,h=>by simp only[fw,Xy,sz];exact UL (PyProof.Rows.int_text_len_1921<|HJ h) (by decide)
 |.str x,h=>by
  simp only[fw,Xy,sz];have:=StrLaws.reprText_len x h.2;have:=h.1;lia
 |.tup xs,h=>by
  simp only[fw,Xy,sz];have:=KZ (W0<|gw xs);have:=j9 xs h;lia
 |.bl _,h=>h.elim
 |.lst _,h=>h.elim
 |.ty _,h=>h.elim
 |.ref _,h=>h.elim
 |.mt _,h=>h.elim
 |.ml _,h=>h.elim
theorem j9:∀xs:List D,iX xs->piled (W0<|gw xs)<=qL xs
 |[],_=>by simp[gw,W0,piled,qL]
 |x::xs,h=>by
  have b:=EU x h.1;have a:=j9 xs h.2;simp only[gw,W0,qL];simp[piled]at a ⊢;lia
end
end _3
namespace _T
open PySem _2 _3
variable{x:CX}{C:Cse}
section
variable{names:ab'}{m many:Int}
mutual
theorem sz_R:∀r:Rw,sz r.d+2<=9000*cR r
 |.put _ _=>by simp[Rw.d,sz,qL,cR]
 |.take _ _=>by simp[Rw.d,sz,qL,cR]
 |.pick _ _=>by simp[Rw.d,sz,qL,cR]
 |.two _ _ _ _=>by simp[Rw.d,sz,qL,cR]
 |.ifr _ a b=>by
  have:=wy a;have:=wy b;simp only[Rw.d,sz,qL,cR];lia
 |.again _ a=>by
  have:=wy a;simp only[Rw.d,sz,qL,cR];lia
theorem wy:∀rs:List Rw,qL (aD rs)<=9000*cRs rs
 |[]=>by simp[aD,qL,cRs]
 |r::rs=>by
  have:=sz_R r;have:=wy rs;simp only[aD,qL,cRs];lia
end
theorem ba{x:Str}(h:wS x):good (.str x):=by
 obtain⟨n,c,g,b,e,f,rfl⟩:=h;refine#[?_,λd a=>?_]
 .show (V6 n c).size<=100
  rw[Array.size_replicate];lia
 simp at a;lia
theorem g8(h:w∈["put","take","pick","sum","by","less","same","if","again"]):good (.str<|WU w):=by
 simp at h;rcases h with rfl|rfl|rfl|rfl|rfl|rfl|rfl|rfl|rfl<;>exact#[by decide +kernel,by decide +kernel]
theorem pI(a:0<=i)(b:i<1000):good (.int i):=by
 show i.natAbs<10 ^ 6;lia
mutual
theorem Q_(c:∀x∈names,wS x)(i:m<=997)(k1:many<=40):∀r:Rw,fO names m many r->good r.d
 |.put x k,h=>by
  simp only[fO,cP]at h;exact#[g8 (w:="put") (by simp),ba (c _ h.1),pI h.2.1 (by lia),trivial]
 |.take x k,h=>by
  simp only[fO,cP]at h;exact#[g8 (w:="take") (by simp),ba (c _ h.1),pI h.2.1 (by lia),trivial]
 |.pick x y,h=>by
  simp only[fO,cP]at h;exact#[g8 (w:="pick") (by simp),ba (c _ h.1),ba (c _ h.2.1),trivial]
 |.two w x y z,h=>by
  simp only[fO,cP]at h;obtain⟨j,e,g,f⟩:=h;rcases j with rfl|rfl|rfl|rfl
  .exact#[g8 (w:="sum") (by simp),ba (c _ e),ba (c _ g),ba (c _ f),trivial]
  .exact#[g8 (w:="by") (by simp),ba (c _ e),ba (c _ g),ba (c _ f),trivial]
  .exact#[g8 (w:="less") (by simp),ba (c _ e),ba (c _ g),ba (c _ f),trivial]
  .exact#[g8 (w:="same") (by simp),ba (c _ e),ba (c _ g),ba (c _ f),trivial]
 |.ifr x a b,h=>by
  simp only[fO]at h;exact#[g8 (w:="if") (by simp),ba (c _ h.1),k9 c i k1 a h.2.1,k9 c i k1 b h.2.2,trivial]
 |.again x a,h=>by
  simp only[fO]at h;exact#[g8 (w:="again") (by simp),ba (c _ h.1),k9 c i k1 a h.2,trivial]
theorem k9(a:∀x∈names,wS x)(b:m<=997)(k1:many<=40):∀rs:List Rw,bi names m many rs->iX (aD rs)
 |[],_=>trivial
 |r::rs,h=>by
  simp only[bi]at h;exact#[Q_ a b k1 r h.1,k9 a b k1 rs h.2]
end
end
def J3:Nat->D->Prop
 |_,.non=>True
 |_,.bl _=>True
 |_,.int _=>True
 |_,.str _=>True
 |n+1,.tup xs=>xs.length<=100000/\∀x∈xs,J3 n x
 |n+1,.lst xs=>xs.length<=100000/\∀x∈xs,J3 n x
 |_,_=>False
theorem dS:∀n:Nat,ke (UX n<|.bl true)=ap (UX n true)
 |0=>rfl
 |n+1=>by rw[Wa,ke,dS n];rfl
theorem jD:(UX n true).all id=true:=by simp
theorem i1:bQ "tuple" "bool"=false:=by rfl
theorem i2:bQ "tuple" "int"=false:=by rfl
theorem i3:bQ "tuple" "str"=false:=by rfl
theorem i4:bQ "tuple" "tuple"=true:=by rfl
theorem i5:bQ "tuple" "list"=false:=by rfl
theorem i6:bQ "list" "bool"=false:=by rfl
theorem i7:bQ "list" "int"=false:=by rfl
theorem i8:bQ "list" "str"=false:=by rfl
theorem i9:bQ "list" "tuple"=false:=by rfl
theorem i10:bQ "list" "list"=true:=by rfl
theorem i11:bQ "bool" "bool"=true:=by rfl
theorem i12:bQ "int" "bool"=false:=by rfl
theorem i13:bQ "int" "int"=true:=by rfl
theorem i14:bQ "str" "bool"=false:=by rfl
theorem i15:bQ "str" "int"=false:=by rfl
theorem i16:bQ "str" "str"=true:=by rfl
theorem t1:m5 "bool"=true:=by rfl
theorem t2:m5 "int"=true:=by rfl
theorem t3:m5 "str"=true:=by rfl
theorem t4:m5 "tuple"=true:=by rfl
theorem t5:m5 "list"=true:=by rfl
theorem gJ:∀xs:List D,yv xs xs=xs.map (λz=>D.tup [z,z])
 |[]=>rfl
 |x::xs=>by
  have:=gJ xs;simp[yv]at this ⊢;simp[this]
theorem g7:∀(n:Nat)(x:D)(M:Mem)(Q:DK)(E:DX),J3 n x->Q (.bl true) M->ZO ad (n+1) [x,x] M Q E
 |n,x,M,Q,E,m,h=>by
  cases x with
  |non=>simp![lQ,ic];exact ak h
  |bl b=>simp![lQ,ic,i11,t1,beq_self_eq_true];exact ak h
  |int i=>simp![lQ,ic,i12,i13,t1,t2];exact ak h
  |str i=>simp![lQ,ic,i14,i15,i16,t1,t2,t3];exact ak h
  |tup xs=>
   cases n with
   |zero=>exact m.elim
   |succ n=>
    obtain⟨B,m⟩:=m;simp![lQ,ic,i1,i2,i3,i4,i5,t1,t2,t3,t4,t5,aZ];rw[if_neg (by decide),if_neg (by decide),if_neg (by decide)]
    refine bV (λu c Y M'=>∃(a:List D)(j:Nat)(f l:Option D),u=a.map (λz=>D.tup [z,z])/\(∀z∈a,J3 n z)/\a.length+j<=100000/\c=UX j (.bl true)/\Y=[f,l]/\M'=M) (λ_ _ _ _ _=>aL) ?_ ?_ ?_ _ _ _ _ #[xs,0,ay,ay,gJ xs,m,by omega,rfl,rfl,rfl]
    .rintro c Y M' ⟨a,j,f,l,e,g,o,rfl,rfl,rfl⟩ p r
     simp![Mem.upd_del,au r,dS,jD];exact ak h
    .rintro y u c Y M' ⟨a,j,f,l,e,g,o,rfl,rfl,rfl⟩ N A _
     cases a with
     |nil=>simp at e
     |cons z a=>
      simp only[UG,VY]at e;obtain⟨rfl,rfl⟩:=e;simp only[UO]at o;simp![];refine aH (d:=.bl true) (λQ' E' q=>g7 n z M' Q' E' (g z<|UP ..) q) ?_;simp![];exact A _ _ _ (by simp;exact gn (by omega)) #[a,j+1,_,_,rfl,λw v=>g w (UJ _ v),by omega,by rw[W2],rfl,rfl]
    .rintro y u c Y M' ⟨a,j,f,l,e,g,o,rfl,rfl,rfl⟩
     simp;exact gn (by omega)
  |lst xs=>
   cases n with
   |zero=>exact m.elim
   |succ n=>
    obtain⟨B,m⟩:=m;simp![lQ,ic,i6,i7,i8,i9,i10,t1,t2,t3,t4,t5,aZ];rw[if_neg (by decide),if_neg (by decide),if_neg (by decide)]
    refine bV (λu c Y M'=>∃(a:List D)(j:Nat)(f l:Option D),u=a.map (λz=>D.tup [z,z])/\(∀z∈a,J3 n z)/\a.length+j<=100000/\c=UX j (.bl true)/\Y=[f,l]/\M'=M) (λ_ _ _ _ _=>aL) ?_ ?_ ?_ _ _ _ _ #[xs,0,ay,ay,gJ xs,m,by omega,rfl,rfl,rfl]
    .rintro c Y M' ⟨a,j,f,l,e,g,o,rfl,rfl,rfl⟩ p r
     simp![Mem.upd_del,au r,dS,jD];exact ak h
    .rintro y u c Y M' ⟨a,j,f,l,e,g,o,rfl,rfl,rfl⟩ N A _
     cases a with
     |nil=>simp at e
     |cons z a=>
      simp only[UG,VY]at e;obtain⟨rfl,rfl⟩:=e;simp only[UO]at o;simp![];refine aH (d:=.bl true) (λQ' E' q=>g7 n z M' Q' E' (g z<|UP ..) q) ?_;simp![];exact A _ _ _ (by simp;exact gn (by omega)) #[a,j+1,_,_,rfl,λw v=>g w (UJ _ v),by omega,by rw[W2],rfl,rfl]
    .rintro y u c Y M' ⟨a,j,f,l,e,g,o,rfl,rfl,rfl⟩
     simp;exact gn (by omega)
  |_=>cases n<;>exact m.elim
abbrev RU:=Str×Int×Int
noncomputable def Px(p:RU):D:=.tup [.str p.1,.int p.2.1,.int p.2.2]
theorem xb:∀(a:ab')(xs ys:ab_),j7 (a.map D.str) (xs.map D.int) (ys.map D.int)=(a.zip<|xs.zip ys).map Px
 |[],_,_=>by simp[j7]
 |_::_,[],_=>by simp[j7]
 |_::_,_::_,[]=>by simp[j7]
 |n::a,x::xs,y::ys=>by
  have:=xb a xs ys;simp at this ⊢;rw[<- this];rfl
theorem On{a:ab'}(b:a.Nodup)(c:a.length=xs.length)(e:a.length=ys.length):a.zip (xs.zip ys)=a.map λx=>(x,nm (a.zip xs) x,nm (a.zip ys) x):=by
 refine WT λi=>?_;rw[UH];cases h:a[i]? with
 |none=>
  rw[Option.map_none,VT];rw[Yx];have:=Xm.mp h;lia
 |some x=>
  rw[VI,Xl];exact#[h,Xl.mpr #[oj b c h,oj b e h]]
theorem oq(p:RU->Bool)(f:RU->D)(e:ok M):∀(xs:List RU)(ab5:List D)(i g j:Option D),ab5.length+xs.length<=100000->
  (∀x∈xs,∀K:Bool->Mem->Prop,K (p x) M->tt (ap (.str x.1)::ap (.int x.2.1)::ap (.int x.2.2)::a) M K)->(∀x∈xs,∀K:DK,K (f x) M->te (ap (.str x.1)::ap (.int x.2.1)::ap (.int x.2.2)::a) M K)->Q (ab5++(xs.filter p).map f) M->
  di (dE 3<|aP (af 0)<|aP (af 1)<|aP (af 2) dh) tt te ok Q b (xs.map Px) ab5 (i::g::j::a) M
 |[],ab5,i,g,j,hl,ht,he,h=>#[e,by simpa using h]
 |x::xs,ab5,i,g,j,hl,ht,he,h=>by
  simp only[UO]at hl;rw[UG];refine#[e,?_]
  simp_arith! only[Px,dE,aP,dh,af,UN]
  refine#[rfl,ht x UP _ ?_];cases l:p x with
  |true=>
   rw[if_pos rfl];refine he x UP _ #[gn (by lia),oq p f e xs _ _ _ _ (by simp;lia) (λy c=>ht y (UJ _ c)) (λy c=>he y (UJ _ c)) ?_]
   rw[UZ,if_pos l]at h;simpa using h
  |false=>
   rw[if_neg (by simp)]
   refine oq p f e xs _ _ _ _ (by lia) (λy c=>ht y (UJ _ c)) (λy c=>he y (UJ _ c)) ?_
   rw[UZ,if_neg (by simp[l])]at h
   exact h
theorem MB(a:SOk C s)(b:i<C.many):fm (s.pieces.map D.int) (i:Nat)=ap (.int<|aN C s<|.inl (i:Int)):=by
 have c:i<s.pieces.length:=by rw[a.lp];exact b
 have:fm (s.pieces.map D.int) i=(s.pieces.map D.int)[i]?:=by rfl
 show _=ap (D.int<|(s.pieces[(Yu i)]?).getD 0)
 simp_all
theorem eR(o:C.Ok)(u:SOk C s)(v:SOk C t)(h:∀p,M p=ay->Q (.ref p) (M.upd p<|.lst<|(aK C s t).map kD)):oo ad [aS C s t] M Q E:=by
 have l1:=o.l1;have few:=o.few;have e:=@JZ C s t;have g:=@Ca C;have a:∀z:Sta,z.d=.tup _:=λ_=>rfl;rw[Ul];unfold BC
 simp_arith! only[ah,ar,ac,dt,e,dE,aP,af,dh,UN]
 refine#[rfl,?_];unfold rX;rw[g,a s,a t]
 simp_arith! only[ah,cO,eZ,aZ,HB,aa,ai,ac,dC,aw,aO,atI_0,atI_1,dt,Uz,cH]
 rw[xb,On o.nd u.ln.symm v.ln.symm];refine oq (λx=>decide (x.2.1≠x.2.2)) _ aL _ _ _ _ _ (by simp;lia) (λx _ K q=>?_) (λx _ K q=>q) ?_
 .simp_arith! only[ao,ai,ac,dt,Uz,fX,dv,br,aR]
  simp_all
 intro p w;have B:(((C.names.map λx=>(x,nm (C.names.zip s.nums) x,nm (C.names.zip t.nums) x)).filter λx=>decide (x.2.1≠x.2.2)).map λx:RU=>D.str x.1)=((C.names.map Vo).filter λk=>decide (aN C s k≠aN C t k)).map kD:=by
  rw[Vx,Vx,Vq,Vq];rfl
 simp only[Vc];rw[B]
 simp_arith! only[g5,UN,dt,Uz,Mem.upd_same,Mem.upd_del,au w]
 unfold tz
 simp_arith! only[az,ai,ac,aq,aZ,dt,Uz,cN,VF,UG,Vf,Vc,VS]
 refine#[by lia,by lia,?_]
 rw[UW];refine da (λd=>match d with|.int i=>decide (aN C s (.inl i)≠aN C t (.inl i))|_=>true) id aL (by simp[dD];lia) (λx r K q=>?_) (λx r _ K q=>q) ?_
 .obtain⟨i,c,rfl⟩:=UR.mp r
  have c:=Wc.mp c;have j:(0:Int)+i=i:=by lia
  rw[j]at q ⊢
  simp_arith! only[ao,ai,ac,dC,aw,aO,atI_1,dt,Uz,MB u c,MB v c,fX,dv,br,aR]
  refine#[trivial,trivial,?_];simpa using q
 intro G l;refine bG l ?_;have y:((dD 0 C.many).filter λd=>match d with|.int i=>decide (aN C s (.inl i)≠aN C t (.inl i))|_=>true).map id=(((Vu C.many).map λ(i:Nat)=>(WH i:aI)).filter λk=>decide (aN C s k≠aN C t k)).map kD:=by
  unfold dD;rw[V3,Vx,Vx,Vq];have j:∀i:Nat,(0:Int)+i=i:=λi=>by lia
  simp only[j];rfl
 rw[y];have m:((C.names.map Vo).filter λk=>decide (aN C s k≠aN C t k)).map kD++(((Vu C.many).map λ(i:Nat)=>(WH i:aI)).filter λk=>decide (aN C s k≠aN C t k)).map kD=(aK C s t).map kD:=by
  unfold aK dw;rw[Yb,XN]
 have b:=congrArg V8 m;have A:=vS (s:=s) (t:=t) o;rw[UU,UA (as:=aK C s t)]at b;refine#[bg (by lia),?_]
 rw[m];exact λF f=>ak (h F f)
theorem iM(z:Sta):C.mark z=.non\/∃v,C.mark z=.int v:=by
 unfold Cse.mark wg
 split
 .exact .inr #[_,rfl]
 .exact .inl rfl
theorem bU(h:E c M):aF E c M:=#[M,λ_ _ e=>e,h]
theorem Jp(o:C.Ok)(p:SOk C s)(q:SOk C t)(h:∀a b,C.mark s=.int a->C.mark t=.int b->a≠b->Q (.tup [.int a,.int b]) M)(g:¬C.two s t->E ad.C_NoCase M):jA ad [aS C s t] M Q E:=by
 rw[MU];unfold vG mj;generalize m:kx ad _=K;simp![aS,atI_0,atI_1,atI_3];refine iw o p (jE ?_);simp![aS,atI_0,atI_2,atI_3];refine iw o q (jE ?_);simp![UN];rw[<- m];unfold kx;generalize i:mW ad _=K1;have e:∀{x y:D},(x=.non\/y=.non)->¬C.two s t->(x=.non\/∃v,x=.int v)->(y=.non\/∃v,y=.int v)->ah (aC (yQ (ao<|ai ji (ac 1)<|dC .non)<|ao<|ai ji (ac 2)<|dC .non) (gZ _<|aF E) aB) K1 { nx:=λ_ M'=>drp Q .non M',rt:=drp Q } [ap (aS C s t),ap x,ap y] M:=λ{x y} z f l j=>by
  rcases l with rfl|⟨v,rfl⟩<;>rcases j with rfl|⟨w,rfl⟩
  .exact bU (g f)
  .exact bU (g f)
  .exact bU (g f)
  simp_all
 rcases iM s with e1|⟨a,e1⟩
 .refine e (.inl e1) (λ⟨a,b,x,_⟩=>by simp_all) (iM s) (iM t)
 rcases iM t with e2|⟨b,e2⟩
 .exact e (.inr e2) (λ⟨a,b,_,x,_⟩=>by simp_all) (iM s) (iM t)
 .rw[e1,e2]
  simp_arith! only[ah,aC,ao,ji,dt,Uz]
  simp[aB];rw[<- i];unfold mW
  by_cases c:a=b
  .subst c
   simp_arith! only[ah,aC,ao,ai,ac,bX,dv,br,aR,dt,Uz,gZ]
   exact#[trivial,trivial,bU (g λ⟨x,y,r,f,u⟩=>by simp_all)]
  .simp_arith! only[ah,aC,ao,ai,ac,bX,dv,br,aR,dt,Uz,c]
   refine#[trivial,trivial,?_];exact#[bg (by simp),ak<|by simp_all]
structure CX where
 C:Cse
 s:Sta
 t:Sta
def CX.d(x:CX):D:=aS x.C x.s x.t
def CX.us(x:CX):List aI:=aK x.C x.s x.t
def CX.two(x:CX):Prop:=x.C.two x.s x.t
structure CX.Ok(x:CX):Prop where
 o:x.C.Ok
 hs:SOk x.C x.s
 ht:SOk x.C x.t
 un:x.us.length<=5
structure CX.Tt(x:CX)(T:Nat->Int):Prop where
 ex:∃a b,x.C.mark x.s=.int a/\x.C.mark x.t=.int b/\a≠b/\qi x.us.length (E5 x.C x.s x.t a b)=T
theorem Uw(h:x.two):∃T,x.Tt T:=by
 obtain⟨a,b,e,f,c⟩:=h;exact#[_,#[a,b,e,f,c,rfl]]
theorem JI:(E5 C s t a b).length<=2 ^ (aK C s t).length:=by
 have c:(E5 C s t a b).length<=(gq a b _ _ 0 0).length:=Vn _ _;rw[ko]at c;have:=lh (C:=C) (s:=s) (t:=t);lia
theorem CX.bd{T:Nat->Int}(h:x.Tt T)(e:x.us.length<=5)(i:Nat):-10000000000000<=T i/\T i<=10000000000000:=by
 obtain⟨a,b,g,j,c,rfl⟩:=h.ex;have f:=Cj (i:=i) (n:=x.us.length) (by lia) (xs:=E5 _ _ _ a b) tW
 have l:(E5 _ _ _ a b).length<=32:=UL JI (VE (by decide) e)
 lia
theorem Fu(ok:x.Ok)(h:x.Tt T)(f:∀p,M p=ay->Q (.ref p) (M.upd p<|.lst<|cU x.us.length T)):qY ad [x.d,.int 500] M Q E:=by
 obtain⟨a,b,j,g,c,rfl⟩:=h.ex;have e:=ok.un;have i:2 ^ x.us.length<=32:=VE (by decide) e
 have l:=lh (C:=x.C) (s:=x.s) (t:=x.t);unfold CX.us at e i f;exact j8 (L:=500) ok.o ok.hs ok.ht j g c (by lia) (by lia) (by decide) tW f
theorem HD(ok:x.Ok)(h:x.Tt T)(f:∀p,M p=ay->Q (.ref p) (M.upd p<|.lst ((x.us.zipIdx 0).map λp=>D.tup [kD p.1,QR x.us.length T p.2]))):vt ad [x.d,.int 500] M Q E:=by
 have bd:=CX.bd h ok.un;obtain⟨a,b,j,l,c,rfl⟩:=h.ex;have e:=ok.un;have g:2 ^ x.us.length<=32:=VE (by decide) e
 have m:=lh (C:=x.C) (s:=x.s) (t:=x.t);unfold CX.us at e g f bd;exact xj (L:=500) ok.o ok.hs ok.ht j l c (by lia) (by lia) (by decide) tW rfl (λi _=>#[Int.le_trans (by decide) (bd i).1,Int.le_trans (bd i).2<|by decide]) f
theorem nO{α:Type}(e f:α->D)(g:ok M):∀(l:List α)(ab5:List D)(c:Option D),ab5.length+l.length<=1000->
  (∀x∈l,∀K:DK,K (f x) M->te (ap (e x)::a) M K)->QL (ab5++l.map f) M->di (af 0) dL te ok QL b (l.map e) ab5 (c::a) M
 |[],ab5,c,hl,he,h=>by
  unfold di;exact#[g,by simpa using h]
 |x::l,ab5,c,hl,he,h=>by
  simp only[UO]at hl;rw[UG];unfold di;refine#[g,?_];simp only[af,UN,dL,if_true];refine he x UP _ #[gn (by lia),?_]
  exact nO e f g l _ _ (by simp;lia) (λy i=>he y (UJ _ i)) (by simpa using h)
theorem A7(i:ok M):∀(ys:List CX)(c:Option D),(∀x∈ys,x.Ok)->((∀x∈ys,x.two)->∀c,D'.nx [l,j,c] M)->(¬(∀x∈ys,x.two)->EE ad.C_NoCase M)->
  eV (af 2) (b6<|aj (jA ad) EE 1<|aa (ac 2) ag) D' ok r (ys.map CX.d) [l,j,c] M
 |[],c,_,h,_=>#[i,h (by simp) c]
 |x::ys,c,hx,h,hE=>by
  have e:=hx x UP;rw[UG];unfold eV;refine#[i,?_]
  simp_arith! only[af,UN,b6,aj,aa,ac,ag,dt,Uz]
  refine#[rfl,am λQ' E' m g=>Jp e.o e.hs e.ht (λa b p q f=>m _ _ ?_) λn=>g _ _ (hE λz=>n (z x UP))];refine A7 i ys _ (λy hy=>hx y (UJ _ hy)) (λz=>h λy hy=>?_) λz=>hE λw=>z λy hy=>w y (UJ _ hy);rcases UK.mp hy with rfl|hy
  .exact#[a,b,p,q,f]
  .exact z y hy
noncomputable def jM(d:Nat)(v:Int):D:=.tup [.int (v / ((Wx d (v % (d:Int)).toNat:Nat):Int)),.int (((d:Nat):Int) / ((Wx d (v % (d:Int)).toNat:Nat):Int))]
theorem shD_low:QR n T i=jM (fct n) (T i):=rfl
def rK(us:List aI)(d:Nat)(S:Nat->Int):List D:=(us.zipIdx 0).map λp=>D.tup [kD p.1,jM d (S p.2)]
structure CX.Bs(x y:CX):Prop where
 w:x.C.w=y.C.w
 n:x.C.names=y.C.names
 m:x.C.many=y.C.many
 r:x.C.rows=y.C.rows
theorem CX.Bs.dq(h:x.Bs y)(o:y.C.Ok):aR x.C.d y.C.d=decide (x.C.mn=y.C.mn):=by
 have e:=zn _ _ (fE o);unfold Cse.d at e ⊢;rw[h.w,h.n,h.m,h.r];simp[aR,eW]at e ⊢;simp[e]
def CX.Sm(x y:CX):Prop:=x.C.mn=y.C.mn/\x.us=y.us
theorem vp:∀l:List Int,jm (l.map D.int)=ap l
 |[]=>rfl
 |x::l=>by simp[jm,vp l]
theorem GX{b:List aI}:aR (.lst<|a.map kD) (.lst<|b.map kD)=decide (a=b):=by
 simp[aR,zW]
theorem zi(l:ok M)(m:M lp=ap (.lst<|(x0::r).map CX.d))(e:x0.Ok):
  ∀(ys:List CX)(c:Option D),(∀x∈ys,x.Ok/\x.Bs x0)->((∀x∈ys,x.Sm x0)->∀c,D'.nx [ap (.ref lp),q,c,d3,ap (.lst<|x0.us.map kD),u] M)->(¬(∀x∈ys,x.Sm x0)->EE ad.C_NoCase M)->
  eV (af 2) (iQ ad EE) D' ok I (ys.map CX.d) [ap (.ref lp),q,c,d3,ap (.lst<|x0.us.map kD),u] M
 |[],c,_,h,_=>#[l,by simp_all]
 |x::ys,c,hx,h,hE=>by
  obtain⟨a,bs⟩:=hx x (by simp_all)
  refine#[l,?_];have F:x0.d=.tup _:=JZ;have v:x.d=.tup _:=JZ;have H:=fE a.o;have G:=fE e.o;have i:∀{C:Cse},dv M C.d=C.d:=λ{C}=>rfl;unfold iQ
  simp_arith! only[af,UN,aC,yQ,ao,ai,ac,dC,dt,Uz,aw,v,aO,m,UG,atI_0,F,fX,i,H,G,(bs.dq e.o)]
  refine#[trivial,trivial,?_]
  by_cases f:x.C.mn=x0.C.mn
  .rw[if_neg (by simp[f])]
   refine#[rfl,am λQ' E' A _=>bM a.o a.hs a.ht λp B=>A _ _ (bG B ?_)];have w:∀us:List _,br 60 (.lst<|us.map kD)=true:=λus=>by exact mz 59 _
   have g:∀us:List _,dv M (.lst<|us.map kD)=.lst _:=λ_=>rfl;simp only[g,w,GX];refine#[trivial,trivial,?_]
   by_cases j:x.us=x0.us
   .have b:aK _ _ _=x0.us:=j
    rw[if_neg (by simp[b])]
    refine zi l m e ys _ (by simp_all) (λz=>h λy hy=>?_) (by simp_all)
    rcases UK.mp hy with rfl|hy
    .trivial
    simp_all
   .have b:¬aK _ _ _=x0.us:=j
    rw[if_pos (by simp[b])]
    exact hE λz=>j (z x<|by simp_all).2
  .rw[if_pos (by simp[f])]
   exact hE λz=>f (z x<|by simp_all).1
theorem Hl{TT:CX->Nat->Int}(l:M lp=ap (.lst<|(x0::r).map CX.d))(Z:r.length<=8)(ok:∀x∈x0::r,x.Ok/\x.Bs x0)(tt:∀x∈x0::r,x.Tt (TT x))(h:(∀x∈x0::r,x.Sm x0)->∀p,M p=ay->Q (.ref p) (M.upd p<|.lst (rK x0.us (fct x0.us.length*(r.length+1)) λi=>((x0::r).map λx=>TT x i).sum)))(Y:¬(∀x∈x0::r,x.Sm x0)->E ad.C_NoCase M):qR ad [.ref lp,.int 500] M Q E:=by
 have b:=(ok x0<|by simp_all).1
 have hu:=b.un;have J:∀q∈[(lp,(x0::r).map CX.d)],M q.1=ap (.lst q.2):=λq g=>by simp at g;simp_all
 rw[Nh];unfold wY;generalize B:iz ad _=K5
 simp_arith! only[ah,ar,aq,aZ,cg,ac,aO,l,dt,VS]
 refine nO CX.d (λx=>.lst (cU x.us.length<|TT x)) J _ [] _ (by simp;lia) (λx f K q=>?_) ?_
 .exact#[rfl,am λQ' E' g _=>Fu (ok x f).1 (tt x f) λp j=>g _ _ (bG j q)]
 intro p j;refine bG j ?_;simp only[af,UN];rw[<- B];unfold iz;generalize u:iB ad _=K4
 simp_arith! only[ah,ar,aq,aj,aa,ai,ac,dC,ag,aw,aO,l,dt]
 refine#[rfl,am λQ' E' g _=>bM b.o b.hs b.ht λp j=>g _ _ (bG j ?_)];simp only[af,UN];rw[<- u];unfold iB;generalize w:iu ad _=K3
 simp_arith! only[ah,cJ,cg,ac,aO,l,dt]
 refine zi J l b _ ay ok (λI c=>?_) λz=>bU (Y z);rw[<- w];unfold iu;generalize y:iy ad _=K2;have O:(x0.us.map kD).length=x0.us.length:=by simp
 have L:((x0::r).map CX.d).length=r.length+1:=by simp
 simp_arith! only[ah,ar,ai,aq,aj,bc,aa,ac,ag,dC,qk,bj,aO,O,dt,Uz]
 refine#[rfl,am λQ' E' g _=>fj (by lia) λp5 G=>g _ _ (bG G ?_)]
 simp_arith! only[ai,dC,qk,bc,aa,ac,ag,bj,dt,aw,aO,iN,cB,l,L]
 refine#[.inr #[by lia,by lia],?_]
 have N:(fct x0.us.length:Nat)*((r.length+1:Nat))=(fct x0.us.length*(r.length+1):Nat):=by simp
 simp only[af,UN,N];rw[<- y];unfold iy
 simp_arith! only[az,aZ,jy,aa,ac,ag,aO,fV,cN,UG,VF,Vf,Vc,dt,Uz,VS]
 have S:=ik (a:=x0.us.length) (by lia)
 have P:=jL x0.us.length;have m:fct x0.us.length*(r.length+1)<2 ^ 190:=by
  have h2:fct _*(r.length+1)<=fct x0.us.length*9:=ZC _ (by lia)
  lia
 refine mC (λi d=>.tup [d,jM (fct x0.us.length*(r.length+1)) ((x0::r).map λx=>TT x i).sum]) aL _ 0 [] _ _ (by simp;lia) (λi d H K q=>?_) ?_
 .have W:i<x0.us.length:=by
   rcases VX i _ with z|z
   .exact z
   .rw[VT (by simpa using z)]at H;cases H
  rw[WW]at q ⊢
  simp_arith! only[aQ,aa,aq,aj,bc,aZ,cg,ac,ag,aO,cN,UG,VF,Vf,Vc,dt,Uz,VS]
  refine nO _ (λx=>D.int (TT x i)) aL (x0::r) [] _ (by simp;lia) (λx f K q=>?_) ?_
  .simp_arith! only[ai,ac,dt,Uz,aw,aO,bz (show (0:Int)<=((i:Nat):Int) by lia),UW,nE (show i<x.us.length by rw[((I x f).2)];exact W)]
   exact q
  rw[Vc];intro p6 F;refine bG F ?_;have U:(x0::r).map (λx=>D.int (TT x i))=((x0::r).map λx=>TT x i).map D.int:=by rw[Vq];rfl
  rw[U]
  simp_arith! only[wo,dI,vp]
  refine#[#[by simp;lia,λv X=>?_],rfl,aH (λ_ _ z=>lF (Xt P<|by lia) m z) ?_]
  .obtain⟨x,f,rfl⟩:=UR.mp X
   have:=CX.bd (tt x f) (ok x f).1.un i;lia
  .exact#[bg (by simp),q]
 .intro R A
  have e:[]++((x0.us.map kD).zipIdx 0).map (λp=>D.tup [p.1,jM (fct x0.us.length*(r.length+1)) ((x0::r).map λx=>TT x p.2).sum])=rK x0.us (fct x0.us.length*(r.length+1)) λi=>((x0::r).map λx=>TT x i).sum:=by
   rw[Yw,Vq];rfl
  rw[e];exact ak (h I R A)
end _T
namespace _T
open PySem _2 _3 _S
open Classical in
noncomputable def CX.T(x:CX):Nat->Int:=if h:x.two then Classical.choose (Uw h) else λ_=>0
theorem vd{x:CX}(h:x.two):x.Tt x.T:=by
 unfold CX.T
 grind
def LR(x0:CX)(xs:List CX):Prop:=(∀x∈xs,x.two)/\∀x∈xs,x.Sm x0
def dU(x0:CX)(r:List CX):List D:=rK x0.us (fct x0.us.length*(r.length+1)) λi=>((x0::r).map λx=>x.T i).sum
noncomputable def flagsD:List D:=[.bl true,.bl eC,.bl eC,.bl eC,.bl eC,.bl eC,.bl eC,.bl eC,.bl eC,.bl eC,.bl true]
theorem jw(f:M lp=ap (.lst<|(x0::r).map CX.d))(g:r.length<=8)(ok:∀x∈x0::r,x.Ok/\x.Bs x0)
  (h:LR x0 (x0::r)->∀p,M p=ay->Q (.ref p) (M.upd p<|.lst<|dU x0 r)) (i:¬LR x0 (x0::r)->E ad.C_NoCase M):ww ad [.ref lp,.int 500] M Q E:=by
 have m:∀q∈[(lp,(x0::r).map CX.d)],M q.1=ap (.lst q.2):=λq b=>by simp only[VC]at b;subst b;exact f
 rw[SW];unfold CK;generalize e:uw ad _=K1
 simp_arith! only[ah,cJ,cg,ac,aO,f,dt]
 refine A7 m _ _ (λx a=>(ok x a).1) (λtwo c=>?_) λn=>bU (i λz=>n z.1);rw[<- e];exact#[rfl,am λQ' E' b a=>Hl f g ok (λx a=>vd (two x a)) (λj p l=>b _ _ (ak<|h #[two,j] p l)) λn=>a _ _ (bU (i λz=>n z.2))]
theorem y0(h:∀p,M p=ay->Q (.ref p) (M.upd p<|.lst flagsD)):zY ad ea [.ref ea] M Q E:=by
 simp![TF,Co];refine#[by trivial,λj g=>#[by trivial,λl e=>#[by trivial,λm c=>#[by trivial,λi b=>#[by trivial,λf a=>?_]]]]]
 simp[au g]at e c b a ⊢;simp[au e]at c b a ⊢;simp[au c]at b a ⊢;simp[au b]at a ⊢;exact ak (h f a)
theorem Dy(e:M p=ap (.lst flagsD))(h:Q (.str<|WU "case") M):CS ad [.ref p] M Q E:=by
 have f:iS _ _ (ap 10)=flagsD.take 10:=uy;have g:ke (flagsD.take 10)=ap _:=rfl;have b:fm flagsD 10=ap (.bl true):=by rfl
 refine#[by trivial,λi c=>?_]
 simp![Mem.upd_del,au c,e];intro j a;simp![Mem.upd_del,au c,au a,e,f,g,b];refine#[by decide,?_]
 refine ak ?_;simp[au c]at a ⊢;rw[au a];exact h
end _T
namespace _T
open PySem _2 _3
theorem Pn(h:0<d):Wx T.natAbs d=gT d T:=by
 refine Nat.dvd_antisymm ?_ (Nat.dvd_gcd ?_ Ip)
 .have c:Wx T.natAbs d ∣ d:=Nat.gcd_dvd_right _ _
  have f:((Wx _ d):Int) ∣ T:=Int.ofNat_dvd_left.mpr (Nat.gcd_dvd_left _ _);generalize Wx _ d=g at *;have e:(g:Int) ∣ T % d:=by
   rw[Int.emod_def];exact Int.dvd_sub f (Zh<|WN.mpr c)
  rw[<- ZF (VL T<|by lia)]at e
  exact Nat.dvd_gcd c (WN.mp e)
 exact Int.ofNat_dvd_left.mp (PY h)
theorem OP{f c:Nat}{v1 v2:Int}(m:0<f)(l:0<c)(h:(c:Int)*v1=(f:Int)*v2):jM f v1=jM c v2:=by
 obtain⟨j,g⟩:=rM (k:=c) (d:=f) (T:=v1) l m;obtain⟨o,q⟩:=rM (k:=f) (d:=c) (T:=v2) m l;have e:c*f=f*c:=Nat.mul_comm _ _;rw[h,e]at j;rw[h,e]at g;show D.tup [.int (v1 / ((gT f v1:Nat):Int)),.int ((f:Int) / ((gT f v1:Nat):Int))]=D.tup [.int (v2 / ((gT c v2:Nat):Int)),.int ((c:Int) / ((gT c v2:Nat):Int))];rw[<- j,<- g,o,q]
theorem zd:∀(f a b:Nat)(c4:Option D),a<f->(∀c4,D'.nx [ap (.int v),ap (.int d),ap (.int 0),ap (.int ((Wx a b:Nat):Int)),c4] M)->
  cu (ao<|ai Ef (ac 2)<|dC<|.int 0) (uS ad EE) D' bx (f+1) [ap (.int v),ap (.int d),ap (.int (a:Nat)),ap (.int (b:Nat)),c4] M
 |0,a,b,c4,hf,h=>by lia
 |f+1,a,b,c4,hf,h=>by
  have tst:∀K:Bool->Mem->Prop,K _ M->ao (ai Ef (ac 2)<|dC<|.int 0) [ap (.int v),ap (.int d),ap (.int a),ap (.int b),c4] M K:=λK q=>by
   exact q
  by_cases h0:a=0
  .subst h0
   refine whF (by trivial) ?_
   simp_all
  exact whT (λK q=>tst K (by rw[decide_eq_true (by lia)];exact q)) #[by lia,zd f (b % a) a _ (by have:=Nat.mod_lt b (show a>0 by lia);lia) λc4=>by have:=h c4;rw[Nat.gcd_rec]at this;exact this]
theorem KC:(if x<0 then -x else x)=((x.natAbs:Nat):Int):=by lia
theorem kY(e:0<d)(g:d<2 ^ 190)(h:Q (jM d v) M):L6 ad [.int v,.int (d:Nat)] M Q E:=by
 rw[u_q6];unfold JF;generalize c:y1 ad _=K4
 simp_arith! only[ah,ar,bc,aa,ac,LQ,KC,dt]
 rw[<- c];refine#[v.natAbs+2,zd _ _ d _ (by lia) λl=>?_]
 rw[Pn e];have j:=r_ (T:=v) e;have f:((gT d v):Int)<2 ^ 200:=by
  exact_mod_cast (WL (Nat.le_of_dvd e Ip)<|by lia)
 exact#[#[by lia,f],#[by lia,f],bg (by simp),ak h]
def Unl(a b:ab_)(p:Nat->Prop):Prop:=b.length=a.length/\∀i (h:i<a.length)(h2:i<b.length),(a[i]≠b[i])↔p i
theorem Unl.set(h:Unl a b p)(l:j<a.length)(g:w≠a[j]):Unl a (b.set j w) λi=>i=j\/p i:=by
 refine#[by rw[VR];exact h.1,λi f c=>?_]
 rw[List.getElem_set]
 by_cases e:j=i
 .subst e
  rw[if_pos rfl];exact#[λ_=>.inl rfl,λ_ z=>g z.symm]
 .rw[if_neg e,h.2 i f (by rw[VR]at c;exact c)]
  exact#[.inr,λz=>z.elim (λz=>absurd z.symm e) id]
theorem Qf(o:C.Ok)(e:SOk C' s')(f:SOk C' t')(H:C'.Ok)(u:C'.names=C.names)(F:C'.many=C.many)(O:Unl s'.nums t'.nums λi=>∃x,C.names[i]?=ap x/\(Vo x:aI)∈aK C s t)(N:Unl s'.pieces t'.pieces λi=>(WH (i:Int):aI)∈aK C s t):aK C' s' t'=aK C s t:=by
 have v:dw C'=dw C:=by unfold dw;rw[u,F]
 have l:∀q∈dw C,decide (aN C' s' q≠aN C' t' q)=decide (q∈aK C s t):=λq hq=>by
  refine decide_eq_decide.mpr ?_;rcases Vg.mp hq with hq|hq
  .obtain⟨x,I,rfl⟩:=UR.mp hq
   obtain⟨i,c,J⟩:=W8 I;have z:C.names[i]?=ap x:=by rw[UC c,J]
   have g:C'.names[i]?=ap x:=by rw[u];exact z
   have j:i<s'.nums.length:=by rw[e.ln,u];exact c
   have r:i<t'.nums.length:=by rw[f.ln,u];exact c
   rw[kM H e g,kM H f g];have A:gA s'.nums i=s'.nums[i]:=by unfold gA;rw[UC j];rfl
   have B:gA t'.nums i=t'.nums[i]:=by unfold gA;rw[UC r];rfl
   rw[A,B,O.2 i j r];refine#[λ⟨y,G,L⟩=>?_,λh=>#[x,z,h]];rw[z]at G;cases G;exact L
  .obtain⟨i,c,rfl⟩:=UR.mp hq
   have c:=Wc.mp c;have j:i<s'.pieces.length:=by rw[e.lp,F];exact c
   have r:i<t'.pieces.length:=by rw[f.lp,F];exact c
   have A:aN C' s' (.inl (i:Int))=s'.pieces[i]:=by show (s'.pieces[((i:Nat):Int).toNat]?).getD 0=_;rw[UW,UC j];rfl
   have B:aN C' t' (.inl (i:Int))=t'.pieces[i]:=by show (t'.pieces[((i:Nat):Int).toNat]?).getD 0=_;rw[UW,UC r];rfl
   rw[A,B];exact N.2 i j r
 have K:aK C' s' t'=(dw C).filter λq=>decide (q∈aK C s t):=by
  unfold aK at l ⊢;rw[v];exact Wj l
 rw[K];show (dw C).filter _=(dw C).filter _;refine Wj λq hq=>?_;refine decide_eq_decide.mpr ?_;exact#[λh=>of_decide_eq_true (Vd.mp h).2,λh=>Vd.mpr #[hq,decide_eq_true h]]
theorem Kh:bQ "int" "int"=true:=by decide +kernel
theorem isInt_s:bQ "str" "int"=false:=by decide +kernel
theorem MD:m5 "int"=true:=by decide +kernel
structure An(C:Cse)(N P N' P':ab_)(pre:List aI):Prop where
 n:Unl N N' λi=>∃x,C.names[i]?=ap x/\(Vo x:aI)∈pre
 p:Unl P P' λi=>(WH (i:Int):aI)∈pre
 rn:∀v∈N',0<=v/\v<C.w
 rp:∀v∈P',0<=v/\v<C.w
theorem Unl.same(h:Unl a b p)(c:i<a.length)(f:¬p i):b[i]'(by rw[h.1];exact c)=a[i]:=
 Decidable.byContradiction λz=>f ((h.2 i c<|by rw[h.1];exact c).1 λe=>z e.symm)
theorem Unl.congr(h:Unl a b p)(e:∀i,i<a.length->(p i↔q i)):Unl a b q:=#[h.1,λi c f=>(h.2 i c f).trans (e i c)]
theorem An.zero(f:∀v∈N,0<=v/\v<C.w)(g:∀v∈P,0<=v/\v<C.w):An C N P N P []:=#[#[rfl,λi e c=>by simp],#[rfl,λi e c=>by simp],f,g]
theorem An.setP(a:An C N P N' P' pre)(f:i<P.length)(e:0<=w/\w<C.w)(g:w≠P[i]):An C N P N' (P'.set i w) (pre++[.inl (i:Int)]):=by
 refine#[a.n.congr λj c=>?_,(a.p.set f g).congr λj c=>?_,a.rn,iI a.rp e]
 .simp
 .simp only[Vg,VC,Sum.inl.injEq]
  constructor
  .rintro (rfl|z)
   .exact .inr rfl
   .exact .inl z
  .rintro (z|z)
   .exact .inr z
   .exact .inl (by lia)
theorem An.setN(a:An C N P N' P' pre)(h:C.names.Nodup)(q:N.length=C.names.length)(e:C.names[i]?=ap x)(l:0<=w/\w<C.w)(o:i<N.length)(m:w≠N[i]):An C N P (N'.set i w) P' (pre++[.inr x]):=by
 refine#[(a.n.set o m).congr λj g=>?_,a.p.congr λj g=>?_,iI a.rn l,a.rp]
 .constructor
  .rintro (rfl|⟨y,c,z⟩)
   .exact#[x,e,by simp]
   .exact#[y,c,by simp[z]]
  .rintro⟨y,c,z⟩
   simp only[Vg,VC,Sum.inr.injEq]at z;rcases z with z|rfl
   .exact .inr #[y,c,z]
   .refine .inl ?_
    have f:j<C.names.length:=by lia
    exact(List.getElem?_inj f h).1 (c.trans e.symm)
 .simp
theorem Eh(o:C.Ok)(u:q∈dw C)(X:q∉pre)(R:N.length=C.names.length)(Z:P.length=C.many)(Y:∀v∈N,0<=v/\v<C.w)(rP:∀v∈P,0<=v/\v<C.w)(c:Cm k ln lp N' P' M0 M)(a:An C N P N' P' pre)(h:∀N2 P2 M2 f,Cm k ln lp N2 P2 M0 M2->An C N P N2 P2 (pre++[q])->D'.nx [ap (.ref k.p),ap (aS C O L),ap C.d,d3,K,S,d6,d7,ap (.ref ln),ap (.ref lp),ap (kD q),f] M2):
  iC ad EE D' [ap (.ref k.p),ap (aS C O L),ap C.d,d3,K,S,d6,d7,ap (.ref ln),ap (.ref lp),ap (kD q),f] M:=by
 have r:∀{v:Int}{M:Mem}{Q:DK},Q _ M->frz (.int v) M Q:=λz=>z;have l:=@Ca C;unfold iC;rcases nM u with⟨x,U,rfl⟩|⟨i,hi,rfl⟩
 .obtain⟨j,W,g⟩:=pR U
  have I:j<N.length:=by rw[R];exact(Ve.1 g).1
  have G:j<N'.length:=by rw[a.n.1];exact I
  have B:fm (N'.map D.int) j=ap (.int N[j]):=by rw[bz (by lia),UW,UH,UC G,(a.n.same I<|by lia)];rfl
  simp_arith! only[aC,cz,bc,cX,aa,ac,dC,kD,dt,Uz,cy,MD,EY]
  unfold uN sI;rw[l]
  simp_arith! only[ah,ar,NU,ai,aa,ac,dC,dt,Uz,aw,aO,atI_1,jc,eD,W,af,UN]
  refine#[trivial,UL o.l1 (by decide),?_]
  simp_arith! only[aq,aj,aa,ac,ai,dC,dt,Uz,aw,aO,atI_0,c.en,B]
  refine#[rfl,am λQ' E' u _=>c_ c.has o.m2 o.m1 (by simp_all) λw M2 A F H e=>u _ _ (r ?_)]
  have m:=c.dr e
  simp_arith! only[cM,ac,dt,Uz,kL,m.en,UA,fh (by lia) (show (j:Int)<N'.length by lia),eM]
  exact h _ _ _ _ m.sN (a.setN o.nd R g #[A,F] I H)
 .have y:i<P.length:=by simp_all
  have J:i<P'.length:=by rw[a.p.1];exact y
  have B:fm (P'.map D.int) (i:Nat)=ap (.int P[i]):=by rw[bz (by lia),UW,UH,UC J,(a.p.same y λz=>X z)];rfl
  simp_arith! only[aC,cz,bc,cX,aa,ag,ac,dC,kD,dt,Uz,cy,MD,Kh,EY,if_true]
  unfold ui;rw[l]
  simp_arith! only[ar,aq,aj,aa,ag,ac,ai,dC,dt,Uz,aw,aO,atI_0,c.ep,B]
  refine#[trivial,rfl,am λQ' E' u _=>c_ c.has o.m2 o.m1 (by simp_all) λw M2 A F H e=>u _ _ (r ?_)]
  have m:=c.dr e
  simp_arith! only[cM,ac,dt,Uz,kL,m.ep,UA,fh (by lia) (show (i:Int)<(P'.length:Nat) by lia),eM]
  exact h _ _ _ _ m.sP (a.setP y #[A,F] H)
theorem Ab(r:∀M,ok M)(o:C.Ok)(G:N.length=C.names.length)(A:P.length=C.many)(y:∀v∈N,0<=v/\v<C.w)(B:∀v∈P,0<=v/\v<C.w):
  ∀(j g:List aI)(N' P':ab_)(M:Mem)(f e:Option D),(∀q∈j,q∈dw C)->(g++j).Nodup->Cm k l m N' P' M0 M->An C N P N' P' g->
  (∀N2 P2 M2 f e,Cm k l m N2 P2 M0 M2->An C N P N2 P2 (g++j)->D'.nx [ap (.ref k.p),ap (aS C s t),ap C.d,d3,u,F,d6,d7,ap (.ref l),ap (.ref m),f,e] M2)->
  eV (af 10) (iC ad EE) D' ok R (j.map kD) [ap (.ref k.p),ap (aS C s t),ap C.d,d3,u,F,d6,d7,ap (.ref l),ap (.ref m),f,e] M
 |[],g,N',P',M,f,e,hq,nd,c,a,h=>#[r _,h N' P' M f e c<|by rw[Vl];exact a]
 |q::j,g,N',P',M,f,e,hq,nd,c,a,h=>by
  rw[UG];unfold eV;refine#[r _,?_];simp only[af,UN];have J:q∉g:=λz=>by
   have:=(Xq.mp nd).2.2 q z q UP;exact this rfl
  refine Eh o (hq q UP) J G A y B c a λN2 P2 M2 e K I=>?_;refine Ab r o G A y B j (g++[q]) N2 P2 M2 _ _ (λx L=>hq x (UJ _ L)) (by simpa using nd) K I λN3 P3 M3 f e H O=>?_
  exact h N3 P3 M3 f e H (by simpa using O)
theorem D_(c:CaOk C s t few)(hp:Has k M)(h:∀(m:Nat)(s' t':Sta)(M':Mem),m<=70->SOk C s'->SOk C t'->aK C s' t'=aK C s t->Kq k M M'->Q (aS { C with most:=m } s' t') M'):CP ad [.ref k.p,aS C s t] M Q E:=by
 have fi':∀{v:Int}{M:Mem}{Q:DK},Q _ M->frz (.int v) M Q:=λz=>z;have o:=c.o;have I:=@JZ C s t;rw[Sb];unfold AN;generalize G:jS ad _=K10
 simp_arith! only[dt,Uz,I,dh]
 refine#[rfl,?_];rw[<- G];unfold jS;generalize W:nV ad _=K9;refine#[rfl,am λQ' E' L _=>eR o c.hs c.ht λp h0=>L _ _ (bG h0 ?_)];rw[<- W];unfold nV;generalize Y:nJ ad _=K8;have O:ToldOk _ _ C.many:=#[o.m2,o.m1,o.l0,c.n12,by lia,by have:=c.h1;lia]
 have epl:C.d=ki _ _ _ _ _:=rfl;refine#[rfl,am λQ' E' L _=>oh hp O λN P M2 Z lP U rP K=>L _ _ ((λz=>z) ?_)];have g:P.length=C.many:=by lia
 rw[<- Y];unfold nJ;generalize S:mM ad _=K7;intro ln l;have y:=K.1.nep l;rw[<- S];unfold mM;generalize R:nQ ad _=K6;intro lp f;have h1:=K.1.upd y (o:=.lst (N.map D.int));have A:=h1.nep f;have j:=Mem.ne Mem.upd_same f;have F:M2 lp=none:=by rw[ae j.symm]at f;exact f
 rw[<- R];unfold nQ;generalize X:nu ad _=K5;have cm:Cm k ln lp N P M2 _:=
  #[h1.upd A,y,A,j,by rw[ae j,Mem.upd_same],Mem.upd_same,l,F,λb J _ _ e=>by rw[ae (by lia),ae (Mem.ne e l)];exact e]
 refine Ab (λ_=>aL) o Z g U rP _ [] N P _ _ _ (λq=>(λh=>(Vd.mp h).1)) (by simpa using sO o) cm (.zero U rP) λN2 P2 M3 c10 c11 H u=>?_
 rw[<- X];unfold nu
 simp_arith! only[az,aQ,bc,aa,ac,dt,Uz,ci,dI,H.en,H.ep,aq]
 refine#[bg (by simp),rfl,aG H.has (by decide) (by decide) λr M4 a4 b4 d4=>fi' ?_]
 have c4:=H.dr d4;have ms:=c.ms;obtain⟨m,hmo,mo2⟩:∃m:Nat,(if C.most+10-r>C.most-20 then C.most+10-r else C.most-20)=m/\m<=70:=by
  refine#[(if C.most+10-r>C.most-20 then C.most+10-r else C.most-20).toNat,?_,?_]<;>split<;>lia
 have x:SOk C #[N,P]:=#[Z,g,U,rP];have B:SOk C #[N2,P2]:=#[u.n.1.trans Z,u.p.1.trans g,u.rn,u.rp];simp![DR,hmo];refine#[bg (by simp),ak<|h m #[N,P] #[N2,P2] M4 mo2 x B (Qf o x B o rfl rfl u.n u.p) #[c4.has,λb J b1 b2 e=>c4.keep b J b1 b2 (K.2 b J b1 b2 e)]]
theorem cut4:iS [a,b,c,d,e] ay (ap 4)=[a,b,c,d]:=rfl
theorem KL(f:dw C'=dw C)(h:∀q∈dw C,aN C' s' q≠aN C' t' q->aN C s q≠aN C t q):(aK C' s' t').length<=(aK C s t).length:=by
 unfold aK;rw[f];generalize dw C=l at h
 induction l with
 |nil=>exact UQ _
 |cons a l e=>
  have e:=e λq g=>h q (UJ _ g);have h0:=h a UP;rw[UZ,UZ]
  by_cases c:aN C' s' a≠aN C' t' a
  .rw[if_pos (decide_eq_true c),if_pos (decide_eq_true<|h0 c)]
   simp only[UO];lia
  .rw[if_neg (by simpa using c)]
   split
   .simp only[UO];lia
   .exact e
theorem tj(c:CaOk C s t few)(f5:few<=5)(hp:Has k M)(h:∀(x:CX)(M':Mem),x.Ok->x.Bs #[C,s,t]->Kq k M M'->Q x.d M'):Cw ad [.ref k.p,aS C s t] M Q E:=by
 have m:∀{v:Int}{M:Mem}{Q:DK},Q _ M->frz (.int v) M Q:=λz=>z;have R:∀{xs:List D}{M:Mem}{Q:DK},Q _ M->frz (.tup xs) M Q:=λz=>z;have o:=c.o;have B:=@Ca C;have u:=UL c.un f5;have h0:=c.h0;rw[T_];unfold CD;generalize K:nP ad _=K7;refine#[rfl,?_];rw[<- K];unfold nP;generalize J:nU ad (aF E)=K6;refine#[rfl,aG hp (by decide) (by decide) λr M1 a1 b1 y=>m ?_]
 simp only[af,UN];rw[<- J];unfold nU;generalize L:mT ad _=K5
 simp_arith! only[ah,aC,ao,ai,ac,dC,bX,dv,br,aR,dt,Uz]
 refine#[trivial,trivial,?_];have lS:=c.hs.lp;have W:=c.ht.lp;have N:=o.few;have l1:=o.l1;have l0:=o.l0
 by_cases S:r=0
 .subst S
  rw[if_pos (by decide)]
  unfold sW;rw[B]
  simp_arith! only[az,aQ,aa,ag,ai,aq,qS,bu,cC,ac,dC,bc,aj,dt,Uz,PL,cut4,aw,aO,atI_1,bj,UA]
  refine R #[rfl,aG y.1 (by lia) (by lia) λv M2 Y U d2=>m ?_]
  obtain⟨mk,I,A⟩:=ka Y U;simp![A,aU,V0];refine#[bg (by simp),bg (by simp),bg (by simp),ak<|h #[{ C with mn:=mk },s,t] M2 #[#[o.m2,o.m1,o.few,o.most,o.nd,o.l0,o.l1,o.ok,o.h,I],#[c.hs.ln,c.hs.lp,c.hs.rn,c.hs.rp],#[c.ht.ln,c.ht.lp,c.ht.rn,c.ht.rp],u] #[rfl,rfl,rfl,rfl] (y.trans d2).kq]
 .rw[if_neg (by simp[S])]
  simp only[aB];rw[<- L];unfold mT;generalize G:mh ad (aF E)=K4
  simp_arith! only[ah,aC,ao,ai,ac,dC,bX,dv,br,aR,dt,Uz]
  refine#[trivial,trivial,?_]
  by_cases O:r=1
  .subst O
   refine#[bg (by simp),ak<|h #[C,s,s] M1 #[o,c.hs,c.hs,?_] #[rfl,rfl,rfl,rfl] y.kq]
   have:aK C s s=[]:=by unfold aK;simp_all
   show (aK C s s).length<=5
   simp_all
  .rw[if_neg (by simp[O])]
   simp only[aB];rw[<- G];unfold mh uO;have l:∀z:Sta,z.d=.tup _:=λ_=>rfl;obtain⟨j,H,g⟩:∃j H,s.pieces=j::H:=by
    cases e:s.pieces<;>simp_all
   have X:iS (t.pieces.map D.int) (ap 1) ay=(t.pieces.drop 1).map D.int:=by rw[List.map_drop];exact ua
   rw[l s,l t,g,UG]
   simp_arith! only[ah,ar,az,aQ,aa,ag,ai,aq,qS,bu,cC,ac,dC,dt,Uz,aw,aO,atI_0,atI_1,PL,X,aU,af]
   have F:SOk C #[s.nums,j::t.pieces.drop 1]:=#[c.hs.ln,(by simp[W];lia),c.hs.rn,λv hv=>by
    rcases UK.mp hv with rfl|hv
    .exact c.hs.rp _ (by rw[g];exact UP)
    .exact c.ht.rp _ (List.mem_of_mem_drop hv)]
   refine#[bg (by simp),R #[bg (by simp;lia),bg (by simp),bg (by simp),ak ?_]]
   have e2:D.tup [D.tup (s.nums.map D.int),D.tup (D.int j::H.map D.int)]=s.d:=by rw[l,g];rfl
   rw[e2];refine h #[C,s,#[s.nums,j::t.pieces.drop 1]] M1 #[o,c.hs,F,?_] #[rfl,rfl,rfl,rfl] y.kq;refine UL (KL rfl λq hq f=>?_) u;rcases Vg.mp hq with hq|hq
   .obtain⟨x,hx,rfl⟩:=UR.mp hq
    exact absurd rfl f
   .obtain⟨i,P,rfl⟩:=UR.mp hq
    have P:=Wc.mp P;cases i with
    |zero=>exact absurd (by show (s.pieces[0]?).getD 0=((j::t.pieces.drop 1)[0]?).getD 0;rw[g];rfl) f
    |succ i=>
     have Z:aN C #[s.nums,j::t.pieces.drop 1] (.inl ((i+1:Nat):Int))=aN C t (.inl ((i+1:Nat):Int)):=by
      show ((j::t.pieces.drop 1)[((i+1:Nat):Int).toNat]?).getD 0=(t.pieces[((i+1:Nat):Int).toNat]?).getD 0;rw[UW,Uz,List.getElem?_drop,Nat.add_comm]
     rw[Z]at f;exact f
end _T
namespace _T
open PySem _2 _3 _S
theorem IL(B:M p=ap (.lst xs))(A:M q=ap (.lst xs))(v:xs.length<=100000/\∀x∈xs,J3 n x)(h:Q (.bl true) M):ZO ad (n+2) [.ref p,.ref q] M Q E:=by
 obtain⟨F,v⟩:=v;simp![lQ,ic,t1,t2,t3,t4,t5,B,A,↓aZ];refine bV (λi a Y M'=>∃(b:List D)(j:Nat)(g c:Option D),i=b.map _/\(∀z∈b,J3 n z)/\b.length+j<=100000/\a=UX j (.bl true)/\Y=[g,c]/\M'=M) (λ_ _ _ _ ⟨_,_,_,_,_,_,_,_,_,e⟩=>by subst e;intro r o;simp[cH]at o;first|(subst o)|(rcases o with rfl|rfl<;>assumption)) ?_ ?_ ?_ _ _ _ _ #[xs,0,_,_,gJ xs,v,by lia,rfl,rfl,rfl]
 .rintro a Y M' ⟨b,j,g,c,f,u,l,rfl,rfl,rfl⟩ p m
  simp![Mem.upd_del,au m,dS,jD];exact ak h
 .rintro y i a Y M' ⟨b,j,g,c,f,u,l,rfl,rfl,rfl⟩ N w _
  cases b with
  |nil=>simp at f
  |cons z b=>
   obtain⟨rfl,rfl⟩:=f;simp at l;simp![];exact aH (λQ' E'=>g7 n z M' Q' E' (u z<|UP ..)) (w _ _ _ (by simp;exact gn (by lia)) #[b,j+1,_,_,rfl,by simp_all,by lia,by rw[W2],rfl,rfl])
 rintro y i a Y M' ⟨b,j,g,c,f,u,l,rfl,rfl,rfl⟩
 simp;exact gn (by lia)
theorem Gw(F:M q=ap (.lst xs))(u:xs.length<=100000/\∀x∈xs,J3 n x)(h:Q (.bl true) M):ZO ad (n+2) [.lst xs,.ref q] M Q E:=by
 obtain⟨G,u⟩:=u;simp![lQ,ic,t1,t2,t3,t4,t5,F,↓aZ];refine bV (λo b Y M'=>∃(a:List D)(j:Nat)(c f:Option D),o=a.map _/\(∀z∈a,J3 n z)/\a.length+j<=100000/\b=UX j (.bl true)/\Y=[c,f]/\M'=M) (λ_ _ _ _ ⟨_,_,_,_,_,_,_,_,_,e⟩=>by intro r A;simp[cH]at A;simp_all) ?_ ?_ ?_ _ _ _ _ #[xs,0,_,_,gJ xs,u,by lia,rfl,rfl,rfl]
 .rintro b Y M' ⟨a,j,c,f,g,m,i,rfl,rfl,rfl⟩ p l
  simp![Mem.upd_del,au l,dS,jD];exact ak h
 .rintro y o b Y M' ⟨a,j,c,f,g,m,i,rfl,rfl,rfl⟩ N B _
  cases a with
  |nil=>simp at g
  |cons z a=>
   obtain⟨rfl,rfl⟩:=g;simp at i;simp![];exact aH (λQ' E' q=>g7 n z M' Q' E' (by simp_all) q) (B _ _ _ (by simp;exact gn (by lia)) #[a,j+1,_,_,rfl,λw v=>m w (UJ _ v),by lia,by rw[W2],rfl,rfl])
 rintro y o b Y M' ⟨a,j,c,f,g,m,i,rfl,rfl,rfl⟩
 simp;exact gn (by lia)
theorem PF(h:us.length<=1000):(rK us d S).length<=100000/\∀x∈rK us d S,J3 22 x:=by
 unfold rK;refine#[by rw[UA,List.length_zipIdx];lia,λx b=>?_]
 obtain⟨p,_,rfl⟩:=UR.mp b;refine#[by simp,λy a=>?_]
 simp only[UK,Wq,or_false]at a;rcases a with rfl|rfl
 .cases p.1<;>trivial
 .refine#[by simp,λy a=>?_]
  simp only[UK,Wq,or_false]at a;rcases a with rfl|rfl<;>trivial
theorem Kn(a:ab'):(listText a).length<=piled a+5:=by
 rw[listText_eq_join,aa9,aa9];have c:(("[":String):Str).length=1:=rfl;have b:(("]":String):Str).length=1:=rfl
 by_cases h:a=[]
 .subst h
  have:(Str.join ", " ([]:ab')).length=0:=rfl;lia
 .have:=join_length_add a h
  lia
theorem jT:∀{l:List D},(∀x∈l,good x)->iX l
 |[],_=>trivial
 |x::l,h=>#[by simp_all,jT<|by simp_all]
theorem tV:∀{l:List D},(∀x∈l,sz x<=k)->qL l<=l.length*(k+2)
 |[],_=>by simp[qL]
 |x::l,h=>by
  have b:=h x (by simp_all)
  have c:=tV λy a=>h y (UJ _ a);simp[qL,Nat.succ_mul];lia
theorem iK{l:ab_}(c:m<=997)(h:∀v∈l,0<=v/\v<m):iX (l.map D.int):=jT λx b=>by
 obtain⟨v,a,rfl⟩:=UR.mp b;have:=h v a;exact pI this.1 (by lia)
theorem nD{l:ab_}:qL (l.map D.int)<=l.length*2002:=by
 simpa using (tV (l  := l.map _) λx a=>by
  obtain⟨v,b,rfl⟩  := UR.mp a;simp only[sz];lia)
theorem Dv(o:C.Ok)(a:SOk C s)(b:SOk C t)(one:∀x∈C.names,wS x)(k1:C.many<=40)(i:C.names.length<=12)(H:cRs C.rows<=26):good (aS C s t)/\sz (aS C s t)<=700000:=by
 have u:(10001:Nat)<10 ^ 6:=by decide
 have F:=o.most;have m1:=o.m1;have m2:=o.m2;have g:iX (C.names.map D.str):=jT λx c=>by obtain⟨v,f,rfl⟩:=UR.mp c;exact ba (one v f)
 have h:iX (aD C.rows):=k9 one m1 (by lia) C.rows o.ok
 have r:qL (C.names.map D.str)<=C.names.length*2002:=by
  have:=tV (k:=2000) (l:=C.names.map D.str) λx c=>by
   obtain⟨v,f,rfl⟩:=UR.mp c;simp only[sz];lia
  simpa using this
 have w:=wy C.rows;have A:=nD (l:=s.nums);have m:=nD (l:=s.pieces);have q:=nD (l:=t.nums);have B:=nD (l:=t.pieces);have y:=a.ln;have G:=a.lp;have p:=b.ln;have j:=b.lp;refine#[#[#[pI (by lia) (by lia),g,pI (by lia) (by lia),h,ba (one _ o.mn),trivial],#[iK m1 a.rn,iK m1 a.rp,trivial],#[iK m1 b.rn,iK m1 b.rp,trivial],?_,trivial],?_]
 .show ((C.most:Nat):Int).natAbs<10 ^ 6
  lia
 .have e:∀z:Sta,z.d=.tup [.tup (z.nums.map D.int),.tup (z.pieces.map D.int)]:=λ_=>rfl
  rw[JZ,Ca,e s,e t];simp only[sz,qL];lia
theorem pq{xs:List CX}(f:∀x∈xs,good x.d/\sz x.d<=700000/\x.C.Ok)(q:xs.length<=9):br 60 (.lst<|xs.map CX.d)=true/\(fw<|.lst<|xs.map CX.d).showable=true/\(fw<|.lst<|xs.map CX.d).shown.length<=sizeLine:=by
 have g:iX (xs.map CX.d):=jT λx h=>by obtain⟨v,b,rfl⟩:=UR.mp h;exact(f v b).1
 refine#[?_,by simp only[fw,WD];exact oV _ g,?_]
 .unfold br
  have:∀a:List CX,(∀x∈a,x.C.Ok)->fits 59 (a.map CX.d)=true:=λa=>by
   induction a with
   |nil=>intro _;rfl
   |cons x a ih=>
    intro h;have o:=h x UP;have i:=kK x.C.rows 56 (by have:=o.h;lia)
    have j:=pX 56 x.C.names;have c:=λl=>kW 56 l;have p:=ih λy m=>h y (UJ _ m);have e:∀z:Sta,z.d=.tup [.tup (z.nums.map D.int),.tup (z.pieces.map D.int)]:=λ_=>rfl;rw[UG];show (br 59 (aS x.C x.s x.t)&&fits 59 (a.map CX.d))=true;rw[p,JZ,Ca,e,e];simp[br,fits,i,j,c]
  exact this xs λx h=>(f x h).2.2
 .have i:=j9 _ g
  have j:=Kn (W0<|gw<|xs.map CX.d);have c:=tV (k:=700000) (l:=xs.map CX.d) λx h=>by obtain⟨v,b,rfl⟩:=UR.mp h;exact(f v b).2.1
  simp only[fw,Xy];rw[UA]at c;exact UL (show _<=7000000 by lia) (by decide)
theorem qM:(∃a b,EV C s t=.tup [.int a,.int b]/\C.mark s=.int a/\C.mark t=.int b)\/(EV C s t=.non/\¬C.two s t):=by
 unfold EV
 by_cases h:(C.run s).1=true/\(C.run t).1=true
 .refine .inl #[_,_,if_pos h,?_,?_]<;>unfold Cse.mark wg
  .exact if_pos h.1
  .exact if_pos h.2
 .refine .inr #[if_neg h,λ⟨a,b,f,e,_⟩=>h #[?_,?_]]<;>unfold Cse.mark wg at f e
  .by_cases c:(C.run s).1=true
   .exact c
   .rw[if_neg c]at f;cases f
  .by_cases c:(C.run t).1=true
   .exact c
   .rw[if_neg c]at e;cases e
end _T
namespace _T
open PySem _2 _3
variable{ad:Ad}{lc:eg}{x y:CX}{M:Mem}{F i:Nat}
theorem Kq.kp(h:Kq k M M')(n:l≠k.p/\l≠k.q)(e:M l=ap (.lst xs)):M' l=ap (.lst xs):=h.2 _ _ n.1 n.2 e
structure CL(C:Cse)(s t:Sta)(xs:List CX):Prop where
 ok:∀x∈xs,x.Ok/\x.Bs #[C,s,t]
 two:∀x∈xs,x.two
 sm:∀x∈xs,x.Sm #[C,s,t]
theorem E3{y:Option D}(c:CaOk C s t few)(f5:few<=5)(P:lc≠k.p/\lc≠k.q)(G:CL C s t (#[C,s,t]::r))(hl:r.length<=2)(hk:Has k M)(hm:M lc=ap (.lst<|(#[C,s,t]::r).map CX.d))(h:∀(K:List CX)(M:Mem)(L N:Option D),CL C s t (#[C,s,t]::K)->K.length<=r.length+1->Has k M->M lc=ap (.lst<|(#[C,s,t]::K).map CX.d)->D'.nx (Q::ap (.ref k.p)::ap (aS C s t)::ap (.ref lc)::y::L::N::w) M):
  gg ad EE D' (Q::ap (.ref k.p)::ap (aS C s t)::ap (.ref lc)::y::L::N::w) M:=by
 unfold gg;generalize J:mS ad EE=K2;refine#[rfl,am λQ' E' I _=>D_ c hk λv u m M1 W g j X kq=>I _ _ (p8 ?_)];have o:=c.o;have Z:=UL c.un f5;have O:({ C with most:=v }).Ok:=#[o.m2,o.m1,o.few,by show v<=10000;lia,o.nd,o.l0,o.l1,o.ok,o.h,o.mn]
 have B:SOk { C with most:=v } u:=#[g.ln,g.lp,g.rn,g.rp];have E:SOk { C with most:=v } m:=#[j.ln,j.lp,j.rn,j.rp];have R:aK { C with most:=v } u m=aK C s t:=X;have l:=kq.kp P hm;have bs:CX.Bs #[{ C with most:=v },u,m] #[C,s,t]:=#[rfl,rfl,rfl,rfl];have U:({ C with most:=v }).mn=C.mn:=rfl;generalize ({ C with most:=v })=C2 at *;rw[<- J];unfold mS uB;have H:(aK C2 u m).length<=5:=by simp_all
 have ex:CX.d #[C2,u,m]=aS C2 u m:=rfl;refine#[rfl,am λQ' E' I _=>dj O B E (I _ _<|jH ?_)];rcases qM with⟨a,b,e,Y,S⟩|⟨e,_⟩
 .rw[e]
  simp_arith! only[aC,va,ao,ai,ac,dC,dt,Uz,eq,aw,aO,atI_0,atI_1,fX,dv,br,aR,af,UN]
  refine#[trivial,trivial,?_]
  by_cases A:a=b
  .rw[if_neg (by simp[A])]
   exact h r M1 _ _ G (by lia) kq.1 l
  rw[if_pos (by simp[A])]
  simp_arith! only[b6,jd,aa,ac,dt,Uz,bv,l]
  refine#[by simp_arith! only[cy,l],by simp;exact gn (by lia),?_]
  have z:∀x∈#[C,s,t]::(r++[#[C2,u,m]]),x∈#[C,s,t]::r\/x=#[C2,u,m]:=λx f=>by
   simpa [or_assoc] using f
  refine h (r++[#[C2,u,m]]) _ _ _ #[λx f=>?_,λx f=>?_,λx f=>?_] (by simp) (kq.1.upd P) ?_
  .rcases z x f with f|rfl
   .exact G.ok x f
   exact#[#[O,B,E,H],bs]
  .rcases z x f with f|rfl
   .exact G.two x f
   exact#[a,b,Y,S,A]
  .rcases z x f with f|rfl
   .exact G.sm x f
   trivial
  simp_all
 rw[e];exact h r M1 _ _ G (by lia) kq.1 l
theorem rC{lc:eg}(o:∀M,ok M)(c:CaOk C s t few)(v:few<=5)(u:lc≠k.p/\lc≠k.q):
  ∀(ys:List D)(r:List CX)(M:Mem)(f b e:Option D),CL C s t (#[C,s,t]::r)->r.length+ys.length<=2->Has k M->M lc=ap (.lst<|(#[C,s,t]::r).map CX.d)->
  (∀(r:List CX)(M:Mem)(f b e:Option D),CL C s t (#[C,s,t]::r)->r.length<=2->Has k M->M lc=ap (.lst<|(#[C,s,t]::r).map CX.d)->D'.nx (m::ap (.ref k.p)::ap (aS C s t)::ap (.ref lc)::f::b::e::a) M)->
  eV (af 4) (gg ad EE) D' ok A ys (m::ap (.ref k.p)::ap (aS C s t)::ap (.ref lc)::f::b::e::a) M
 |[],r,M,f,b,e,cl,hl,hk,hm,h=>#[o _,h r M f b e cl (by simpa using hl) hk hm]
 |y::ys,r,M,f,b,e,cl,hl,hk,hm,h=>by
  simp only[UO]at hl;unfold eV;refine#[o _,?_];show gg ad EE _ (m::ap (.ref k.p)::ap (aS C s t)::ap (.ref lc)::ap y::b::e::a) M;exact E3 c v u cl (by lia) hk hm λw M' b e l z j g=>rC o c v u ys w M' _ _ _ l (by lia) j g h
theorem U8{us:List aI}(h:i<us.length):fm (rK us F T) (i:Int)=ap (.tup [kD us[i],jM F (T i)]):=by
 rw[bz (by lia)]
 unfold rK;simp[UC h]
theorem Du(a:0<F):∃(num:Int)(den:Nat),jM F v=.tup [.int num,.int (den:Nat)]/\0<den/\den<=F/\num.natAbs<=v.natAbs/\num*(F:Int)=v*(den:Int):=by
 refine#[v / ((gT F v:Nat):Int),F / gT F v,?_,(λh=>Nat.div_pos (Nat.le_of_dvd h Ip) (r_ h)) a,Nat.div_le_self _ _,?_,GJ a]
 .show D.tup [.int (v / ((gT F v:Nat):Int)),.int ((F:Int) / ((gT F v:Nat):Int))]=_
  rw[<- Int.natCast_ediv]
 .have e:=r_ (T:=v) a
  obtain⟨x,b⟩:=PY (T:=v) a;generalize gT F v=g at *;have c:v / (g:Int)=x:=by rw[b];exact Y9 _ (by lia)
  rw[c,b,Int.natAbs_mul];exact Nat.le_mul_of_pos_left _ (by lia)
theorem JR{top:Int}{bot:Nat}(m:i<us.length)(j:0<F)(o:F<=120)(r:-10000000000000<=T i/\T i<=10000000000000)(l:0<bot)(s:top*(F:Int)=(bot:Int)*S)(h:∀(b:Int)(a:Nat),0<a->a<=bot*120->b*(F:Int)=(a:Int)*(S+T i)->D'.nx [d0,d1,d2,d3,ap (.int (i:Nat)),d5,d6,d7,d8,d9,d10,d11,d12,d13,d14,ap (.lst<|rK us F T),d16,d17,ap (.int b),ap (.int (a:Nat))] M):
  fP ad EE D' [d0,d1,d2,d3,ap (.int (i:Nat)),d5,d6,d7,d8,d9,d10,d11,d12,d13,d14,ap (.lst<|rK us F T),d16,d17,ap (.int top),ap (.int (bot:Nat))] M:=by
 obtain⟨num,c,e,g,q,p,ne⟩:=Du (v:=T i) j;unfold fP n_
 simp_arith! only[ah,ar,ai,ac,dC,dt,Uz,aw,aO,U8 m,e,atI_0,atI_1,cB,aU,af,UN]
 have f:-(2 ^ 64)<(c:Int)/\(c:Int)<2 ^ 64:=by lia
 refine#[.inr f,.inl (by lia),.inr f,?_]
 have:=h (top*c+num*bot) _ (Xt l g) (ZC _<|by lia) (by
  grind)
 assumption
theorem wd{F i:Nat}(q:∀M,ok M)(s:i<us.length)(r:0<F)(f:F<=120):
  ∀(xs:List (Nat->Int))(top S:Int)(bot:Nat)(c15:Option D),(∀T∈xs,-10000000000000<=T i/\T i<=10000000000000)->0<bot->top*(F:Int)=(bot:Int)*S->
  (∀(b:Int)(a:Nat) c15,0<a->a<=bot*120 ^ xs.length->b*(F:Int)=(a:Int)*(S+(xs.map λT=>T i).sum)->D'.nx [d0,d1,d2,d3,ap (.int (i:Nat)),d5,d6,d7,d8,d9,d10,d11,d12,d13,d14,c15,d16,d17,ap (.int b),ap (.int (a:Nat))] M)->
  eV (af 15) (fP ad EE) D' ok v (xs.map λT=>.lst (rK us F T)) [d0,d1,d2,d3,ap (.int (i:Nat)),d5,d6,d7,d8,d9,d10,d11,d12,d13,d14,c15,d16,d17,ap (.int top),ap (.int (bot:Nat))] M
 |[],top,S,bot,c15,hT,hb,he,h=>#[q _,h top bot c15 hb (by simp)<|by simpa using he]
 |T::xs,top,S,bot,c15,hT,hb,he,h=>by
  rw[UG];unfold eV;refine#[q _,?_];simp only[af,UN];refine JR s r f (hT T UP) hb he λb a o l j=>?_;refine wd q s r f xs b (S+T i) a _ (λU u=>hT U (UJ _ u)) o j λc e c15 p g m=>h c e c15 p ?_ ?_
  .refine UL g ?_
   rw[UO,Nat.pow_succ,Nat.mul_comm (120 ^ xs.length) 120,<- Nat.mul_assoc];exact Nat.mul_le_mul_right _ l
  .rw[UG,Wg,<- Int.add_assoc]
   exact m
theorem HN{xs:List (Nat->Int)}(J:i<us.length)(u:0<F)(o:F<=120)(H:∀T∈xs,-10000000000000<=T i/\T i<=10000000000000)(v:xs.length<=9)(K:m.length=xs.length)(g:0<xs.length)(G:lc≠c)(I:M lc=ap (.lst m))(N:ab5.length<=1000)(h:∀a e j,D'.nx [d0,d1,d2,ap (.ref lc),ap (.int (i:Nat)),d5,d6,d7,d8,d9,d10,d11,d12,d13,ap (.ref c),a,ap (.lst (xs.map λT=>.lst (rK us F T))),ap (kD q),e,j] (M.upd c<|.lst (ab5++[.tup [kD q,jM (F*xs.length) (xs.map λT=>T i).sum]]))):
  gU ad EE D' [d0,d1,d2,ap (.ref lc),ap (.int (i:Nat)),d5,d6,d7,d8,d9,d10,d11,d12,d13,ap (.ref c),a,ap (.lst (xs.map λT=>.lst (rK us F T))),ap (kD q),e,j] (M.upd c<|.lst ab5):=by
 refine wd (bot:=1) (S:=0) (λ_=>aL) J u o xs 0 _ H (by lia) (by simp) λtop bot a s p L=>?_
 rw[Nat.one_mul]at p;have w:120 ^ 9*9<2 ^ 190:=by decide
 have B:=WL (Xj (UL p<|VE (by decide) v) v) w
 have C:(M.upd c<|.lst ab5) lc=ap (.lst m):=by rw[ae G];exact I
 have r:(M.upd c<|.lst ab5) c=ap _:=Mem.upd_same;unfold oG
 simp_arith! only[b6,jd,aa,aQ,ac,aq,aj,ai,bc,bj,aO,C,K,dt,Uz]
 refine#[by simp_arith! only[cy,r],.inr #[by lia,by lia],rfl,?_]
 rw[((Wh _ _).symm)];refine aH (λ_ _ q=>kY (Xt s g) B q) ?_;have A:jM (bot*xs.length) top=jM (F*xs.length) (xs.map λT=>T i).sum:=by
  refine OP (Xt s g) (Xt u g) ?_;rw[Wh,Wh];generalize (xs.map λT=>T i).sum=S at *;generalize (bot:Int)=b at *;generalize (F:Int)=f at *;generalize ((xs.length:Nat):Int)=l at*
  grind
 rw[A];refine (λz=>z) #[bg (by simp),?_]
 simp_arith! only[bv,r,Mem.upd_upd]
 exact#[gn (by lia),h _ _ _]
theorem vq{F:Nat}{xs:List (Nat->Int)}{lc:eg}(o:∀M,ok M)(r:0<F)(m:F<=120)(B:∀T∈xs,∀i,-10000000000000<=T i/\T i<=10000000000000)(w:xs.length<=9)(z:v.length=xs.length)(l:0<xs.length)(s:lc≠g)(u:M lc=ap (.lst v)):
  ∀(vs:List aI)(j:Nat)(ab5:List D)(f b e a c:Option D),us.length=j+vs.length->ab5.length+vs.length<=1000->
  (∀f b e a c,D'.nx [d0,d1,d2,ap (.ref lc),f,d5,d6,d7,d8,d9,d10,d11,d12,d13,ap (.ref g),b,ap (.lst (xs.map λT=>.lst (rK us F T))),e,a,c] (M.upd g<|.lst (ab5++(vs.zipIdx j).map λp=>D.tup [kD p.1,jM (F*xs.length) (xs.map λT=>T p.2).sum])))->
  eV (dE 2<|aP (af 4)<|aP (af 17) dh) (gU ad EE) D' ok A (fH j<|vs.map kD) [d0,d1,d2,ap (.ref lc),f,d5,d6,d7,d8,d9,d10,d11,d12,d13,ap (.ref g),b,ap (.lst (xs.map λT=>.lst (rK us F T))),e,a,c] (M.upd g<|.lst ab5)
 |[],j,ab5,f,b,e,a,c,hu,hl,h=>by
  have:=h f b e a c;rw[List.zipIdx_nil,VF,Vl]at this;exact#[o _,this]
 |q::vs,j,ab5,f,b,e,a,c,hu,hl,h=>by
  simp at hu hl;refine#[o _,?_];refine#[rfl,HN (by lia) r m (by simp_all) w z l s u (by lia) λb a c=>?_]
  refine vq o r m B w z l s u vs _ _ _ _ _ _ _ (by lia) (by simp;lia) λf b e a c=>?_
  simp_all
theorem CX.Sm.tr(a:x.Sm y)(b:y.Sm z):x.Sm z:=#[a.1.trans b.1,a.2.trans b.2]
theorem CX.Sm.sy(a:x.Sm y):y.Sm x:=#[a.1.symm,a.2.symm]
theorem CX.Bs.tr(a:x.Bs y)(b:y.Bs z):x.Bs z:=#[a.w.trans b.w,a.n.trans b.n,a.m.trans b.m,a.r.trans b.r]
theorem CX.Bs.sy(a:x.Bs y):y.Bs x:=#[a.w.symm,a.n.symm,a.m.symm,a.r.symm]
theorem vg(rt:∀M,D'.rt (.bl true) M)(h:∀x∈y::r,x.Ok/\x.Bs x0)(few:r.length<=4)(hx0:x0∈y::r)(hg:g=true↔∀x∈y::r,x.two/\x.Sm x0)(hm:M lc=ap (.lst<|(y::r).map CX.d))(B:br 60 (.lst<|(y::r).map CX.d)=true/\(fw<|.lst<|(y::r).map CX.d).showable=true/\(fw<|.lst<|(y::r).map CX.d).shown.length<=sizeLine):
  ii ad EE D' [d0,d1,ap x0.d,ap (.ref lc),d4,d5,d6,ap (.bl g),d8,d9,ap .non,ay,ay,ay,ay,ay,ay,ay,ay,ay] M:=by
 have c:=(h x0 hx0).1;have P:∀x∈y::r,x.Ok/\x.Bs y:=λx a=>#[(h x a).1,(h x a).2.tr (h y UP).2.sy];have I:∀{N:Mem},N lc=ap (.lst<|(y::r).map CX.d)->dv N (.ref lc)=.lst ((y::r).map CX.d):=λe=>by simp only[dv,e]
 have gG:LR y (y::r)->g=true:=λz=>hg.mpr λx a=>#[z.1 x a,(z.2 x a).tr (z.2 x0 hx0).sy];have Gg:g=true->LR y (y::r):=λz=>#[λx a=>(hg.mp z x a).1,λx a=>(hg.mp z x a).2.tr (hg.mp z y UP).2.sy];unfold ii;generalize hK23:kE ad EE=K23;simp only[ah,ar,aq,bP,ag];refine#[bg (by simp),λp hp=>bG hp ?_]
 simp only[af,UN];rw[<- hK23];unfold kE;generalize Y:jv ad EE=K22
 simp_arith! only[ah,ar,bc,aa,ag,ac,dt,Uz,pA,I hm]
 refine#[B.1,B.2.1,B.2.2,?_];generalize O:(fw<|.lst<|(y::r).map CX.d).shown=txt at *;simp only[af,UN];rw[<- Y];unfold jv;generalize u:gH ad EE=K21;refine#[rfl,rfl,am λQ' E' b a=>jw (x0:=y) hm (by lia) P (λgd f H=>b _ _ ?_) λngd=>a _ _ #[rfl,λea=>am λQ' E' b _=>y0 λf H=>b _ _ ?_]]
 .have:=gG gd
  subst this;have j:=hg.mp rfl;have n1:=Mem.ne hm H;have m1:(M.upd f<|.lst<|dU y r) lc=ap (.lst<|(y::r).map CX.d):=by rw[ae n1];exact hm
  have m:(M.upd f<|.lst<|dU y r) f=ap (.lst<|dU y r):=Mem.upd_same;generalize hM1:M.upd f (.lst<|dU y r)=M1 at *;rw[<- u];unfold gH;generalize C:jO ad EE=K20;refine#[bg (by simp),λs U=>?_]
  have nc:lc≠s:=Mem.ne m1 U;have Z:f≠s:=Mem.ne m U;have mc:∀l,(M1.upd s<|.lst l) lc=ap (.lst<|(y::r).map CX.d):=λl=>by rw[ae nc];exact m1
  have mp:∀l,(M1.upd s<|.lst l) f=ap (.lst<|dU y r):=λl=>by rw[ae Z];exact m
  simp only[af,UN];rw[<- C];unfold jO;generalize hK19:jW ad EE=K19
  simp_arith! only[ah,cO,eZ,aZ,cg,ac,aO,mc,cH,cN,UG,VF,Vf,Vc,dt,Uz,VS]
  have ho:∀q∈[(lc,(y::r).map CX.d)],(M1.upd s<|.lst []) q.1=ap (.lst q.2):=λq b=>by simp only[VC]at b;subst b;exact mc _
  refine nO CX.d (λx=>.lst (rK x.us (fct x.us.length) x.T)) ho (y::r) [] _ (by simp;lia) (λx a K q=>?_) ?_
  .exact#[rfl,am λQ' E' b _=>HD (h x a).1 (vd (j x a).1) λp hp=>b _ _ (bG hp q)]
  have G:∀x∈y::r,x.us=x0.us:=λx a=>(j x a).2.2;have w:(y::r).map (λx=>D.lst (rK x.us (fct x.us.length) x.T))=((y::r).map CX.T).map λT=>.lst (rK x0.us (fct x0.us.length) T):=by
   simp_all
  rw[Vc,w];intro p3 hp3
  simp_arith! only[g5,UN,dt,Uz,Mem.upd_same,Mem.upd_del,au hp3]
  rw[<- hK19];unfold jW;generalize R:kg ad EE=K18;have hu5:=c.un;have fp:=jL x0.us.length;have J:fct x0.us.length<=120:=UL (o8 hu5) (by decide)
  refine#[rfl,am λQ' E' b _=>eR c.o c.hs c.ht λp4 hp4=>b _ _ (bG hp4 ?_)]
  simp_arith! only[aO,fV,cH]
  refine vq (us:=x0.us) (xs:=(y::r).map CX.T) (λ_=>aL) fp J (λT hT i=>?_) (by simp;lia) (by simp) (by simp) nc m1 x0.us 0 [] _ _ _ _ _ (by simp) (by simp;lia) λc4 c15 c17 c18 c19=>?_
  .obtain⟨x,a,rfl⟩:=UR.mp hT
   exact CX.bd (vd (j x a).1) (h x a).1.un i
  have edue:([]:List D)++(x0.us.zipIdx 0).map (λp=>D.tup [kD p.1,jM (fct x0.us.length*((y::r).map CX.T).length) (((y::r).map CX.T).map λT=>T p.2).sum])=dU y r:=by
   rw[Vc];unfold dU rK;rw[G y UP];refine VH λp _=>?_;rw[Vq,UA,UO];rfl
  rw[edue];have v:=PF (us:=y.us) (d:=fct y.us.length*(r.length+1)) (S:=λi=>((y::r).map λx=>x.T i).sum) (by rw[G y UP];lia)
  have emL:dU y r=rK y.us (fct y.us.length*(r.length+1)) λi=>((y::r).map λx=>x.T i).sum:=rfl;rw[<- emL]at v;have mdd:(M1.upd s<|.lst<|dU y r) s=ap (.lst<|dU y r):=Mem.upd_same;have mdp:=mp (dU y r);have X:=mc (dU y r);generalize hM2:M1.upd s (.lst<|dU y r)=M2 at *;rw[<- R];unfold kg;generalize W:jN ad EE=K17;refine#[bg (by simp),λp5 A=>bG A ?_]
  simp only[fX,dv,br,fits,aR,eW,WZ,Vj,if_false];refine#[trivial,trivial,?_];refine#[rfl,aH (λ_ _ q=>IL (n:=22) mdp mdd v q) ?_];have e4:=I X;refine#[by rw[e4];exact B.1,by rw[e4];exact B.2.1,by rw[e4,O];exact B.2.2,?_]
  rw[e4,O]
  simp_arith! only[ac,dt,Uz,fX,dv,br,aR,decide_true,beq_self_eq_true,WZ,Vj,if_false,aB]
  refine#[trivial,trivial,?_];rw[<- W];unfold jN;generalize L:jG ad EE=K16
  simp_arith! only[ah,b6,jd,ac,ag,dt,Uz,cy,mdp,uV]
  refine#[trivial,?_];rw[<- L];unfold jG;have npc:lc≠f:=n1;have m3c:(M2.upd f<|.lst []) lc=ap (.lst<|(y::r).map CX.d):=by rw[ae npc];exact X
  have m3d:(M2.upd f<|.lst []) s=ap (.lst<|dU y r):=by rw[ae Z.symm];exact mdd
  refine#[rfl,am λQ' E' b a=>jw (x0:=y) m3c (by lia) P (λgd p6 hp6=>b _ _ (bG hp6 ?_)) λn=>absurd gd n]
  exact#[rfl,aH (λ_ _ q=>Gw (n:=22) m3d v q)<|rt _]
 .have:g=false:=by
   cases g with
   |false=>rfl
   |true=>exact absurd (Gg rfl) ngd
  subst this;have m:(M.upd f<|.lst flagsD) f=ap (.lst flagsD):=Mem.upd_same;generalize M.upd f (.lst flagsD)=M1 at *;rw[<- u];unfold gH nZ;refine#[bg (by simp),λp5 A=>bG A ?_]
  have dvf:dv M1 (.ref f)=.lst flagsD:=by simp only[dv,m]
  have dvn:dv M1 (.lst [])=.lst []:=rfl;have df:aR (.lst flagsD) (.lst [])=false:=rfl;simp only[fX,dvf,dvn,df,XY];refine#[by decide,rfl,?_]
  refine#[rfl,am λQ' E' b _=>Dy m (b _ _ ?_)]
  simp_arith! only[dC,frz,bX,dv,br,aR]
  simp_all
theorem E6(ad:Ad)(ns:ab_)(hl:ns.length<=63):IG ad [.ml (ns.map D.int)] (λ_=>ay) (λd _=>d=.bl true) kP:=by
 have H:∀{v:Int}{M:Mem}{Q:DK},Q (.int v) M->frz (.int v) M Q:=λz=>z;rw[RX];unfold D7;generalize hK28:jZ ad (aF kP)=K28
 simp_arith! only[ah,ar,aj,aa,ag,ac,dt]
 refine#[rfl,am λQ' E' A _=>Fa λk M1 hk _=>A _ _ ?_];simp only[af,UN];rw[<- hK28];unfold jZ;generalize W:jY ad (aF kP)=K27
 simp_arith! only[ah,ar,aq,aj,aa,ag,ai,ac,dC,dt,Uz]
 refine#[rfl,aG hk (by decide) (by decide) λr M2 a2 b2 d2=>H ?_]
 simp_arith! only[aU]
 obtain⟨B,hfew,f1,f5⟩:∃B:Nat,1+r=(B:Int)/\1<=B/\B<=5:=#[(1+r).toNat,by lia,by lia,by lia]
 rw[hfew];refine#[rfl,am λQ' E' A _=>Dx f1 f5 d2.1 λC s t M3 c q3=>A _ _ (p8 ?_)];simp only[af,UN];rw[<- W];unfold jY;generalize S:jr ad (aF kP)=K26
 simp_arith! only[ah,ar,bP,aa,ag,ac,dt,Uz]
 refine#[bg (by simp),λlc hlc=>?_]
 have E:=q3.1.nep hlc;have hk4:=q3.1.upd E (o:=.lst [aS C s t]);have hm4:(M3.upd lc<|.lst [aS C s t]) lc=ap (.lst [aS C s t]):=Mem.upd_same;generalize M3.upd lc (.lst [aS C s t])=M4 at *;simp only[af,UN];rw[<- S];unfold jr;generalize hK25:kt ad (aF kP)=K25
 simp_arith! only[ah,cJ,fW,aq,aj,aa,ag,ac,dC,dt,Uz]
 refine#[rfl,aG hk4 (by decide) (by decide) λr2 M5 a5 b5 d5=>H #[by lia,by lia,?_]]
 have hm5:M5 lc=ap (.lst [aS C s t]):=by rw[d5.2 lc E.1 E.2];exact hm4
 have un5:=UL c.un f5;have ok0:CX.Ok #[C,s,t]:=#[c.o,c.hs,c.ht,un5];refine rC (k:=k) (λ_=>aL) c f5 E _ [] M5 ay ay ay #[λx u=>?_,λx u=>?_,λx u=>?_] (by simp[dD];lia) d5.1 hm5 λr M6 c4 c5 c6 I hr hk6 hm6=>?_
 .rw[VC]at u;subst u;exact#[ok0,rfl,rfl,rfl,rfl]
 .rw[VC]at u;subst u;exact c.two
 .rw[VC]at u;subst u;exact#[rfl,rfl]
 have gd:∀x:CX,x.Ok->x.Bs #[C,s,t]->good x.d/\sz x.d<=700000/\x.C.Ok:=λx ok bs=>by
  have en:x.C.names=C.names:=bs.n;have em:x.C.many=C.many:=bs.m;have er:x.C.rows=C.rows:=bs.r;have:=Dv ok.o ok.hs ok.ht (by rw[en];exact c.one) (by rw[em];exact c.h1) (by rw[en];exact c.n12) (by rw[er];exact c.cn)
  exact#[this.1,this.2,ok.o]
 simp only[ah,ar,dC,af,UN];rw[<- hK25];unfold kt;generalize L:ii ad (aF kP)=K24;have K:(#[C,s,t]:CX)∈(#[C,s,t]:CX)::r:=UP
 simp_arith! only[ah,aC,ao,ai,aq,aj,aa,ag,ac,dC,dt,Uz]
 refine#[rfl,aG hk6 (by decide) (by decide) λr3 M7 a7 b7 d7=>H ?_]
 have hm7:M7 lc=ap (.lst<|((#[C,s,t]:CX)::r).map CX.d):=by rw[d7.2 lc E.1 E.2];exact hm6
 have rtt:∀M:Mem,drp (λd (_:Mem)=>d=D.bl true) (.bl true) M:=λ_=>ak rfl;have dvi:∀i:Int,dv M7 (.int i)=.int i:=λ_=>rfl;simp only[dC];simp only[bX,dvi,br,aR,Me];refine#[trivial,trivial,?_]
 by_cases Y:r3=0
 .rw[if_pos (by simp[Y])]
  have ft:∀{xs:List D}{M:Mem}{Q:DK},Q (.tup xs) M->frz (.tup xs) M Q:=λz=>z;unfold uK;generalize hK8:mv ad (aF kP)=K8
  simp_arith! only[ah,ar,aq,aj,aa,ac,ag,dt,Uz]
  refine#[rfl,am λQ' E' A _=>tj c f5 d7.1 λx M8 f bsx X=>A _ _ (p8 (C:=x.C) (s:=x.s) (t:=x.t) ?_)];have U:=X.kp E hm7;simp only[af,UN];rw[<- hK8];unfold mv;generalize hK7:nv ad (aF kP)=K7;have hcs:aS x.C x.s x.t=.tup [x.C.d,x.s.d,x.t.d,.int (x.C.most:Nat)]:=JZ;have hc0:aS C s t=.tup [C.d,s.d,t.d,.int (C.most:Nat)]:=JZ
  simp_arith! only[ah,ar,aq,aj,aa,ac,dC,ag,ai,dt,Uz,hcs,aw,aO,atI_0,atI_1,atI_2,atI_3]
  refine#[rfl,am λQ' E' A _=>dj f.o f.hs f.ht (A _ _<|jH ?_)];simp only[af,UN];rw[<- hK7];unfold nv;generalize hK6:m_ ad (aF kP)=K6;have P:(((#[C,s,t]:CX)::r).map CX.d).length=r.length+1:=by simp
  simp_arith! only[ah,ar,aq,aj,aa,ac,dC,ag,ai,bc,bj,aO,U,P,aU,dt,Uz]
  refine#[rfl,aG X.1 (by lia) (by lia) λat_ M9 a9 b9 d9=>H ?_]
  have hm9:M9 lc=ap (.lst<|((#[C,s,t]:CX)::r).map CX.d):=by rw[d9.2 lc E.1 E.2];exact U
  obtain⟨j,rfl⟩:∃j:Nat,at_=(j:Int):=#[at_.toNat,by lia]
  have sql:dI M9 (.ref lc)=ap (((#[C,s,t]:CX)::r).map CX.d):=by simp_arith! only[dI,hm9]
  simp only[af,UN];rw[<- hK6];unfold m_;generalize hK5:my ad (aF kP)=K5
  simp_arith! only[ah,ar,aq,qS,bu,cC,bP,aa,ac,ag,ai,PL,sql,uy,ua,dt,Uz]
  refine λp1 hp1=>bG hp1 #[bg (by simp),λp2 hp2=>bG hp2 ?_]
  have oA:∀{a b:List D}{N:Mem}{Q:DK},a.length+b.length<=1000->(∀p,N p=ay->Q (.ref p) (N.upd p<|.lst (a++b)))->aU (.lst a) (.lst b) N Q:=λh q=>by
   simp_arith! only[aU,dI]
   exact#[bg (by lia),q]
  have l1:(Xb j<|((#[C,s,t]:CX)::r).map CX.d).length<=r.length+1:=by rw[Wt,P];lia
  have l2:(Xc j<|((#[C,s,t]:CX)::r).map CX.d).length<=r.length+1:=by rw[XB,P];lia
  refine oA (by simp only[UO,V0];lia) λp3 hp3=>bG hp3 ?_
  simp only[sql];refine λp4 hp4=>bG hp4 ?_;rw[ua];refine oA (by simp only[UU,UO,V0];lia) λZ hl5=>?_
  have exs:∀l:List CX,Xb j (l.map CX.d)++[aS x.C x.s x.t]++Xc j (l.map CX.d)=(Xb j l++x::Xc j l).map CX.d:=λl=>by
   rw[XN,UG,List.map_take,List.map_drop,List.append_assoc];rfl
  rw[exs];have w:∀z,z∈Xb j ((#[C,s,t]:CX)::r)++x::Xc j ((#[C,s,t]:CX)::r)↔z=x\/z∈(#[C,s,t]:CX)::r:=λz=>by
   have e:z∈(#[C,s,t]:CX)::r↔z∈Xb j ((#[C,s,t]:CX)::r)\/z∈Xc j ((#[C,s,t]:CX)::r):=by
    rw[<- Vg,List.take_append_drop]
   rw[Vg,UK,e];constructor
   .rintro (h|h|h)
    .exact .inr (.inl h)
    .exact .inl h
    .exact .inr (.inr h)
   .rintro (h|h|h)
    .exact .inr (.inl h)
    .exact .inl h
    .exact .inr (.inr h)
  have J:(Xb j ((#[C,s,t]:CX)::r)++x::Xc j ((#[C,s,t]:CX)::r)).length<=5:=by
   rw[UU,UO,Wt,XB,UO];lia
  obtain⟨y,R,eyr⟩:∃y R,Xb j ((#[C,s,t]:CX)::r)++x::Xc j ((#[C,s,t]:CX)::r)=y::R:=by
   cases e:Xb j ((#[C,s,t]:CX)::r)++x::Xc j ((#[C,s,t]:CX)::r) with
   |nil=>rw[List.append_eq_nil_iff]at e;cases e.2
   |cons a b=>exact#[a,b,rfl]
  rw[eyr]at w J ⊢;have hmN:(M9.upd Z<|.lst<|(y::R).map CX.d) Z=ap (.lst<|(y::R).map CX.d):=Mem.upd_same;generalize M9.upd Z (.lst<|(y::R).map CX.d)=N at *;have O:∀z∈y::R,z.Ok/\z.Bs #[C,s,t]:=λz hz=>by
   rcases (w z).mp hz with rfl|hz
   .exact#[f,bsx]
   .exact I.ok z hz
  have fin:∀(g:Bool)(c3 c6 c8 c9:Option D),(g=true↔x.two/\x.Sm #[C,s,t])->K24 { nx:=λ_ M'=>drp (λd (_:Mem)=>d=D.bl true) D.non M',rt:=drp λd (_:Mem)=>d=D.bl true } [ap (.ml<|ns.map D.int),ap (.ref k.p),ap (aS C s t),ap (.ref Z),c4,c5,c6,ap (.bl g),c8,c9,ap .non,ay,ay,ay,ay,ay,ay,ay,ay,ay] N:=λg c3 c6 c8 c9 hg=>by
   rw[<- L];refine vg (x0:=#[C,s,t]) (g:=g) rtt O (by simp only[UO]at J;lia) ((w _).mpr<|.inr K) (hg.trans #[λh z hz=>?_,λh=>h x ((w x).mpr<|.inl rfl)]) hmN (pq (λz hz=>gd z (O z hz).1 (O z hz).2)<|by lia)
   rcases (w z).mp hz with rfl|hz
   .exact h
   .exact#[I.two z hz,I.sm z hz]
  simp only[af,UN];rw[<- hK5];unfold my;generalize hK4:mD ad (aF kP)=K4;have dq:=bsx.dq c.o;have dq':aR x.C.d C.d=decide (x.C.mn=C.mn):=dq;have fpx:=fE f.o;have fp0:=fE c.o;have dvp:∀{C:Cse},dv N C.d=C.d:=λ{C}=>rfl;have g1:∀us:List aI,br 60 (.lst<|us.map kD)=true:=λus=>by unfold br;exact mz 59 _
  have dvl:∀us:List aI,dv N (.lst<|us.map kD)=.lst (us.map kD):=λ_=>rfl;have k4:∀g:Bool,(g=true↔x.Sm #[C,s,t])->K4 { nx:=ah (ar (dC D.non)<|af 10) K24 { nx:=λ_ M'=>drp (λd (_:Mem)=>d=D.bl true) D.non M',rt:=drp λd (_:Mem)=>d=D.bl true },rt:=drp λd (_:Mem)=>d=D.bl true } [ap (.ml<|ns.map D.int),ap (.ref k.p),ap (aS C s t),ap (.ref Z),c4,c5,ap (EV x.C x.s x.t),ap (.bl g),ap (aS x.C x.s x.t),ap (.int (j:Int)),ay,ay,ay,ay,ay,ay,ay,ay,ay,ay] N:=λg hg=>by
   rw[<- hK4];unfold mD;cases g with
   |false=>
    simp_arith! only[ah,ar,fJ,ac,dC,dt,Uz,af,UN]
    exact fin eC ay _ _ _ #[λh=>(WI h).elim,λh=>hg.mpr h.2]
   |true=>
    have sm:=hg.mp rfl;rcases qM (C:=x.C) (s:=x.s) (t:=x.t) with⟨a,b,e,ea,eb⟩|⟨e,n2⟩
    .have t2:x.two↔a≠b:=(λea f=>by
       refine#[λ⟨x,y,c,e,g⟩=>?_,λh=>#[a,b,ea,f,h]];rw[ea]at c;rw[f]at e;cases c;cases e;exact g) ea eb
     rw[e]
     simp_arith! only[ah,ar,fJ,ai,ac,dC,dt,Uz,eq,lY,XY,aw,aO,atI_0,atI_1,fX,dv,br,aR,af,UN]
     refine#[trivial,trivial,fin _ ay _ _ _ ?_];rw[t2];simp[sm]
    .rw[e]
     simp_arith! only[ah,ar,fJ,ai,ac,dC,dt,Uz,eq,lY,WZ,af,UN]
     exact fin eC ay _ _ _ #[λh=>(WI h).elim,λh=>(n2 h.1).elim]
  simp_arith! only[ah,ar,fJ,ai,ac,dC,dt,Uz,hcs,hc0,aw,aO,atI_0,bX,dvp,fpx,fp0,dq']
  refine#[trivial,trivial,?_]
  by_cases G:x.C.mn=C.mn
  .simp only[G,decide_true,QX]
   simp_arith! only[ai,aq,aj,aa,ac,ag,dt,Uz]
   refine#[rfl,am λQ' E' A _=>eR f.o f.hs f.ht λp6 hp6=>A _ _ (bG hp6 ?_)];refine#[rfl,am λQ' E' A _=>eR c.o c.hs c.ht λp7 hp7=>A _ _ (bG hp7 ?_)];simp only[bX,dvl,g1,GX];refine#[trivial,trivial,?_];simp only[af,UN];refine k4 _ ?_;rw[decide_eq_true_iff];exact#[λh=>#[G,h],λh=>h.2]
  .simp only[G,decide_false,Rh]
   simp only[af,UN];exact k4 eC #[λh=>(WI h).elim,λh=>(G h.1).elim]
 .rw[if_neg (by simp[Y])]
  simp only[aB,ar,dC,af,UN];rw[<- L];refine vg (x0:=#[C,s,t]) (g:=true) rtt I.ok (by lia) K #[λ_ x u=>#[I.two x u,I.sm x u],λ_=>rfl] hm7 (pq (λx u=>gd x (I.ok x u).1 (I.ok x u).2)<|by simp;lia)
def Hc(K:UE):Sp:=λb H Q _=>∃(a:eg)(ns:ab_),b=[.ref a]/\Fn H/\SqL K H a (ns.map V.int)/\ns.length<=63/\∀H',Q (.bl true) H'
theorem Qg{l:W.OpenLaw}{w:hB}{K:UE}{h:h9}{mg:ach}{fa C_Ends C_Going C_Outcome C_Walk C_Dry C_NoBuild C_NoCase C_NoLine C_NoMoment C_NoPlace C_NoRow C_NoText C_StrideError C_TooBig C_TooMany f1 f2 f3 f4 f5 f6 f7 f8 f9 f10 f11 f12 f13 f14 f15 f16 f17 f18 f19 f20 f21 f22 f23 f24 f25 f26 f27 f28 f29 f30 f31 f32 f33 f34 f35 f36 f37 f38 f39 f40 f41 f42 f43 f44 f45 f46 f47 f48 f49 f50 f51 f52 f53 f54 f55 f56 f57 f58 f59 f60 f61 f62 f63 f64 f65 f66 f67 f68 f69 f70:eg}(X:K.In h)(G:h.Ns ff mg)(hfa:mg "law"=ap (.ref fa)){e1 e2 e3 e4 e5 e6 e7 e8 e9 e10 e11 e12 e13 e14 e15 e16 e17 e18 e19 e20 e21 e22 e23 e24 e25 e26 e27 e28 e29 e30 e31 e32 e33 e34 e35 e36 e37 e38 e39 e40 e41 e42 e43 e44 e45 e46 e47 e48 e49 e50 e51 e52 e53 e54 e55 e56 e57 e58 e59 e60 e61 e62 e63 e64 e65 e66 e67 e68 e69 e70:hG}(N:VB K ff "Ends"=ap (ap<|.ref C_Ends))(I:VB K ff "Going"=ap (ap<|.ref C_Going))(m:VB K ff "Outcome"=ap (ap<|.ref C_Outcome))(O:VB K ff "Walk"=ap (ap<|.ref C_Walk))(Z:VB K ff "Dry"=ap (ap<|.ref C_Dry))(p:VB K ff "NoBuild"=ap (ap<|.ref C_NoBuild))(z:VB K ff "NoCase"=ap (ap<|.ref C_NoCase))(A:VB K ff "NoLine"=ap (ap<|.ref C_NoLine))(j:VB K ff "NoMoment"=ap (ap<|.ref C_NoMoment))(r:VB K ff "NoPlace"=ap (ap<|.ref C_NoPlace))(J:VB K ff "NoRow"=ap (ap<|.ref C_NoRow))(B:VB K ff "NoText"=ap (ap<|.ref C_NoText))(b:VB K ff "StrideError"=ap (ap<|.ref C_StrideError))(C:VB K ff "TooBig"=ap (ap<|.ref C_TooBig))(q:VB K ff "TooMany"=ap (ap<|.ref C_TooMany))(l1:Mf K C_Walk "__init__" "Walk.__init__" SV f1 e1)(l2:Mf K C_Walk "note_step" "Walk.note_step" Tn f2 e2)(l3:Mf K C_Walk "look" "Walk.look" ME f3 e3)(l4:Nf K "run" Ml f4 e4)(l5:Nf K "mark" Mz f5 e5)(l6:Nf K "do_rows" Mn f6 e6)(l7:Af K "do_row_runs" "do_row" NP f7 e7)(l8:Nf K "do_if" Nl f8 e8)(l9:Nf K "do_again" Nu f9 e9)(l10:Nf K "number_of" Mt f10 e10)(l11:Nf K "piece_read" MX f11 e11)(l12:Nf K "joined" Nc f12 e12)(l13:Nf K "all_things" ML f13 e13)(l14:Nf K "in_order" NA f14 e14)(l15:Nf K "number_in" MV f15 e15)(l16:Nf K "names_read" Mu f16 e16)(l17:Nf K "unlike" NS f17 e17)(l18:Nf K "marks" N5 f18 e18)(l19:Nf K "unlike_of" Ni f19 e19)(l20:Nf K "verdict_of" MI f20 e20)(l21:Mf K C_Going "__init__" "Going.__init__" T7 f21 e21)(l22:Mf K C_Going "settled" "Going.settled" Ub f22 e22)(l23:Mf K C_Ends "__init__" "Ends.__init__" TZ f23 e23)(l24:Mf K C_Ends "one_more" "Ends.one_more" SZ f24 e24)(l25:Nf K "start" NE f25 e25)(l26:Nf K "put_ahead" N8 f26 e26)(l27:Nf K "go_on" Mr f27 e27)(l28:Nf K "asked_by" NL f28 e28)(l29:Af K "do_row_trees" "do_row" MW f29 e29)(l30:Nf K "mark_of" Ny f30 e30)(l31:Nf K "both_ways" MF f31 e31)(l32:NV K "tree" NH f32 e32 (500))(l33:Nf K "grown" Nt f33 e33)(l34:Mf K C_Outcome "__init__" "Outcome.__init__" Tj f34 e34)(l35:Nf K "outcomes" NI f35 e35)(l36:Nf K "numbers_of" MN f36 e36)(l37:NV K "shares" Mg f37 e37 (500))(l38:NV K "mean_shares" MH f38 e38 (500))(l39:Nf K "mean_of" M_ f39 e39)(l40:Nf K "orders_of" Mo f40 e40)(l41:Nf K "orders_up_to" MT f41 e41)(l42:Nf K "in_lowest_terms" Tc f42 e42)(l43:Nf K "_law_stirred" NC f43 e43)(l44:Nf K "_law_pot" Ng f44 e44)(l45:Nf K "_law_draw" Nb f45 e45)(l46:Nf K "_law_names" MP f46 e46)(l47:Nf K "_law_row" MZ f47 e47)(l48:Nf K "_law_block" Nm f48 e48)(l49:Nf K "_law_rows" Nd f49 e49)(l50:Nf K "_law_plan" Mi f50 e50)(l51:Nf K "_law_stand" NO f51 e51)(l52:Nf K "_law_becomes" Ms f52 e52)(l53:Nf K "_law_stepped" MM f53 e53)(l54:Nf K "_law_rounds" Nj f54 e54)(l55:Nf K "_law_done" Mj f55 e55)(l56:Nf K "_law_run" NM f56 e56)(l57:Nf K "_law_flat" Nx f57 e57)(l58:Nf K "_law_marks" Mp f58 e58)(l59:Nf K "_law_other" Mv f59 e59)(l60:Nf K "_law_by_name" NG f60 e60)(l61:Nf K "_law_by_piece" Us f61 e61)(l62:Nf K "_law_case" Mx f62 e62)(l63:Nf K "_law_things" Mq f63 e63)(l64:Nf K "_law_alike" Mh f64 e64)(l65:Nf K "_law_fraction" TU f65 e65)(l66:Nf K "_law_name" Mm f66 e66)(l67:Nf K "_law_kinds" NF f67 e67)(l68:Nf K "_law_anew" No f68 e68)(l69:Nf K "_law_strange" MG f69 e69)(l70:Nf K "law" lR f70 e70)(aa6:Zr K C_Dry [.type "ValueError",.type "Exception",.type "BaseException",.type "object"] "ValueError.__new__"=true)(aaH:Zr K C_NoCase [.type "ValueError",.type "Exception",.type "BaseException",.type "object"] "ValueError.__new__"=true)(aav:Zr K C_TooMany [.type "ValueError",.type "Exception",.type "BaseException",.type "object"] "ValueError.__new__"=true)(xg:Vp K (.ref C_NoCase) "__getattribute__"=ap (ap<|.builtin "BaseException.__getattribute__"))(xh:Vp K (.ref C_NoCase) "__getattr__"=ap ay)(xk:Vp K (.ref C_NoCase) "__class__"=ap (ap<|.builtin "object.__class__"))(xsp:W.specialIn K (.builtin "object.__class__") "__get__"=ap (ap<|.builtin "getset_descriptor.__get__"))(xtk:W.takesIn K (.builtin "object.__class__")=ap true)(xob:V2 K C_NoCase (.type "object")=ap true)(xbe:V2 K C_NoCase (.type "BaseException")=ap true)(f:V2 K C_NoCase (.ref C_NoCase)=ap true)(aa3:Vt K C_Dry=true)(aag:Vt K C_NoBuild=true)(Z4:Vt K C_NoCase=true)(aaw:Vt K C_NoLine=true)(aab:Vt K C_NoMoment=true)(aah:Vt K C_NoPlace=true)(aaI:Vt K C_NoRow=true)(aax:Vt K C_NoText=true)(ZW:Vt K C_StrideError=true)(aay:Vt K C_TooBig=true)(aai:Vt K C_TooMany=true)(ZX:W.instIn K (.ref C_StrideError) (.type "tuple")=ap eC)(ZY:V2 K C_StrideError (.type "BaseException")=ap true)(ZZ:V2 K C_NoCase (.ref C_StrideError)=ap true)(aa4:WJ K (.ref C_Dry)=ap (.type "type"))(aa5:V2 K C_NoCase (.ref C_Dry)=ap eC)(aaj:WJ K (.ref C_NoBuild)=ap (.type "type"))(aak:V2 K C_NoCase (.ref C_NoBuild)=ap eC)(aaz:WJ K (.ref C_NoCase)=ap (.type "type"))(aaA:V2 K C_NoCase (.ref C_NoCase)=ap true)(aaB:WJ K (.ref C_NoLine)=ap (.type "type"))(aaC:V2 K C_NoCase (.ref C_NoLine)=ap eC)(aac:WJ K (.ref C_NoMoment)=ap (.type "type"))(aad:V2 K C_NoCase (.ref C_NoMoment)=ap eC)(aal:WJ K (.ref C_NoPlace)=ap (.type "type"))(aam:V2 K C_NoCase (.ref C_NoPlace)=ap eC)(aaJ:WJ K (.ref C_NoRow)=ap (.type "type"))(aaK:V2 K C_NoCase (.ref C_NoRow)=ap eC)(aaD:WJ K (.ref C_NoText)=ap (.type "type"))(aaE:V2 K C_NoCase (.ref C_NoText)=ap eC)(aaF:WJ K (.ref C_TooBig)=ap (.type "type"))(aaG:V2 K C_NoCase (.ref C_TooBig)=ap eC)(aan:WJ K (.ref C_TooMany)=ap (.type "type"))(aao:V2 K C_NoCase (.ref C_TooMany)=ap eC)(Z2:V2 K C_NoCase (.type "ValueError")=ap true)(aaR:W4 K C_Ends Yr=true)(aaS:Vt K C_Ends=true)(aaT:Xw K C_Ends=true)(aaU:Vp K (.ref C_Ends) "__setattr__"=ap (ap<|.builtin "object.__setattr__"))(aaV:XI K C_Ends=true)(aaW:VJ K (.ref C_Ends)=true)(aaL:W4 K C_Going Yr=true)(aaM:Vt K C_Going=true)(aaN:Xw K C_Going=true)(aaO:Vp K (.ref C_Going) "__setattr__"=ap (ap<|.builtin "object.__setattr__"))(aaP:XI K C_Going=true)(aaQ:VJ K (.ref C_Going)=true)(aap:W4 K C_Outcome Yr=true)(aaq:Vt K C_Outcome=true)(aar:Xw K C_Outcome=true)(aas:Vp K (.ref C_Outcome) "__setattr__"=ap (ap<|.builtin "object.__setattr__"))(aat:XI K C_Outcome=true)(aau:VJ K (.ref C_Outcome)=true)(aaX:W4 K C_Walk Yr=true)(aaY:Vt K C_Walk=true)(aaZ:Xw K C_Walk=true)(aa0:Vp K (.ref C_Walk) "__setattr__"=ap (ap<|.builtin "object.__setattr__"))(aa1:XI K C_Walk=true)(aa2:VJ K (.ref C_Walk)=true)(Z5:Vp K (.ref C_Ends) "count"=ap ay)(Z6:Vp K (.ref C_Ends) "limit"=ap ay)(Z7:Vp K (.ref C_Going) "left"=ap ay)(ZU:Vp K (.ref C_Going) "numbers"=ap ay)(Z0:Vp K (.ref C_Going) "pieces"=ap ay)(Z8:Vp K (.ref C_Going) "todo"=ap ay)(ZQ:Vp K (.ref C_Going) "unsettled"=ap ay)(ZT:Vp K (.ref C_Outcome) "faulty"=ap ay)(ZV:Vp K (.ref C_Outcome) "sound"=ap ay)(ZR:Vp K (.ref C_Outcome) "verdict"=ap ay)(aae:Vp K (.ref C_Walk) "most"=ap ay)(Z1:Vp K (.ref C_Walk) "numbers"=ap ay)(Z3:Vp K (.ref C_Walk) "pieces"=ap ay)(aaf:Vp K (.ref C_Walk) "plan"=ap ay)(Z9:Vp K (.ref C_Walk) "steps"=ap ay)(aaa:VB K ff "ValueError"=ap ay)(z_abs:VB K ff "abs"=ap ay)(z_all:VB K ff "all"=ap ay)(S:VB K ff "bool"=ap ay)(Y:VB K ff "dict"=ap ay)(g:VB K ff "enumerate"=ap ay)(z_int:VB K ff "int"=ap ay)(c:VB K ff "isinstance"=ap ay)(z_len:VB K ff "len"=ap ay)(U:VB K ff "list"=ap ay)(z_max:VB K ff "max"=ap ay)(z_min:VB K ff "min"=ap ay)(P:VB K ff "range"=ap ay)(R:VB K ff "repr"=ap ay)(o:VB K ff "reversed"=ap ay)(z_str:VB K ff "str"=ap ay)(z_sum:VB K ff "sum"=ap ay)(L:VB K ff "tuple"=ap ay)(z_zip:VB K ff "zip"=ap ay):
  ∃fd:hG,(∀(s:ez)(v:ax),abh s fd #[[v],[]] [("script",v)])/\∀u:h9,K.In u->u.Ns ff mg->FnOk l.prog w K mg u CX0 35 fa fd ["script"] (Hc K):=by
 have e:=hfa.symm.trans (V9 X G l70.a);cases e;obtain⟨_,_,kV,dc,pm,an,cd,ct,_,rfl,_⟩:=l70.F.ex;refine#[WO "law" "law" (cj lR) (bt lR) (aJ lR) .none kV dc pm an cd ct,λs v=>.of_eq rfl,λu _ _=>?_]
 let ad:Ad:=#[C_Ends,C_Going,C_Outcome,C_Walk,C_Dry,C_NoBuild,C_NoCase,C_NoLine,C_NoMoment,C_NoPlace,C_NoRow,C_NoText,C_StrideError,C_TooBig,C_TooMany,f1,f2,f3,f4,f5,f6,f7,f8,f9,f10,f11,f12,f13,f14,f15,f16,f17,f18,f19,f20,f21,f22,f23,f24,f25,f26,f27,f28,f29,f30,f31,f32,f33,f34,f35,f36,f37,f38,f39,f40,f41,f42,f43,f44,f45,f46,f47,f48,f49,f50,f51,f52,f53,f54,f55,f56,f57,f58,f59,f60,f61,f62,f63,f64,f65,f66,f67,f68,f69,fa,e1,e2,e3,e4,e5,e6,e7,e8,e9,e10,e11,e12,e13,e14,e15,e16,e17,e18,e19,e20,e21,e22,e23,e24,e25,e26,e27,e28,e29,e30,e31,e32,e33,e34,e35,e36,e37,e38,e39,e40,e41,e42,e43,e44,e45,e46,e47,e48,e49,e50,e51,e52,e53,e54,e55,e56,e57,e58,e59,e60,e61,e62,e63,e64,e65,e66,e67,e68,e69,WO "law" "law" (cj lR) (bt lR) (aJ lR) .none kV dc pm an cd ct]
 have T:En l.prog w K mg u ad:=#[#[aaR,aaS,aaT,aaU],
  V9 X G N,
  #[aaL,aaM,aaN,aaO],
  V9 X G I,
  #[aap,aaq,aar,aas],
  V9 X G m,
  #[aaX,aaY,aaZ,aa0],
  V9 X G O,
  Z5,
  Z6,
  Z7,
  ZU,
  Z0,
  Z8,
  ZQ,
  ZT,
  ZV,
  ZR,
  aae,
  Z1,
  Z3,
  aaf,
  Z9,
  ja X aa6,
  V9 X G Z,
  V9 X G p,
  ja X aaH,
  V9 X G z,
  V9 X G A,
  V9 X G j,
  V9 X G r,
  V9 X G J,
  V9 X G B,
  V9 X G b,
  V9 X G C,
  ja X aav,
  V9 X G q,
  #[xg,xh,Z4,xk,xsp,xtk,xob,xbe],
  #[ZX,xn ZW,ZY,ZZ],
  eU f aa3 aa4 aa5,
  eU f aag aaj aak,
  eU f Z4 aaz aaA,
  eU f aaw aaB aaC,
  eU f aab aac aad,
  eU f aah aal aam,
  eU f aaI aaJ aaK,
  eU f aax aaD aaE,
  eU f aay aaF aaG,
  eU f aai aan aao,
  QC Z2,
  Vr X G aaa,
  Vr X G z_abs,
  Vr X G z_all,
  Vr X G S,
  Vr X G Y,
  Vr X G g,
  Vr X G z_int,
  Vr X G c,
  Vr X G z_len,
  Vr X G U,
  Vr X G z_max,
  Vr X G z_min,
  Vr X G P,
  Vr X G R,
  Vr X G o,
  Vr X G z_str,
  Vr X G z_sum,
  Vr X G L,
  Vr X G z_zip,
  gi aa1 aa2 l1,
  gm l2,
  gm l3,
  gf X G l4,
  gf X G l5,
  gf X G l6,
  ga X G l7,
  gf X G l8,
  gf X G l9,
  gf X G l10,
  gf X G l11,
  gf X G l12,
  gf X G l13,
  gf X G l14,
  gf X G l15,
  gf X G l16,
  gf X G l17,
  gf X G l18,
  gf X G l19,
  gf X G l20,
  gi aaP aaQ l21,
  gm l22,
  gi aaV aaW l23,
  gm l24,
  gf X G l25,
  gf X G l26,
  gf X G l27,
  gf X G l28,
  ga X G l29,
  gf X G l30,
  gf X G l31,
  gv X G l32 rfl λ_ _ _ _ _ _ _ _=>#[λ_=>#[_,rfl,rfl],λ_ _=>#[_,rfl,rfl]],
  gf X G l33,
  gi aat aau l34,
  gf X G l35,
  gf X G l36,
  gv X G l37 rfl λ_ _ _ _ _ _ _ _=>#[λ_=>#[_,rfl,rfl],λ_ _=>#[_,rfl,rfl]],
  gv X G l38 rfl λ_ _ _ _ _ _ _ _=>#[λ_=>#[_,rfl,rfl],λ_ _=>#[_,rfl,rfl]],
  gf X G l39,
  gf X G l40,
  gf X G l41,
  gf X G l42,
  gf X G l43,
  gf X G l44,
  gf X G l45,
  gf X G l46,
  gf X G l47,
  gf X G l48,
  gf X G l49,
  gf X G l50,
  gf X G l51,
  gf X G l52,
  gf X G l53,
  gf X G l54,
  gf X G l55,
  gf X G l56,
  gf X G l57,
  gf X G l58,
  gf X G l59,
  gf X G l60,
  gf X G l61,
  gf X G l62,
  gf X G l63,
  gf X G l64,
  gf X G l65,
  gf X G l66,
  gf X G l67,
  gf X G l68,
  gf X G l69,
  gf X G l70]
 exact(Oa<|Rq T).imp λvs H Q E ⟨a,ns,e,hO,hS,hl,k⟩=>by subst e;exact Kk hO hS (E6 ad ns hl) k
theorem walk{l:W.OpenLaw}{K:Params->UE}(p:l.most=ap 63)(e:d.params.defaults=[])(r:∀(w:hB)(h:h9),YP w h->(K w.params).In h)(F:∀(w:hB)(c:ach)(fa:eg)(h:h9),(K w.params).In h->h.Ns ff c->c d.name=ap (.ref fa)->
   ∃fd:hG,(∀(s:ez)(u:ax),abh s fd #[[u],[]] [("script",u)])/\∀b:h9,(K w.params).In b->b.Ns ff c->FnOk l.prog w (K w.params) c b CX0 35 fa fd ["script"] (Hc<|K w.params)):
  W.WalkO q loose XP YP l.row.toRowW d [] (λf vs=>Zq f vs):=
 _2.JU (n:=63) (k:=35) (x:="script") (CX:=λ_=>CX0) (sp:=λw=>Hc (K w.params)) p (by decide) e #[rfl,by decide,by decide,rfl] r F (λ_ _ a o j g m=>#[a,o,rfl,g,m,j,λ_=>rfl]) λ_ _ _ _ _ z=>z
end _T
open PySem PySem.W PyProof.Rows
set_option bootstrap.genMatcherCode true in
local macro_rules|`(set_option tw $s:str)=>do
 let r:=s.getString.foldl (fun (a,v,k) c=>let v:=v*91+c.toNat-(if c.toNat>92 then 36 else 35);if k==9 then (a.push (Lean.mkIdent (.mkSimple s!"tw{v}")),0,0) else (a,v,k+1)) ((.empty:Array Lean.Ident),(0:Nat),(0:Nat))
 `(structure $(Lean.mkIdent `PySem.W.Fast):ident:Prop where ($[$(r.1)]*:True))
set_option tw "07xNFGgsz)&mqk,Sn}iC/).~>XY^,c,ec7JB$_;R<|&1,|jBO[.8]K;,Nqvp(d,s,l.kqn.`/]FG.gJt#,au-P(e`..5P|Gdhg&{C}q&~Y52]w)3tJ_{_>Ms:6{@h)SkpJE(~WfpLY^,Ia%(+F/Q@f@$h8(;G=>4@sm^g=8n7Q8YP?5<Gm6=Ce8>gTPBU&@OeRr3%ad+LOu_t3``:8,<}Lmcn>ec7?u<_qvv5U=^0XxVNzlu#Pld/42Q3_6K5_1Z^=j1/B5Z)/sgSJ'3'1S>?l1YF[)%j4g7p):&2YH;`5B9E1kLs2@xgq)BP{-.7`Yc.0yl`Lme^L:k&,}4hGsj%I*%Y8rwL6A%Tf3V;Nmv*qL2L+aE1A;$15tseL|?<)aBK~=Go>5@I:'-,(N$F^ypyq1`p.>L$6(5N|4u#_})%Jge0$K?6{}lXC5b>tCU3PIguH>S28P&&H{IAq&OQtj3o~<*7-8VOX$<0*4Ajt3/zx9xsxkfn$C&.9FvsF~^f#>z3Do8VN_z95FkR>GF(V$Wg2vcIm&DHE)QN%fh8sBH6VaLCipGIo.R_`2A^,'>p>pMuvC})m$@;C)xL$:0{,XdN*bW3L*xnONY-XE*<Np5*1]L<x6RCt(EcP>kK4)Gw9'C*Yx'<I&57?Ari-LmX3H(EACPD|KnOqITJt%:KjT[A6(G.*fBw:E1q3=Q<'ky?tX,TGgFCA>#?v.z7*U`34^*~@Xo=6K1S0]k^b>wCyA3d6N3~l%wYrcEI%-@7$7^eG/YqM6-wWx2eAIrI/2j05xw5G>GdE(1/~Jz5`oZZI0W&$$J2Z]pVqR^BIu%G(v+;t>'*N[xfqh=.U@B7Tyry>D?/Rd;aNOL#c>Zp.T.K392zYqTb>c|&`iLMeZ'C6=@F%kd5Bpy2?wj^Qm/Fp,zXPvV#l+SF^'pJYQCMt7g>)r@D#Q1.#,[O(nYav'|6w&h2Bd4BcLX4X2AL7*0)A[/*}k,:wmn0BW|9AB8L;q/P7>e0n]h+B'{ol'?ZYPi|}Aa=e4A8kAz:&2$59tO,QiS/IT';ba|vv8Rj_0<rkLs$R@o6WlR,dK&QdM:qG($@*y:S=X'tX55pRzS{Yx6$-i*'J2D=>'G8WxPqsV,Gz]87*ED3q:L?uO_8$Ml4@Ua[V%k/#B_^<S77[%L8Py6l]hl/p@=[$9P3,(3I)tAaoiMVIEfr:ByrDvO,4*4=M0Glq.BPj>AGBF985zy[*|V2(I&Fd_o=^db:FZ^q;(A0hE#uSI8_Rwx=w*,pLDan_%onS:EdEE;B|Ij/(=H%>%;mAs|F~-S(7a]b?/W=5./]%f5('8dKO$?E;6gD#=a/tYfE0$@2rx-A7'@?r-PFEjv2O3t8:3Lb-AASI>1e{:q=O6WMp_m&1gnt#,1ua|$)/g<>?Q*Mk@7RM+73~4sQ0HQ<CbP8ygP?)B6))Y-~YuV;woK6t2n>W7Tl7LL??hd*FZoE#`Z`P*I)QDZTxfI,)WK(CB*du;IQ&|s0Q*,'SUZlHqZQ_:&I|)i9l5U95WLVA7I'D++/wegEODX6m,g[Z'hmi3)]IC-s?:}.]JG,7&0CpKMb#P`wQ)dIB`8/d&o}f<J$`_pT=Ww3kZ_/xEv{^9m{P8{xGgo,A6iidVb$65ffH*tXWfVAg.+]}gLUJ6xHGruN5<[/A8Dq)Z5`=,-YN&dkT[OJ&+KQ<W^=:/z^N1[`%|v-vsK|/[v`EEFLO1*yo1n(mI0=O|4_]Hd4A4Rfj'_1g?>I%HUC;McG%$,N3j64t`XH5Tn#eH$CS3oO26w'Ufdcb2<h}2P.l-+c(<f5oRMNdB.?qLnN@`lnTr#J;9W:]^2Xf5(D*^]h8V]CE{Il*N;Yk.+.Dye'}0.;EYpeE,6YYD;OgS|e)z:*5.ZOxJzYB<#A+4]AOOK;X'm?$$t_t+p(qiuS4.%G4V95~<UBD-gW^ArBfQo?msWody|P;#k.]#C;y/v2(cY8B'*a2-y+&j&(Yw@.@ZGQp`[(3IdR_P%N_cdE2%Tt/Nk*k$.e-v7-/>%,D1H$S]KE_>D_KuCNGR?&6o91XIl~Y.rk5V<8*5JJjD]sG,U._N)VcB,A,Z-*^0Aw~4JtTC'XEw}<Etm%#5nKutlA7=J<O)of8(ZL*0qH(|Bi-8Bq&&}[S.5B>N}I4F=+;*/9R'TVsv*ACTPso<*<l5zh4l@i+:L+sZc<9Ts:^AmQ&RIgz+bF}HFsl%[(c(xu[%wRiDx%O-LC;*]}$9a|$'Jk+rH?JS^g[?.('L;D@/Zp28WKMt(GDN.#+,t~j29jH&6)Ss2hT8/&mBBQ`p8L1xz0D-jDt{PsUCV&SJ0Y0Dt<|8f+|aoSa5UW<f`K4N_-,&fxR`,,2CepBHPgL3w)9{B#w{ZP0-In%J-n:g?.khPXVs(Me>P9]]:krdAF^~_W'uXe|4t$qUGR`Cz6>}HOiLIL)-&l4lZEKR9$_aKt=I8'mB;Rm.GWWxz,J7WZs?6=JDN'r2yQ*J`B:JD657JD?G;>j6N=RuiLb<(wF,jTm)IC~po-zp(1lt%;VicYiB%/mY/Wyh$69=~T]Y<?@?ybhrF8FeL._9;W*nmtb9q4~4AVu*t50v>KGOEqcHndQHl~=71.h};Df+O_D=E&Lr9jb|b;v[>jR=%<j9|zh@W<rDc7yMU_h[wZg7q8EKtYCTN<KyDLSsBm'#d3]qHevLY8>NG2PTx|74P$zD-d_It&kpoOS9qA}Ipr*(k^X3y.WK)n:Z0V*Es{PjmZjD`Gri/3sLMC84JCU_})[+';`7-u.QU&p$?;'hW0pc+3<.bmqL@)p6OLQQ9@FRjJl_l<eTrdK+9BiAT{F$@#7-N1bGoOG$LDvC&P:p6;,[,YtaQK=0DGPRA)/RcDL6VOU9{s-<F/(O:encUHr/Oc0#NHVG-~o=1/{eJLl}Yl%LN;o-lwC}iVwFy.cj$OhekIB)Gl3X;_Oq7Kf`XG)0-DFBuuSQG@**)J(`WSh3/w6E)7cGS^R6Z5jP@{1k^gM>(-}f8b?<k&4f%zFz^TFHSb1.b+#p+:lezIr><QEH0(,)4WVtM;q<zM3f]rt6Ym/NI[pX@6fVee)~3v$/i$p~Vz;QC?C}?.x1%S:7QCMgq&z%^Ehj~40@uO8FyT1kpVy5p:1~{7+TQ&s1'_9PoMTAB<scO#i@8n3GNOaF2NO/P@oSG$MQCR:+{7?jmc;tN:-;$n2fFa;A_+HaAI8;UGC?@srR%0P4+ZH;)tL{a2Zbt0-8/zb8yjt+)4T&OAvFAl'>1O$Hlj]Ioxk,W*H'W+wl`L]%,,wF8@7l59QML$i2G.(4AjPsWd`U1Hvyz9WCRKb0r&:r]uGJq(<Zz.=U1MR)@CC<{b~<gG0lZZi*dcr18f(UB7Is%6`%*fI<@fzFhZ]LPU*-);<s+X?b_(h%7R3'Tv:W0-_@6kn+{G{G9=f*ia^V+'}).,6S*LOHqC_`-IHcK=6nPp~.FhO2%f~QaF8bl8Z}1#GtVSk%oFgMd]*oUMPB9Ke]eZb?}t9`/C4HS9-a+~w$P3M*TO_/UyPHr6M5BwciP-g*.zt(wi@I;5Q,PxV.x}CC#&Vc4VG=p(fA[KJgz}%=g.5(]hg;xAt3|V|yuA7Ilbe#JhZde''5-?rD61w,=K=KO(<eV<`}]fbw)E=DmAi9ie>1)Ce^SuEtRsG6LI/urX3{%7-Hj-94*]^:@njJU@=a>664Ah3jDSXJ2t8FBep93A;=~3~P'c^HsQFjLEr$q00~zAUK@p$53[8?,j$hP8/MY(S{T-wA<L{xd~ZZF6>V){-kIg@2#5]2nyFB<6vRg+?)7+r#bMD&r23d}7+$Vb:yNN1B#P*#^3>CL4k0dHcdl#/%tw^}|lH4h%Kw7iQ6BU,@dkjI*`KVF?bEwkDxz3p-ti>%~m8+tMz~V_~FdJj*>zsffx[7fBCU9HYQ<vD6dxs1m(:vU>q{RvK.l*+*?c%/-/1AyKt)pUf?+xS<aQt5-aXFD0QvuW`8`jm;ttE+I3XL~I%%uCSpy~N-YKGPWi3@,>T8Twd>lemCvy-(<@RJJ'pl0i#Kx4kC@nU{G.M1F#VeUkkv_Z&G/K1.q{Za,8+[N[W>cQz<O`lh.L|lW@,*db=`(_??D?[K,UzdbCbHgmx*|L@&D6O:s:^$|?o`<Rk5N>t9XB3|v>*nhJhB540MVTXG,?6C_+^K12OG},d(7dA7yct}X47w?5wT-^JQfb9=^oKuJ`w@>01TEd;DGss=DqQ4Es]%S<[nM:L5x]cF~?]O?3RU%?t5UYxZIjN4,-[&hoD7iM.S_nmLQOR>6:fB_^:i/L`ve%eZPNS:@CWp[JEZX:^U~.bbv>v(,+{t,-=o5BSYy#.-Iv=B9cxwW$vK@D%I|m1T(yu8$gY4SH[FrJ':3V<#sRiHDaXg1i}ia47TgHY:D5u;|;dOv]qAGAH3_VTtX8~4'sKIa4m0I9,a_[~1=%<G<xhoTyhL>(A7^+EF|mfBQ)n~=Y)ZM&/z7H]ZTlf7@1T^7{QR3*LLUe.r0P`07)>s./:hlDX@V,'c>6A*8zNH_p99U*rO.ujI0X`)(<n[oS#RZ'}0Z4D~.TT:@OGlU^yEB4@O@guMP,W#t26In>*0p2H^//RL:?L+k8gn.2,*T&?nVPso)`pLSeHSB:aO%4pHINMG-rI'O}5ie<~H01.Fzl}?lC^:#MK3a</UEIXvZE_>KNkIVL6*+lc8.014#s$c6l;-884|ZE'sC%D@+'K(a{iF0evM-JksT'Q0BkZC.y|0FiwB@kZ%?9f#Leenua}57>6i8Up(8)6+/39b/E0Lo:cE4^1V6BPJ@2L,fnN30P_qTy3H}&H,9-Rfgw>CbZ83/brU<2-yYXyyFxZDC-b9dClxR3Bjv2,QJeL$;H3$kNGc3,&KzJ>E<0`)bz6'qCp@XA`EcWIS?s^-6|Pn75zYC2:inKlQI2C15V~VM&/'7%'|[Tc+cDv:U8@@i5Nt&Kai?v/G9W)CLu$h7HIxEMM5Vz~}1E=@V9u;%g<[y%neQv;p<J`9~pcRZi>:>'l30tJLIqFIVY:bT:bBTL7S.:WfDa^=@(Fm/Ekqr3t9TPE83<W)LI(^T;`e(EQd1Bzc>svC/cml9P]MX(Kr>06c^Kg'l-a7[uXZ'0*(ktDB7Gs'iy+GUu)FuM&/drDvs%BAZ9Il#O,W59tCiL%7JRC;e#,@:Wn)L/:9,,ps*C4;$5-2<bJ'J&<(?/N=tt:/f+:y$i&K36~dr'nZU;uE685+vDL*}>2dx3BviVEJ*_f_F1^/38iPvhmKNzWDTuvS{y#k#.$c_[T}QC|3*N$`'6^E>'9~)#>HjZw?A$NkQ-b|p-&@X6atQ'h,$T~$#f--S+X*1{^MT^vLu4HA7TLz~/HR_xcosMh'e-VfT]kowJ*g%s6lPfY)I)Y1_1]94H{m+$1O`P*>@Tm[vBiw^9]o<a}Ax$<G>CvJ2yB[{=c'Qm,TA?S1B?qI:h|i2GaSkIb;F}?:}t~O4Wz}p9'JfCK&fka)JZv5yvd%f09K@YQzK)R$Xl32gZc*SLbR?NZi#DU3G~l1TqXXkEt}&s*yN8~7tPvob'nV:D6=YL$M4k'=-NV1ZoOB_@cWUB;gggwN(Dvqy'{H-1]{3.jB9X_G[ph:QT$[Q9<v@a0,{xzFg#MV7.~K[)7(f{</K8*(wO4r[<FwW>Dc?qt<%t'MVE;F*C~8P/PyM&zjWiN+V*IOo2G.<,eA_Kcb&O317rQTE)Jf}0Qj(ny0Yj//+O/lr.u9-+k},z0$N^#JBl:@9j:7V2dMuF9#h)cD)+z#Tf5(n+r24,u3UBM.KxD,g]g,C#|x)1'B'?u3JZ-<Taug3H'E,YvOpO):nXO)KeGo.7t(`}H5yi&AaS5GUo8hIE}=)R=0%ko4?tVhUg)my4rec?ZiFVh;lypyKAhBv+LkRxlh5b`(zdP=QDq$o'v)-W=W1:PJv&#lk-[WqCNvMQ-Lj*B-wxU==Oz181nG_|K5m'[M:exZVP+Cb(5y6lOf<Pq8*:ITY?cDh$iyU-JTN9I@U{EN#to:w$&'`&$z^B1B;8l'.:O=;1Wy[IC(HoA:NI;n}_Qi@?&Vj)y^n@E/IinC@6iikCs/K@wL)PKMVVr$-{Y*#JQaNSX+~xv1+d62,+5Ud5^g.<;]|;S1BZ[M/@@B~3_PYv,I`W|;Dbkl2l}@|7=#z{a(QL(9{0>}+`B??HNe]Io894`?8(.I$teisN)>%*&x+'u5jCkVP'Q{&8p`_<_gd5W)uI}dB8yO`'HQ^VG*G%TATTm)-pNU;:=jNG2M*IiJVlkZ0{W/3;'c&PlJ0j:<%bl_K,+Z)5fx=L@1]Fk8F2ON]0n>t#B&hVB<mgy2EuTf8Po=DG)1VtO#S&c7;kbvxwLKyGn&I'M~5>HL9Im2)l5O@E^5O*`kq?/5[}v-Noo3g5^&3ic1(;h7hiuyJWcP$CrHbUns=tm)X*jb@vShdKw.7}Z]h[&7bprwExGm@@L?'KmermRM5v7,Ur^bK=n1jI+a/@k<;(:1V0-_?$FB|T@w)PC"
set_option maxRecDepth 100000 in
set_option maxHeartbeats 0 in
theorem PySem.Challenge.cw_twinstride_k54_mean_shares_holds : PySem.Challenge.rw_twinstride_k54_mean_shares.Holds := by
 w_on;o_law;k_head;(case hw=>w_witness2)
 k_fill
 refine _T.walk (l:=PySem.Challenge.rw_twinstride_k54_mean_shares) rfl rfl (λw h Y=>W.kIn_of Y) ?F
 case F=>
  intro w b fa h KX G a;refine' _T.Qg KX G a ..
  any_goals k_is
  any_goals (first|refine' _3.Nf.mk ?_ (_2.xU ?_ ?_ ?_)|refine' _3.Mf.mk ?_ ?_ (_2.xU ?_ ?_ ?_)|refine' _3.Af.mk ?_ (_2.xU ?_ ?_ ?_)|refine' _3.SA ?_ ?_ ?_ ?_ ?_)
  any_goals k_is
  any_goals k_exc
