import PyProof.Rows.All
import Wide.All
import OpenK.AllK
import Wide.FinOn
import Lean
import PyProof.EqAt
import PyProof.EqKinds
import PyProof.TupleCall
import PySem.Challenge.RW_twinstride_k81_woven_plans
set_option Elab.async false
set_option linter.all false
set_option maxRecDepth 100000
set_option maxHeartbeats 4000000
set_option compiler.extract_closed false
set_option Elab.async false
set_option linter.all false
set_option maxRecDepth 100000
open Array renaming length_toList->Kk,getElem?_toList->KY,replicate->LH,toList->Mw,append_assoc->NC,getD_eq_getD_getElem?->N9,getElem?_eq_some_iff->Of
open Bool renaming false_eq_true->JQ,and_eq_true->JU,false_ne_true->JY,beq_eq_decide_eq->Kj,true_and->Kn,and_true->Kt,false_and->Ku,not_true->Kz,and_false->Lm,not_false->MB,and_assoc->Nu,false_or->NB,not_eq_true'->NJ,eq_false_iff->NK,noConfusion->NW,decide_and->N8,or_false->OA
open Classical renaming byContradiction->NV,not_not->OP
open False renaming elim->Kr
open ForInStep renaming yield->MK
open Int renaming toNat_natCast->KD,eq_ofNat_of_zero_le->OO
open List renaming getElem?_cons_zero->dt,getElem?_cons_succ->JA,length_cons->JC,length_append->JD,getElem?_eq_getElem->JG,size_toArray->JI,length_map->JK,mem_cons->JM,replicate->JN,map_cons->JO,set->JP,append_nil->JR,length_nil->JT,mem_append->JW,mem_cons_of_mem->JZ,mem_append_right->Ka,not_mem_nil->Kb,getElem?_map->Kf,replicate_succ->Kg,length->Km,append_assoc->Ko,mem_singleton->Ks,getElem?_eq_some_iff->Kv,cons_append->Ky,all_cons->KJ,mem_cons_self->KP,getElem?_append_right->KS,lookup->KU,length_singleton->KZ,mem_map->La,all_nil->Lc,mem_append_left->Ld,foldl_cons->Lf,getD_eq_getElem?_getD->Ll,singleton_append->Ln,getElem?_append_left->Lo,any_cons->Ls,filterMap_cons->Lu,mem_range->Lv,toArray->LB,range->LC,pairwise_cons->LD,nil_append->LK,map_append->LL,find?_cons->LM,length_filter_le->LP,flatten_cons->LQ,pairwise_iff_getElem->L6,findIdx?_eq_none_iff->L7,drop_eq_getElem_cons->L8,nodup_cons->Ma,forIn_cons->Mb,findIdx?_eq_some_iff_getElem->Me,take_of_length_le->Mg,nodup_append->Mh,map_map->Mi,getElem?_set_self->Mj,zipIdx_cons->Mp,getElem_mem->Mq,eq_nil_of_length_eq_zero->Ms,forIn_nil->MA,length_take->MP,filter_cons->MQ,all_eq_true->MR,all_map->MY,zipIdx_nil->Nb,of_mem_zip->Nc,mem_filter->Nd,filter_nil->Ng,getElem?_eq_none->Ni,replicate_succ'->Np,range'->Nq,nodup_nil->Nr,getElem?_set_ne->Nt,findIdx?_cons->NG,pairwise_map->NI,eraseIdxIfInBounds_toArray->NQ,lookup_cons->NT,getElem_map->NU,all_append->N7,getElem?_take_of_lt->Oz,getElem?_replicate->OG,map_nil->OJ,getElem_cons_zero->OK,drop_of_length_le->OL,drop_eq_nil_of_le->OM,mem_iff_getElem?->OV,length_replicate->OW,dropLast_eq_take->OX,countP_mono_left->OY,cons_lt_cons_iff->OZ,range_eq_range'->O5,mem_iff_getElem->O6,map->O7,toList_toArray->Pc,map_congr_left->Pd,zip_cons_cons->Pq,mem_filterMap->Pr
open List.Pairwise renaming nil->Nh,imp->Om
open List.Perm renaming refl->MU,mem_iff->ON,append->O0,cons->Pe
open List.cons renaming injEq->Kc
open Nat renaming le_refl->JE,ne_of_lt->JS,lt_of_lt_of_le->JX,le_trans->Ki,lt_irrefl->KL,zero_le->KR,lt_or_ge->Li,le_of_lt->LG,ne_of_gt->LY,le_of_not_lt->LZ,zero_add->Mn,lt_succ_self->MT,add_zero->Na,lt_of_le_of_lt->NH,lt_trans->NN,lt_succ_of_lt->NO,le_of_eq->NP,le_add_right->NZ,le_succ->N6,not_lt_zero->Oe,min_self->OU
open Ne renaming symm->Kw
open Option renaming map_eq_some_iff->Ly,isSome_map->MF,isSome_iff_exists->Ol,getD_none->Pp
open Option.some renaming inj->Kl,injEq->Oy
open PyProof.Rows renaming slot_tuple_getitem->KA,callWith_type1->KI,envOfC->Mm,callWith_builtin1->Nm,tail_any->NY,StrsAre->N5
open PyProof.Rows.F renaming plain_set_update_loop->LJ,entry_set_update_loop->MJ
open PySem renaming mem_of_lookup->Lg,Within->OB,call->O8,list_append->Pf
open PySem.Around renaming under_plainId->LU,under->NF
open PySem.AutoSeq1 renaming sub_tuple_tuple->Mz,idx_int->ND
open PySem.Builtin.Dict renaming updateFrom->NM
open PySem.Builtin.List renaming listExtendWith->Lx,listTooLong->Mu,listLengthHint->NA,listItems->NS
open PySem.Builtin.Slice renaming slicePlaces->LI,sliceAdjust->Mr,sliceApplied->Nz
open PySem.Builtin.SmallTypes renaming nextOf->JV,ownedTupleIsFree->Kd,ownedTupleHandOut->KW
open PySem.Builtin.Tuple renaming tupleExact->Lk,tupleTooMany->Nx,tupleItemsOf->Ny
open PySem.Calls renaming Name_function_global->Od,call_function_entry->Oj,callWith_builtin->OF,evalArgs_plain->OT,spliced_cons->Pb,spliced_nil->Po
open PySem.Code renaming isFrame->OI,quiet_builtin->Pn
open PySem.F renaming plainAttrs_list->KO,slot_zip_next->Lr,slot_tuple_mul->Lw,slot_tuple_iterator_next->LW,slot_list_index->L9,slot_list_getattribute->Ml,slot_list_pop->My,args_tuple_mul_2->MD,args_tuple_add_2->ME,entry_tuple_mul->MH,entry_tuple_add->MI,slot_tuple_add->ML,args_zip_next_1->MN,entry_zip_next->M0,slot_list_append->Nv,slot_dict_getitem->N3,args_list_index_2->N4,entry_list_index->Oc,type_list_index->Og,slot_tuple_rmul->Oh,slot_list_count->Oi,args_tuple_iterator_next_1->Oo,type_list_pop->Ou,slot_int_rmul->Ov,slot_dict_len->Ow,entry_tuple_iterator_next->Ox,slot_list_extend->OS,slot_enumerate_next->Pk
open PySem.Heap renaming get?_push_of_some->JB,get?_push_size->JH,lt_size->JJ,size_push->Ke,SameBut->K0,get?_update_self->LO,get?_update_other->MX
open PySem.Heap.SameBut renaming update->KQ
open PySem.Manifest renaming find?->Pj
open PySem.Obj renaming mapSeq->KG
open PySem.Paired renaming length->LF
open PySem.PyData renaming keyHash->Lj
open PySem.SeqAt renaming EqAt->MS,RcNeAt->OD,list_indexAt->O9,RcAt->Pa
open PySem.SeqAt.EqAt renaming bool_bool->MM,str_int->Oq,int_str->Ot
open PySem.SeqAt.RcAt renaming lists_lengths->NR,tuples->OE,lists->OH
open PySem.SetTable renaming grown->LN,below->Mt,insertAt->Mx,has->Nw,laid->N0,layClean->OR,Probe->Ph
open PySem.SetTable.below renaming go->MW
open PySem.SetTable.probe renaming go->MV
open PySem.Shared renaming heap->MC
open PySem.Str renaming ofString->JL
open PySem.Value renaming ref->Kh,none->KN,type->Lp,bool->Lq,isStrOf->Mo,str->Nk,int->Nl,float->OQ
open PySem.Value.ref renaming inj->Pg
open PySem.W renaming Frag->JF,mg_none_of->Kx,nsIn->KC,hasDictIn->KH,mg_of->Le,mroIn->Lh,findIn->Lz,kia_one->LR,emptyDict->LV,typeIn->Mc,keepIn->Md,kitOne->Mv,instObj->MG,fnOf->Nj,callWith_K->NX,hideAll->Oa,cellsFrom_some->Ob,plainGet->OC,makesIn->O4
open Sum renaming inl->MZ,inr->NL
open True renaming intro->LA
namespace L2
open PySem PySem.Spec PyProof.Rows
abbrev bw:=Sum Int Str
def lR:bw->Value->Bool
 |.inl k,v=>Value.isInt k v
 |.inr x,v=>Mo x v
def keyH(w:World):bw->Int
 |.inl k=>hashInt k
 |.inr x=>hashStr w x
theorem bu:∀{k:bw} {v:Value},lR k v=true->(∃i t,k=MZ i/\v=Nl i t)\/(∃x t,k=NL x/\v=Nk x t)
 |.inl i,v,h=>by
  obtain⟨t,e⟩:=Value.isInt_shape (k:=i) (v:=v) h;exact .inl ⟨i,t,rfl,e⟩
 |.inr x,v,h=>by
  obtain⟨t,e⟩:=Value.isStrOf_shape (x:=x) (v:=v) h;exact .inr ⟨x,t,rfl,e⟩
theorem xz(i:Int)(t:Tok):lR (.inl i) (.int i t)=true:=by simp[lR,Value.isInt]
theorem xM(x:Str)(t:Tok):lR (.inr x) (.str x t)=true:=by simp[lR,Mo]
theorem Fp(a b:Int):decide ((MZ a:bw)=MZ b)=(a==b):=by
 by_cases e:a=b
 .subst e;simp
 .have h:¬(MZ a:bw)=MZ b:=λq=>e (Sum.inl.inj q)
  rw[decide_eq_false h];exact(beq_eq_false_iff_ne.mpr e).symm
theorem ED(a b:Str):decide ((NL a:bw)=NL b)=decide (a=b):=by
 by_cases e:a=b
 .subst e;simp
 .have h:¬(NL a:bw)=NL b:=λq=>e (Sum.inr.inj q)
  rw[decide_eq_false h,decide_eq_false e]
theorem Ff(a:Int)(b:Str):decide ((MZ a:bw)=NL b)=false:=decide_eq_false (λq=>nomatch q)
theorem F5(a:Str)(b:Int):decide ((NL a:bw)=MZ b)=false:=decide_eq_false (λq=>nomatch q)
def a_(prog:Program)(w:World):PySem.KeyKind prog w bw where
 is:=lR
 hash:=keyH w
 inj:=λv a b ha hb=>by
  rcases bu ha with⟨i,t,rfl,rfl⟩|⟨x,t,rfl,rfl⟩
  .rcases bu hb with⟨j,u,rfl,e⟩|⟨y,u,rfl,e⟩
   .injection e with e1 _;rw[e1]
   .exact nomatch e
  .rcases bu hb with⟨j,u,rfl,e⟩|⟨y,u,rfl,e⟩
   .exact nomatch e
   .injection e with e1 _;rw[e1]
 byValue:=λk v h=>by
  rcases bu h with⟨i,t,rfl,rfl⟩|⟨x,t,rfl,rfl⟩<;>rfl
 pyHash:=λhv h=>by
  rcases bu hv with⟨i,t,rfl,rfl⟩|⟨x,t,rfl,rfl⟩
  .exact wpAny_pyHash_int h
  .exact wpAny_pyHash_str h
 eqBool:=λhu hv h=>by
  rcases bu hu with⟨i,t,rfl,rfl⟩|⟨x,t,rfl,rfl⟩
  .rcases bu hv with⟨j,u,rfl,rfl⟩|⟨y,u,rfl,rfl⟩
   .rw[Fp]at h;exact wpAny_eqBool_int h
   .rw[Ff]at h;exact Ot i t y u _ _ _ _ h
  .rcases bu hv with⟨j,u,rfl,rfl⟩|⟨y,u,rfl,rfl⟩
   .rw[F5]at h;exact Oq x t j u _ _ _ _ h
   .rw[ED]at h;exact wpAny_eqBool_str h
 «strs»:=λk x t v h=>by
  rcases bu h with⟨i,u,rfl,e⟩|⟨y,u,rfl,e⟩
  .exact nomatch e
  .injection e with e1 _
   subst e1;cases v<;>rfl
theorem qa(prog:Program)(w:World)(i:Int)(t:Tok):(a_ prog w).is (.inl i) (.int i t)=true:=xz i t
theorem qf(prog:Program)(w:World)(x:Str)(t:Tok):(a_ prog w).is (.inr x) (.str x t)=true:=xM x t
inductive V where
 |non|bl (b:Bool)|int (i:Int)|str (x:Str)|byt (b:Array UInt8)|flt (b:UInt64)|ref (a:Addr)|ty (n:String)
 deriving DecidableEq
def RelV:V->Value->Prop
 |.non,u=>u=KN
 |.bl b,u=>u=Lq b
 |.int i,u=>∃t,u=Nl i t
 |.str x,u=>∃t,u=Nk x t
 |.byt b,u=>∃t,u=Value.bytes b t
 |.flt b,u=>∃t,u=OQ b t
 |.ref a,u=>u=Kh a
 |.ty n,u=>u=Lp n
abbrev Vals:List V->List Value->Prop:=Paired RelV
theorem Vals.length{xs:List V}{us:List Value}(r:Vals xs us):xs.length=us.length:=LF r
theorem Vals.get:∀{xs:List V} {us:List Value} {i:Nat} {x:V},Vals xs us->xs[i]?=some x->∃u,us[i]?=some u/\RelV x u
 |_,_,_,_,.nil,e=>by simp at e
 |_,_,0,_,.cons r _,e=>by simp at e;subst e;exact⟨_,rfl,r⟩
 |_,_,i+1,x,.cons _ t,e=>by
  obtain⟨u,h1,h2⟩:=Vals.get (i:=i) (x:=x) t (by simpa using e)
  exact⟨u,by simpa using h1,h2⟩
theorem Vals.set{x:V}{u:Value}(r:RelV x u):∀{xs:List V} {us:List Value} (i:Nat),Vals xs us->Vals (xs.set i x) (us.set i u)
 |_,_,_,.nil=>.nil
 |_,_,0,.cons _ t=>.cons r t
 |_,_,i+1,.cons q t=>.cons q (Vals.set r i t)
theorem Vals.append:∀{xs ys:List V} {us ws:List Value},Vals xs us->Vals ys ws->Vals (xs++ys) (us++ws)
 |_,_,_,_,.nil,s=>s
 |_,_,_,_,.cons r t,s=>.cons r (Vals.append t s)
theorem Vals.take:∀{xs:List V} {us:List Value} (n:Nat),Vals xs us->Vals (xs.take n) (us.take n)
 |_,_,0,_=>.nil
 |_,_,_+1,.nil=>.nil
 |_,_,n+1,.cons r t=>.cons r (Vals.take n t)
theorem Vals.drop:∀{xs:List V} {us:List Value} (n:Nat),Vals xs us->Vals (xs.drop n) (us.drop n)
 |_,_,0,r=>r
 |_,_,_+1,.nil=>.nil
 |_,_,n+1,.cons _ t=>Vals.drop n t
def RelO:Option V->Option Value->Prop
 |some v,some u=>RelV v u
 |none,none=>True
 |_,_=>False
def KV{κ:Type}:List (κ×V)->List (κ×Value)->Prop:=Paired λ(p:κ×V) (q:κ×Value)=>p.1=q.1/\RelV p.2 q.2
def kV:bw->V
 |.inl i=>.int i
 |.inr x=>.str x
inductive HO where
  |lst (xs:List V)
  |tup (xs:List V)
  |dK (kvs:List (bw×V))|dT (kvs:List (List bw×V))
  |set (S:Int->Bool) (n:Nat)
  |ins (C dx:Addr) (fs:List (Str×V))
  |own (x:Addr)
  |xd (fs:List (Str×V))
  |met (f x:Addr)
  |rng (lo hi:Int)
  |frz (o:Obj) (u:HO)
  |tbl (ps:Array Value)
  |ext (φ:Heap->Prop)
abbrev Hp:=Addr->Option HO
def upd(H:Hp)(a:Addr)(o:HO):Hp:=λb=>if b=a then some o else H b
theorem upd_same{H:Hp}{a:Addr}{o:HO}:upd H a o a=some o:=by unfold upd;rw[if_pos rfl]
theorem az{H:Hp}{a b:Addr}{o:HO}(h:b≠a):upd H a o b=H b:=by unfold upd;rw[if_neg h]
theorem HD{H:Hp}{a b:Addr}{o u:HO}(h:H a=some o)(h':H b=some u)(d:o≠u):a≠b:=by
 intro e;subst e;rw[h]at h';exact d (Kl h')
theorem aT{H:Hp}{a b:Addr}{o:HO}(h:H a=some o)(h':H b=none):a≠b:=by
 intro e;subst e;rw[h]at h';cases h'
section
variable (P:Program)(w:World)
def ObjOk(H:Hp)(h:Heap)(a:Addr):HO->Prop
 |.lst xs=>xs.length<=sizeLine/\∃(its:List Value) (n:Nat),Vals xs its/\h.get? a=some { cls:=.type "list",data:=.seq its.toArray n }
 |.tup xs=>xs.length<=sizeLine/\∃its:List Value,Vals xs its/\∃o,h.get? a=some o/\(o.cls=.type "tuple"/\∃n,o.data=.seq its.toArray n)/\o.dict=none
 |.dK kvs=>kvs.length<=sizeLine/\(a==sysModules)=false/\∃vs,KV kvs vs/\h.DictOf (a_ P w) a vs
 |.dT kvs=>kvs.length<=sizeLine/\(a==sysModules)=false/\∃xs:List (List bw×Addr×Value),
   Paired (λ(p:List bw×V) (q:List bw×Addr×Value)=>p.1=q.1/\H q.2.1=some (.tup<|p.1.map kV)/\RelV p.2 q.2.2) kvs xs/\
   ∃o es ep,h.get? a=some o/\o.ExactDict/\o.data=.dict es ep/\es.toList=xs.map (entryOfKey<|tupleKind<|a_ P w)/\(xs.map (·.1)).Nodup
 |.set S n=>h.SetOf (intKind P w) a S n
 |.ins C dx fs=>H dx=some (.own a)/\fs.length<=1000/\dx≠a/\h.get? a=some (MG C dx)/\
   ∃mA,h.Ns1 dx mA/\(∀f,RelO (fs.lookup f) (mA f))/\OB mA (fs.map (·.1))
 |.own _=>∃o,h.get? a=some o
 |.xd fs=>∃mA,h.Ns1 a mA/\∀f,RelO (fs.lookup f) (mA f)
 |.rng lo hi=>∃t u v,h.get? a=some { cls:=.type "range",data:=.fields #[.int lo t,.int hi u,.int 1 v] }
 |.frz o u=>h.get? a=some o/\ObjOk H h a u
 |.tbl ps=>h.get? a=some { cls:=.none,data:=.fields ps }
 |.met f x=>h.get? a=some (W.methodObj (.ref f)<|.ref x)
 |.ext φ=>φ h/\(∃o,h.get? a=some o)/\∀h1 h2:Heap,φ h1->(∀o,h1.get? a=some o->h2.get? a=some o)->φ h2
def HOk(H:Hp)(h:Heap):Prop:=∀a o,H a=some o->ObjOk P w H h a o
end
section
variable {P:Program}{w:World}{H H':Hp}{h h':Heap}{a:Addr}{o:HO}
theorem ObjOk.lt(x:ObjOk P w H h a o):a<h.objs.size:=by
 cases o with
 |lst xs=>obtain⟨_,_,_,_,e⟩:=x;exact JJ e
 |tup xs=>obtain⟨_,_,_,_,e,_⟩:=x;exact JJ e
 |dK kvs=>obtain⟨_,_,_,_,o,_,_,e,_⟩:=x;exact JJ e
 |dT kvs=>obtain⟨_,_,_,_,o,_,_,e,_⟩:=x;exact JJ e
 |set S n=>obtain⟨o,_,_,_,e,_⟩:=x;exact JJ e
 |ins C dx fs=>obtain⟨_,_,_,e,_⟩:=x;exact JJ e
 |own y=>obtain⟨_,e⟩:=x;exact JJ e
 |xd fs=>obtain⟨_,⟨_,_,_,e,_⟩,_⟩:=x;exact JJ e
 |rng lo hi=>obtain⟨_,_,_,e⟩:=x;exact JJ e
 |frz ob u=>obtain⟨e,_⟩:=x;exact JJ e
 |tbl ps=>exact JJ (show h.get? a=some _ from x)
 |met f y=>exact JJ (show h.get? a=some _ from x)
 |ext φ=>obtain⟨_,⟨_,e⟩,_⟩:=x;exact JJ e
theorem de{α β:Type}{F G:α->β->Prop}:∀{l₁:List α} {l₂:List β},Paired F l₁ l₂->(∀a b,F a b->G a b)->Paired G l₁ l₂
 |_,_,.nil,_=>.nil
 |_,_,.cons r t,f=>.cons (f _ _ r) (de t f)
theorem ObjOk.stay(x:ObjOk P w H h a o)(k:∀b u,(b=a\/H b=some (.own a))->h.get? b=some u->h'.get? b=some u)
  (ho:∀b,H b=some (.own a)->H' b=some (.own a)) (ht:∀b xs,H b=some (.tup xs)->H' b=some (.tup xs)):ObjOk P w H' h' a o:=by
 induction o with
 |lst xs=>obtain⟨z,its,n,r,e⟩:=x;exact⟨z,its,n,r,k _ _ (.inl rfl) e⟩
 |tup xs=>obtain⟨z,its,r,ob,e,c⟩:=x;exact⟨z,its,r,ob,k _ _ (.inl rfl) e,c⟩
 |dK kvs=>obtain⟨z,y,vs,r,ob,es,ep,e,c⟩:=x;exact⟨z,y,vs,r,ob,es,ep,k _ _ (.inl rfl) e,c⟩
 |dT kvs=>
  obtain⟨z,y,xs,r,ob,es,ep,e,c⟩:=x;exact⟨z,y,xs,de r λp q z=>⟨z.1,ht _ _ z.2.1,z.2.2⟩,ob,es,ep,k _ _ (.inl rfl) e,c⟩
 |set S n=>obtain⟨ob,es,ep,t,e,c⟩:=x;exact⟨ob,es,ep,t,k _ _ (.inl rfl) e,c⟩
 |ins C dx fs=>
  obtain⟨d,z,ne,e,mA,⟨od,es,ep,e2,c⟩,r⟩:=x;exact⟨ho _ d,z,ne,k _ _ (.inl rfl) e,mA,⟨od,es,ep,k _ _ (.inr d) e2,c⟩,r⟩
 |own y=>obtain⟨ob,e⟩:=x;exact⟨ob,k _ _ (.inl rfl) e⟩
 |xd fs=>obtain⟨mA,⟨od,es,ep,e,c⟩,r⟩:=x;exact⟨mA,⟨od,es,ep,k _ _ (.inl rfl) e,c⟩,r⟩
 |rng lo hi=>obtain⟨t,u,v,e⟩:=x;exact⟨t,u,v,k _ _ (.inl rfl) e⟩
 |frz ob u ih=>obtain⟨e,q⟩:=x;exact⟨k _ _ (.inl rfl) e,ih q⟩
 |tbl ps=>
  have e:h.get? a=some { cls:=.none,data:=.fields ps }:=x;show h'.get? a=some { cls:=.none,data:=.fields ps };exact k a _ (.inl rfl) e
 |met f y=>
  have e:h.get? a=some (W.methodObj (.ref f)<|.ref y):=x;show h'.get? a=some (W.methodObj (.ref f)<|.ref y);exact k a _ (.inl rfl) e
 |ext φ=>obtain⟨p,⟨o,e⟩,st⟩:=x;exact⟨st _ _ p λo q=>k _ _ (.inl rfl) q,⟨o,k _ _ (.inl rfl) e⟩,st⟩
theorem HOk.lt(x:HOk P w H h)(e:H a=some o):a<h.objs.size:=(x a o e).lt
theorem HOk.fresh(x:HOk P w H h)(e:h.objs.size<=a):H a=none:=by
 cases q:H a with
 |none=>rfl
 |some u=>exact absurd (JX (x.lt q) e) (KL _)
theorem HOk.kept(x:HOk P w H h)(k:∀b u,h.get? b=some u->h'.get? b=some u):HOk P w H h':=λa o e=>
 (x a o e).stay (λb u _ q=>k b u q) (λ_ q=>q) λ_ _ q=>q
theorem HOk.laid(x:HOk P w H h)(k:∀b u,h.get? b=some u->h'.get? b=some u)(hp:h.objs.size<=a)(new:ObjOk P w (upd H a o) h' a o):HOk P w (upd H a o) h':=λb u e=>by
 have hn:=x.fresh hp
 by_cases hb:b=a
 .subst hb;rw[upd_same]at e;cases e;exact new
 .rw[az hb]at e
  exact(x b u e).stay (λc v _ q=>k c v q) (λc q=>by rw[az (aT q hn)];exact q) λc xs q=>by rw[az (aT q hn)];exact q
end
def Rd(H:Hp)(a:Addr)(u:HO):Prop:=H a=some u\/∃o,H a=some (.frz o u)
theorem Rd.ok{P:Program}{w:World}{H:Hp}{h:Heap}{a:Addr}{u:HO}(r:Rd H a u)(x:HOk P w H h):ObjOk P w H h a u:=by
 rcases r with r|⟨o,r⟩
 .exact x a u r
 .obtain⟨_,q⟩:=x a _ r
  exact q
def Jb:Option HO->Prop
 |some (.lst _)=>True
 |some (.dK _)=>True
 |some (.dT _)=>True
 |some (.set _ _)=>True
 |some (.ins _ _ _)=>True
 |some (.ext _)=>True
 |_=>False
section
variable {P:Program}{w:World}{H:Hp}{h h':Heap}{x e:Addr}{o':HO}
theorem HOk.write(ok:HOk P w H h)(mu:Jb (H x))(he:e=x\/H e=some (.own x))(k:∀b u,b≠e->h.get? b=some u->h'.get? b=some u)(heo:∃u,h'.get? e=some u)
  (new:ObjOk P w (upd H x o') h' x o'):HOk P w (upd H x o') h':=λb u q=>by
 have nown:∀c y,H c=some (.own y)->c≠x:=λc y r z=>by subst z;rw[r]at mu;exact mu
 have ntup:∀c xs,H c=some (.tup xs)->c≠x:=λc xs r z=>by subst z;rw[r]at mu;exact mu
 by_cases hb:b=x
 .subst hb;rw[upd_same]at q;cases q;exact new
 .rw[az hb]at q
  by_cases hbe:b=e
  .have q':H b=some (.own x):=by
    rcases he with z|z
    .exact absurd (hbe.trans z) hb
    .rw[hbe];exact z
   rw[q]at q';cases q';obtain⟨v,hv⟩:=heo;exact⟨v,by rw[hbe];exact hv⟩
  .refine (ok b u q).stay (λc v hc r=>k c v ?_ r) (λc r=>by rw[az (nown c b r)];exact r) λc xs r=>by rw[az (ntup c xs r)];exact r
   rcases hc with rfl|hc
   .exact hbe
   .rintro rfl
    rcases he with z|z
    .exact nown c b hc z
    .rw[hc]at z;cases z;exact hb rfl
end
structure Un(fs ex:List Addr)(H H':Hp)(h h':Heap):Prop where
 keep:∀b o,h.get? b=some o->H b=none->b∉fs->b∉ex->h'.get? b=some o
 slot:∀b o,h.get? b=some o->H b=none->b∈fs->b∉ex->∃sl,h'.get? b=some { o with slots:=sl }
 free:∀b o,h.get? b=some o->H b=none->b∉ex->H' b=none
 there:∀b o,h.get? b=some o->b∉ex->∃o',h'.get? b=some o'
 tups:∀b xs,H b=some (.tup xs)->H' b=some (.tup xs)
 frzs:∀b o u,H b=some (.frz o u)->H' b=some (.frz o u)
 tbls:∀b ps,H b=some (.tbl ps)->∃more,H' b=some (.tbl (ps++more))
section
variable {fs fs' ex ex':List Addr}{H H1 H2:Hp}{h h1 h2 h':Heap}{a x e:Addr}{o:HO}
theorem Un.any(u:Un fs ex H H1 h h1){b:Addr}{ob:Obj}(q:h.get? b=some ob)(n:H b=none)(hx:b∉ex):∃sl,h1.get? b=some { ob with slots:=sl }:=by
 by_cases hb:b∈fs
 .exact u.slot b ob q n hb hx
 .exact⟨ob.slots,u.keep b ob q n hb hx⟩
theorem Un.kept(k:∀b u,h.get? b=some u->h'.get? b=some u):Un fs ex H H h h':=
 ⟨λb ob q _ _ _=>k b ob q,λb ob q _ _ _=>⟨ob.slots,k b ob q⟩,λ_ _ _ n _=>n,λb ob q _=>⟨ob,k b ob q⟩,λ_ _ q=>q,λ_ _ _ q=>q,λ_ ps q=>⟨#[],by rw[q];simp⟩⟩
theorem Un.refl:Un fs ex H H h h:=Un.kept λ_ _ q=>q
theorem Un.laid(k:∀b u,h.get? b=some u->h'.get? b=some u)(hp:h.objs.size<=a)(hn:H a=none):Un fs ex H (upd H a o) h h' where
 keep:=λb u q _ _ _=>k b u q
 slot:=λb u q _ _ _=>⟨u.slots,k b u q⟩
 free:=λb u q n _=>by rw[az (JS<|JX (JJ q) hp)];exact n
 there:=λb u q _=>⟨u,k b u q⟩
 tups:=λb xs q=>by rw[az (aT q hn)];exact q
 frzs:=λb u xs q=>by rw[az (aT q hn)];exact q
 tbls:=λb ps q=>⟨#[],by rw[az (aT q hn),q];simp⟩
theorem Un.write(mu:Jb (H x))(he:e=x\/H e=some (.own x))(k:∀b u,b≠e->h.get? b=some u->h'.get? b=some u)(heo:∃u,h'.get? e=some u):Un fs ex H (upd H x o) h h':=by
 have hx:∀b,H b=none->b≠x:=λb n z=>by subst z;rw[n]at mu;exact mu
 have hb:∀b,H b=none->b≠e:=λb n z=>by
  subst z;rcases he with r|r
  .exact hx b n r
  .rw[n]at r;cases r
 have hm:∀b u,H b=some u->¬Jb (some u)->b≠x:=λb u q nm z=>by subst z;rw[q]at mu;exact nm mu
 refine⟨λb u q n _ _=>k b u (hb b n) q,λb u q n _ _=>⟨u.slots,k b u (hb b n) q⟩,λb u q n _=>by rw[az (hx b n)];exact n,λb u q _=>?_,
  λb xs q=>by rw[az (hm b _ q λz=>z)];exact q,λb u xs q=>by rw[az (hm b _ q λz=>z)];exact q,λb ps q=>⟨#[],by rw[az (hm b _ q λz=>z),q];simp⟩⟩
 by_cases hbe:b=e
 .subst hbe;exact heo
 .exact⟨u,k b u hbe q⟩
end
def trk(h:Heap)(H:Hp):List Addr:=(LC h.objs.size).filter λa=>(H a).isSome
def oi(h:Heap)(H:Hp):Heap:=Oa h (trk h H)
theorem xB(h:Heap)(H:Hp):(oi h H).objs.size=h.objs.size:=W.hideAll_size _ _
theorem yL{h:Heap}{H:Hp}{b:Addr}{o:Obj}(e:h.get? b=some o)(n:H b=none):(oi h H).get? b=some o:=
 W.hideAll_get _ e λhm=>by
  have q:(H b).isSome=true:=(Nd.mp hm).2;rw[n]at q;simp at q
theorem C8{h:Heap}{H:Hp}{b:Addr}{o:Obj}(e:(oi h H).get? b=some o):h.get? b=some o/\H b=none:=by
 have e':h.get? b=some o:=W.of_hideAll (trk h H) e;refine⟨e',?_⟩;cases q:H b with
 |none=>rfl
 |some x=>
  have hm:b∈trk h H:=Nd.mpr ⟨Lv.mpr (JJ e'),by simp[q]⟩
  have z:(oi h H).get? b=none:=W.hideAll_none (trk h H) hm;rw[z]at e;cases e
structure Mod(K:JF)(mg:Str->Option Value)(base:Heap):Prop where
 kin:K.In base
 glob:base.Ns mainGlobals mg
 blt:∃mb,base.Ns builtinsNs mb/\∀x:Str,x≠"__name__"->mb x=bootBuiltins x
 nolimit:base.NoLimit
structure Cx where
 prog:Program
 w:World
 K:JF
 mg:Str->Option Value
 base:Heap
 A:Around
 N:List Str
 s₀:Shared
 H₀:Hp
 env:Env
 outer:List Env
 stack:List Env
 ex:List Addr
 fn:Str->Bool
 calm:Bool
 pn:List (Addr×Obj)
 xe:Value->Shared->Prop
def fk(l:List Env):List Addr:=l.filterMap (·.frame)
abbrev Cx.fs(X:Cx):List Addr:=fk X.outer
def Hq(sc:Scope)(x:Str):Prop:=sc.names.lookup x=some .local\/sc.names.lookup x=some .cell\/sc.names.lookup x=some .free
def wa(sc:Scope)(x:Str):Prop:=sc.names.lookup x=some .local\/sc.names.lookup x=some .cell
def Look(env:Env)(h:Heap)(m:Str->Option Value)(x:Str)(u:Value):Prop:=
 (env.kindOf x=some .local/\m x=some u)\/((env.kindOf x=some .cell\/env.kindOf x=some .free)/\∃c,env.cells.lookup x=some c/\h.IsCell c (some u))
structure Cx.Ok(X:Cx):Prop where
 mod:Mod X.K X.mg X.base
 kind:X.env.scope.kind=.function
 glob:X.env.globals=mainGlobals
 blt:X.env.builtins=builtinsNs
 above:X.s₀.heap.objs.size<=X.env.locals
 inj:∀x y c,X.env.cells.lookup x=some c->X.env.cells.lookup y=some c->x=y
 has:∀x,(X.env.kindOf x=some .cell\/X.env.kindOf x=some .free)->∃c,X.env.cells.lookup x=some c
 cab:∀x c,X.fn x=true->X.env.cells.lookup x=some c->X.s₀.heap.objs.size<=c
 hd:X.calm=true->X.A.handled=none
 frames:X.A.frames=some X.stack
 stk:X.stack=X.outer\/(X.stack=X.env::X.outer/\X.env.frame=some X.env.locals)
 exf:∀b∈X.ex,b≠X.env.locals/\∀x c,X.env.cells.lookup x=some c->c≠b
 bs:∀b o,X.base.get? b=some o->X.s₀.heap.get? b=some o/\X.H₀ b=none
 bsz:X.base.objs.size<=X.s₀.heap.objs.size
 noex:∀b o,X.base.get? b=some o->b∉X.ex
 exfs:∀b∈X.ex,b∉X.fs
 funs:X.s₀.heap.FunFrames X.base X.outer
 frf:∀b∈X.fs,X.H₀ b=none
structure Inv(X:Cx)(pins:List (Addr×Obj))(U:List (Option V))(H:Hp)(s:Shared):Prop where
 ok:X.Ok
 os:s.os=X.s₀.os
 bare:AllBare s.gens
 base:Un X.fs X.ex X.H₀ H X.s₀.heap s.heap
 loc:∃m,s.heap.Ns X.env.locals m/\∀(i:Nat) (x:Str) (v:V),X.N[i]?=some x->U[i]?=some (some v)->Hq X.env.scope x->∃u,RelV v u/\Look X.env s.heap m x u
 cell:∀x c,X.env.cells.lookup x=some c->∃v,s.heap.IsCell c v
 free:H X.env.locals=none
 freeC:∀x c,X.env.cells.lookup x=some c->H c=none
 pin:∀p∈X.pn++pins,s.heap.get? p.1=some p.2/\H p.1=none/\p.1≠X.env.locals/\p.1∉X.fs/\∀v,p.2.data≠.cell v
 hok:HOk X.prog X.w H s.heap
 len:U.length=X.N.length
section
variable {X:Cx}{pins:List (Addr×Obj)}{U:List (Option V)}{H H':Hp}{s:Shared}{h':Heap}
theorem Cx.Ok.nofr(ok:X.Ok){b:Addr}{o:Obj}(e:X.base.get? b=some o):b∉X.fs:=λhb=>by
 have:=(ok.funs.mem hb).1;rw[e]at this;cases this
theorem Inv.bs(I:Inv X pins U H s):∀b o,X.base.get? b=some o->s.heap.get? b=some o/\H b=none:=λb o e=>
 ⟨I.base.keep b o (I.ok.bs b o e).1 (I.ok.bs b o e).2 (I.ok.nofr e) (I.ok.noex b o e),I.base.free b o (I.ok.bs b o e).1 (I.ok.bs b o e).2<|I.ok.noex b o e⟩
theorem Inv.bk(I:Inv X pins U H s):∀b o,X.base.get? b=some o->s.heap.get? b=some o:=λb o e=>(I.bs b o e).1
theorem Inv.mod(I:Inv X pins U H s):Mod X.K X.mg X.base:=I.ok.mod
theorem Inv.kIn(I:Inv X pins U H s):X.K.In s.heap:=I.ok.mod.kin.keeps I.bk
theorem Inv.lt(I:Inv X pins U H s):X.env.locals<s.heap.objs.size:=let ⟨_,hn,_⟩:=I.loc;hn.lt
theorem Inv.sz(I:Inv X pins U H s):X.s₀.heap.objs.size<=s.heap.objs.size:=Ki I.ok.above (LG I.lt)
theorem Inv.nofs(I:Inv X pins U H s){a:Addr}(h:s.heap.objs.size<=a):a∉X.fs:=λhb=>by
 obtain⟨_,o,ho,_⟩:=I.ok.funs.mem hb;exact absurd (JX (JJ ho)<|Ki I.sz h) (KL _)
theorem Inv.cne(I:Inv X pins U H s):∀x c,X.env.cells.lookup x=some c->c≠X.env.locals:=λx c e z=>by
 obtain⟨v,o,ho,hd⟩:=I.cell x c e;obtain⟨m,⟨o',es,ep,ho',hd',_⟩,_⟩:=I.loc;rw[z,ho']at ho;cases ho;rw[hd']at hd;cases hd
theorem Inv.funs(I:Inv X pins U H s):s.heap.FunFrames X.base X.outer:=by
 have all:∀(l:List Env),(∀b∈fk l,b∈X.fs)->X.s₀.heap.FunFrames X.base l->s.heap.FunFrames X.base l:=by
  intro l
  induction l with
  |nil=>intro _ _;trivial
  |cons env r ih=>
   intro hs hl;obtain⟨hk,⟨L,o,hf,hn,ho,hd⟩,hr⟩:=hl;have hL:L∈X.fs:=hs L (by unfold fk;rw[Lu,hf];exact KP)
   obtain⟨sl,e⟩:=I.base.slot L o ho (I.ok.frf L hL) hL λz=>I.ok.exfs L z hL;exact⟨hk,⟨L,_,hf,hn,e,hd⟩,ih (λb hb=>hs b (by unfold fk;rw[Lu,hf];exact JZ _ hb)) hr⟩
 exact all X.outer (λ_ hb=>hb) I.ok.funs
theorem Inv.stack(I:Inv X pins U H s):s.heap.FunFrames X.base X.stack:=by
 rcases I.ok.stk with e|⟨e,hf⟩
 .rw[e];exact I.funs
 .rw[e]
  obtain⟨m,hn,_⟩:=I.loc;refine .cons (by rw[I.ok.kind];decide) hf hn ?_ I.funs
  exact Heap.get?_none_of_le (Ki I.ok.bsz I.ok.above)
theorem Inv.stkSub(I:Inv X pins U H s):∀b∈fk X.stack,b∈X.env.locals::X.fs:=λb hb=>by
 rcases I.ok.stk with e|⟨e,hf⟩
 .rw[e]at hb;exact JZ _ hb
 .rw[e]at hb
  unfold fk at hb;rw[Lu,hf]at hb;exact hb
theorem Inv.stkFree(I:Inv X pins U H s):∀b∈fk X.stack,H b=none:=λb hb=>by
 rcases JM.mp (I.stkSub b hb) with e|hb
 .rw[e];exact I.free
 .obtain⟨_,o,ho,_⟩:=I.ok.funs.mem hb
  exact I.base.free b o ho (I.ok.frf b hb) λz=>I.ok.exfs b z hb
theorem Inv.step{g':Array GenState}{t':Nat}{d':Drawn}{ch:List Addr}(I:Inv X pins U H s)
  (hch:∀b∈ch,(b∈X.ex\/X.s₀.heap.objs.size<=b)/\b≠X.env.locals/\(∀x c,X.env.cells.lookup x=some c->c≠b)/\∀p∈X.pn++pins,p.1≠b)
  (keep:∀b o,b≠X.env.locals->b∉X.fs->b∉ch->s.heap.get? b=some o->H b=none->h'.get? b=some o)
  (slot:∀b o,b≠X.env.locals->b∈X.fs->b∉ch->s.heap.get? b=some o->H b=none->∃sl,h'.get? b=some { o with slots:=sl }) (free:∀b o,b∉ch->s.heap.get? b=some o->H b=none->H' b=none)
  (there:∀b o,b∉ch->s.heap.get? b=some o->∃o',h'.get? b=some o')
  (tups:∀b xs,H b=some (.tup xs)->H' b=some (.tup xs)) (frzs:∀b o u,H b=some (.frz o u)->H' b=some (.frz o u)) (tbls:∀b ps,H b=some (.tbl ps)->∃more,H' b=some (.tbl (ps++more)))
  (ns:∀m,s.heap.Ns X.env.locals m->h'.Ns X.env.locals m) (hok:HOk X.prog X.w H' h') (hg:AllBare g'):
  Inv X pins U H' { s with heap:=h',gens:=g',drawn:=d',toks:=t' }:=by
 have neL:∀b o,X.s₀.heap.get? b=some o->b≠X.env.locals:=λb o e=>JS (JX (JJ e) I.ok.above);have neC:∀b o,X.s₀.heap.get? b=some o->b∉X.ex->b∉ch:=λb o e hx hb=>by
  rcases (hch b hb).1 with z|z
  .exact hx z
  .exact absurd (JX (JJ e) z) (KL _)
 have cellK:∀x c,X.env.cells.lookup x=some c->∀v,s.heap.IsCell c v->h'.IsCell c v:=λx c e v ⟨o,ho,hd⟩=>by
  have nch:c∉ch:=λz=>(hch c z).2.2.1 x c e rfl
  by_cases hc:c∈X.fs
  .obtain⟨sl,q⟩:=slot c o (I.cne x c e) hc nch ho (I.freeC x c e)
   exact⟨_,q,hd⟩
  .exact⟨o,keep c o (I.cne x c e) hc nch ho (I.freeC x c e),hd⟩
 refine⟨I.ok,I.os,hg,⟨λb o e n hb hx=>?_,λb o e n hb hx=>?_,λb o e n hx=>?_,λb o e hx=>?_,λb xs e=>tups b xs (I.base.tups b xs e),λb o xs e=>frzs b o xs (I.base.frzs b o xs e),λb ps e=>?_⟩,?_,λx c e=>?_,?_,λx c e=>?_,λp hp=>?_,hok,I.len⟩
 .exact keep b o (neL b o e) hb (neC b o e hx) (I.base.keep b o e n hb hx) (I.base.free b o e n hx)
 .obtain⟨sl,e1⟩:=I.base.slot b o e n hb hx
  obtain⟨sl',e2⟩:=slot b _ (neL b o e) hb (neC b o e hx) e1 (I.base.free b o e n hx);exact⟨sl',e2⟩
 .obtain⟨o',e1⟩:=I.base.there b o e hx
  exact free b o' (neC b o e hx) e1 (I.base.free b o e n hx)
 .obtain⟨o',e1⟩:=I.base.there b o e hx
  exact there b o' (neC b o e hx) e1
 .obtain⟨m1,e1⟩:=I.base.tbls b ps e
  obtain⟨m2,e2⟩:=tbls b _ e1;exact⟨m1++m2,by rw[e2,NC]⟩
 .obtain⟨m,hn,hl⟩:=I.loc
  refine⟨m,ns m hn,λi x v e1 e2 e3=>?_⟩;obtain⟨u,r,l⟩:=hl i x v e1 e2 e3;refine⟨u,r,?_⟩;rcases l with l|⟨k,c,e,z⟩
  .exact .inl l
  .exact .inr ⟨k,c,e,cellK x c e _ z⟩
 .obtain⟨v,z⟩:=I.cell x c e
  exact⟨v,cellK x c e v z⟩
 .obtain⟨m,⟨o,_,_,ho,_⟩,_⟩:=I.loc
  exact free _ o (λz=>(hch _ z).2.1 rfl) ho I.free
 .obtain⟨v,o,ho,hd⟩:=I.cell x c e
  exact free c o (λz=>(hch c z).2.2.1 x c e rfl) ho (I.freeC x c e)
 .obtain⟨e,n,ne,nf,d⟩:=I.pin p hp
  have nch:p.1∉ch:=λz=>(hch p.1 z).2.2.2 p hp rfl;exact⟨keep p.1 p.2 ne nf nch e n,free p.1 p.2 nch e n,ne,nf,d⟩
theorem Inv.un{t':Nat}(I:Inv X pins U H s)(u:Un X.fs [] H H' s.heap h')(hok:HOk X.prog X.w H' h'):Inv X pins U H' { s with heap:=h',toks:=t' }:=by
 obtain⟨m,⟨o,es,ep,ho,r⟩,_⟩:=id I.loc;obtain⟨sl,hL⟩:=u.any ho I.free (by simp)
 exact I.step (g':=s.gens) (d':=s.drawn) (ch:=[]) (λ_ z=>nomatch z) (λb o _ hb _ e n=>u.keep b o e n hb (by simp)) (λb o _ hb _ e n=>u.slot b o e n hb (by simp)) (λb o _ e n=>u.free b o e n (by simp)) (λb o _ e=>u.there b o e (by simp)) u.tups u.frzs u.tbls (λm' hm=>by
  obtain⟨o',es',ep',ho',r'⟩:=hm;rw[ho]at ho';cases ho';exact⟨_,es',ep',hL,r'⟩) hok I.bare
theorem Inv.call{g':Array GenState}{t':Nat}{d':Drawn}{ch:List Addr}(I:Inv X pins U H s)(u:Un (fk X.stack) ch H H' s.heap h')(hok:HOk X.prog X.w H' h')(hg:AllBare g')
  (hch:∀b∈ch,(b∈X.ex\/X.s₀.heap.objs.size<=b)/\b≠X.env.locals/\(∀x c,X.env.cells.lookup x=some c->c≠b)/\∀p∈X.pn++pins,p.1≠b):
  Inv X pins U H' { s with heap:=h',gens:=g',drawn:=d',toks:=t' }:=by
 obtain⟨m,⟨o,es,ep,ho,r⟩,_⟩:=id I.loc;obtain⟨sl,hL⟩:=u.any ho I.free λz=>(hch _ z).2.1 rfl;exact I.step (ch:=ch) hch (λb o hL hb hc e n=>u.keep b o e n (λz=>(JM.mp<|I.stkSub b z).elim hL hb) hc) (λb o _ _ hc e n=>u.any e n hc) (λb o hc e n=>u.free b o e n hc) (λb o hc e=>u.there b o e hc) u.tups u.frzs u.tbls (λm' hm=>by
  obtain⟨o',es',ep',ho',r'⟩:=hm;rw[ho]at ho';cases ho';exact⟨_,es',ep',hL,r'⟩) hok hg
theorem Inv.turned{t':Nat}{it:Addr}(I:Inv X pins U H s)(k:∀b o,b≠it->s.heap.get? b=some o->h'.get? b=some o)(hn:H it=none)(hL:it≠X.env.locals)
  (h1:it∈X.ex\/X.s₀.heap.objs.size<=it) (h2:∀x c,X.env.cells.lookup x=some c->c≠it) (h3:∀p∈X.pn++pins,p.1≠it):Inv X pins U H { s with heap:=h',toks:=t' }:=by
 have nit:∀b u,H b=some u->b≠it:=λb u e z=>by rw[z,hn]at e;cases e
 refine I.step (g':=s.gens) (d':=s.drawn) (ch:=[it]) (λb hb=>?_) (λb o _ _ hc e _=>k b o (λz=>hc (by simp[z])) e) (λb o _ _ hc e _=>⟨o.slots,k b o (λz=>hc (by simp[z])) e⟩) (λ_ _ _ _ n=>n)
  (λb o hc e=>⟨o,k b o (λz=>hc (by simp[z])) e⟩) (λ_ _ e=>e) (λ_ _ _ e=>e) (λb ps e=>⟨#[],by rw[e];simp⟩) (λm hm=>?_) (λb u e=>?_) I.bare
 .have e:b=it:=by simpa using hb
  subst e;exact⟨h1,hL,h2,h3⟩
 .obtain⟨o,es,ep,ho,r⟩:=hm
  exact⟨o,es,ep,k _ o (Kw hL) ho,r⟩
 .refine (I.hok b u e).stay (λc v hc q=>k c v ?_ q) (λ_ q=>q) λ_ _ q=>q
  rcases hc with z|z
  .rw[z];exact nit b u e
  .exact nit c _ z
theorem Inv.tok(I:Inv X pins U H s)(t:Nat):Inv X pins U H { s with toks:=t }:=I.un (h':=s.heap) (t':=t) Un.refl I.hok
theorem Inv.kept{t':Nat}(I:Inv X pins U H s)(k:∀b u,s.heap.get? b=some u->h'.get? b=some u):Inv X pins U H { s with heap:=h',toks:=t' }:=I.un (Un.kept k) (I.hok.kept k)
theorem Inv.laid{a:Addr}{o:HO}{t':Nat}(I:Inv X pins U H s)(k:∀b u,s.heap.get? b=some u->h'.get? b=some u)(hp:s.heap.objs.size<=a)(new:ObjOk X.prog X.w (upd H a o) h' a o):
  Inv X pins U (upd H a o) { s with heap:=h',toks:=t' }:=I.un (Un.laid k hp<|I.hok.fresh hp) (I.hok.laid k hp new)
theorem Inv.write{x e:Addr}{o:HO}{t':Nat}(I:Inv X pins U H s)(mu:Jb (H x))(he:e=x\/H e=some (.own x))(k:∀b u,b≠e->s.heap.get? b=some u->h'.get? b=some u)(heo:∃u,h'.get? e=some u)
  (new:ObjOk X.prog X.w (upd H x o) h' x o):Inv X pins U (upd H x o) { s with heap:=h',toks:=t' }:=I.un (Un.write mu he k heo) (I.hok.write mu he k heo new)
theorem Inv.pins_of{pins':List (Addr×Obj)}(I:Inv X pins U H s)(h:∀p∈pins',s.heap.get? p.1=some p.2/\H p.1=none/\p.1≠X.env.locals/\p.1∉X.fs/\∀v,p.2.data≠.cell v):Inv X pins' U H s:=
 ⟨I.ok,I.os,I.bare,I.base,I.loc,I.cell,I.free,I.freeC,λp hp=>(JW.mp hp).elim (λz=>I.pin p (Ld _ z)) (h p),I.hok,I.len⟩
theorem kb{N:List Str}(hN:N.Nodup){i j:Nat}{x:Str}(a:N[i]?=some x)(b:N[j]?=some x):i=j:=by
 obtain⟨h1,e1⟩:=Kv.mp a;obtain⟨h2,e2⟩:=Kv.mp b;exact(List.getElem_inj hN).mp (e1.trans e2.symm)
theorem xD{M:Model}{A:Around}{E:Value->Shared->Prop}{i:Nat}{x:Str}{v:V}{u:Value}{Q:Unit->Shared->Prop}(I:Inv X pins U H s)(hN:X.N.Nodup)(hi:X.N[i]?=some x)(hx:wa X.env.scope x)(r:RelV v u)
  (h:∀s',Inv X pins (U.set i<|some v) H s'->(∃a,K0 a s.heap s'.heap/\(a=X.env.locals\/X.env.cells.lookup x=some a))->Q () s') (hf:X.fn x=true\/X.env.scope.names.lookup x=some .local:=by first|exact .inl rfl|exact .inr rfl|assumption):wpAny M A (storeName X.env x u) Q E s:=by
 obtain⟨m,hn,hl⟩:=id I.loc;have hcls:(X.env.scope.kind==.class||(X.env.scope.kind==.module&&X.env.locals != X.env.globals))=false:=by rw[I.ok.kind];rfl
 have hiσ:i<U.length:=by rw[I.len];exact(Kv.mp hi).1
 have cne:=I.cne;have tracked:∀{a:Addr} {h':Heap},(∃o,s.heap.get? a=some o/\H a=none)->K0 a s.heap h'->HOk X.prog X.w H h':=λ{a h'} ha hs b ob e=>by
  obtain⟨_,_,hfree⟩:=ha;refine (I.hok b ob e).stay (λc w' hc q=>(hs.2 c ?_).trans q) (λ_ q=>q) λ_ _ q=>q
  rintro rfl
  rcases hc with rfl|hc
  .rw[hfree]at e;cases e
  .rw[hfree]at hc;cases hc
 rcases hx with hk|hk
 .refine wpAny_storeName_local hk hn (λh' hn' hs=>?_) hcls
  obtain⟨oL,_,_,hoL,_⟩:=id hn;refine h _ ⟨I.ok,I.os,I.bare,⟨λb o e n hb hx=>?_,λb o e n hb hx=>?_,I.base.free,λb o e hx=>?_,I.base.tups,I.base.frzs,I.base.tbls⟩,⟨_,hn',λj y v' e1 e2 e3=>?_⟩,λy c e=>?_,I.free,I.freeC,λp hp=>?_,tracked ⟨oL,hoL,I.free⟩ hs,by simpa using I.len⟩ ⟨_,hs,.inl rfl⟩
  .exact(hs.2 b<|JS<|JX (JJ e) I.ok.above).trans (I.base.keep b o e n hb hx)
  .obtain⟨sl,e1⟩:=I.base.slot b o e n hb hx
   exact⟨sl,(hs.2 b<|JS<|JX (JJ e) I.ok.above).trans e1⟩
  .obtain⟨o',e1⟩:=I.base.there b o e hx
   exact⟨o',(hs.2 b<|JS<|JX (JJ e) I.ok.above).trans e1⟩
  .by_cases hj:j=i
   .subst hj
    rw[hi]at e1;cases e1;rw[Mj hiσ]at e2;cases e2;exact⟨u,r,.inl ⟨hk,by simp⟩⟩
   .rw[Nt (Kw hj)]at e2
    obtain⟨u',r',q⟩:=hl j y v' e1 e2 e3;refine⟨u',r',?_⟩;rcases q with⟨k,e⟩|⟨k,c,e,z⟩
    .refine .inl ⟨k,?_⟩
     have:y≠x:=λe=>hj (kb hN e1 (e▸hi));simp[this,e]
    .exact .inr ⟨k,c,e,z.sameBut hs<|cne y c e⟩
  .obtain⟨w',z⟩:=I.cell y c e
   exact⟨w',z.sameBut hs<|cne y c e⟩
  .obtain⟨e,n,ne,nf,d⟩:=I.pin p hp
   exact⟨(hs.2 p.1 ne).trans e,n,ne,nf,d⟩
 .have hfn:X.fn x=true:=by
   rcases hf with z|z
   .exact z
   .rw[z]at hk;cases hk
  obtain⟨c,hc⟩:=I.ok.has x (.inl hk);obtain⟨w',z⟩:=I.cell x c hc;refine wpAny_storeName_cell I.ok.kind hk hc z (λh' hc' hs=>?_);obtain⟨oc,hoc,hocd⟩:=id z;refine h { s with heap:=h' } ⟨I.ok,I.os,I.bare,⟨λb o e n hb hx=>?_,λb o e n hb hx=>?_,I.base.free,λb o e hx=>?_,I.base.tups,I.base.frzs,I.base.tbls⟩,⟨m,hn.sameBut hs (Kw<|cne x c hc),λj y v' e1 e2 e3=>?_⟩,λy c' e=>?_,I.free,I.freeC,λp hp=>?_,tracked ⟨oc,hoc,I.freeC x c hc⟩ hs,by simpa using I.len⟩ ⟨c,hs,.inr hc⟩
  .exact(hs.2 b<|JS<|JX (JJ e)<|I.ok.cab x c hfn hc).trans (I.base.keep b o e n hb hx)
  .obtain⟨sl,e1⟩:=I.base.slot b o e n hb hx
   exact⟨sl,(hs.2 b<|JS<|JX (JJ e)<|I.ok.cab x c hfn hc).trans e1⟩
  .obtain⟨o',e1⟩:=I.base.there b o e hx
   exact⟨o',(hs.2 b<|JS<|JX (JJ e)<|I.ok.cab x c hfn hc).trans e1⟩
  .by_cases hj:j=i
   .subst hj
    rw[hi]at e1;cases e1;rw[Mj hiσ]at e2;cases e2;exact⟨u,r,.inr ⟨.inl hk,c,hc,hc'⟩⟩
   .rw[Nt (Kw hj)]at e2
    obtain⟨u',r',q⟩:=hl j y v' e1 e2 e3;refine⟨u',r',?_⟩;rcases q with q|⟨k,c',e,z'⟩
    .exact .inl q
    .refine .inr ⟨k,c',e,z'.sameBut hs ?_⟩
     rintro rfl
     exact hj (kb hN e1 (I.ok.inj _ _ _ e hc▸hi))
  .by_cases hcc:c'=c
   .subst hcc;exact⟨_,hc'⟩
   .obtain⟨w2,z2⟩:=I.cell y c' e
    exact⟨w2,z2.sameBut hs hcc⟩
  .obtain⟨e,n,ne,nf,d⟩:=I.pin p hp
   refine⟨(hs.2 p.1 ?_).trans e,n,ne,nf,d⟩;intro q;rw[q,hoc]at e;have q':oc=p.2:=Kl e;exact d w' (by rw[<- q'];exact hocd)
theorem eQ{M:Model}{A:Around}{E:Value->Shared->Prop}{i:Nat}{x:Str}{v:V}{u:Value}{Q:Unit->Shared->Prop}(I:Inv X pins U H s)(hN:X.N.Nodup)(hi:X.N[i]?=some x)(hx:wa X.env.scope x)(r:RelV v u)
  (h:∀s',Inv X pins (U.set i<|some v) H s'->Q () s') (hf:X.fn x=true\/X.env.scope.names.lookup x=some .local:=by first|exact .inl rfl|exact .inr rfl|assumption):wpAny M A (storeName X.env x u) Q E s:=
 xD I hN hi hx r (λs' I' _=>h s' I') hf
theorem Inv.call'{s':Shared}{ch:List Addr}(I:Inv X pins U H s)(ho:s'.os=s.os)(u:Un (fk X.stack) ch H H' s.heap s'.heap)(hok:HOk X.prog X.w H' s'.heap)(hg:AllBare s'.gens)
  (hch:∀b∈ch,(b∈X.ex\/X.s₀.heap.objs.size<=b)/\b≠X.env.locals/\(∀x c,X.env.cells.lookup x=some c->c≠b)/\∀p∈X.pn++pins,p.1≠b):Inv X pins U H' s':=by
 obtain⟨h',g',d',t',o'⟩:=s';have e:o'=s.os:=ho;subst e;exact I.call (g':=g') (t':=t') (d':=d') u hok hg hch
end
abbrev XK:=Value->Option Addr->Hp->Prop
abbrev St:=List (Option V)
abbrev VK:=V->Hp->Prop
abbrev TE:=St->Hp->VK->Prop
abbrev TT:=St->Hp->(Bool->Hp->Prop)->Prop
abbrev TA:=St->Hp->(List V->Hp->Prop)->Prop
structure Ends where
 nx:St->Hp->Prop
 rt:VK
 bk:St->Hp->Prop:=λ_ _=>False
 ct:St->Hp->Prop:=λ_ _=>False
abbrev TS:=Ends->St->Hp->Prop
inductive EP(X:Cx)(pins:List (Addr×Obj))(U:St)(Q:VK)(u:Value)(s':Shared):Prop
 |mk (v:V) (H':Hp) (h0:Inv X pins U H' s') (h1:RelV v u) (h2:Q v H'):EP X pins U Q u s'
inductive TP(X:Cx)(pins:List (Addr×Obj))(U:St)(Q:Bool->Hp->Prop)(b:Bool)(s':Shared):Prop
 |mk (H':Hp) (h0:Inv X pins U H' s') (h1:Q b H'):TP X pins U Q b s'
inductive AP(X:Cx)(pins:List (Addr×Obj))(U:St)(Q:List V->Hp->Prop)(us:List Value)(s':Shared):Prop
 |mk (vs:List V) (H':Hp) (h0:Inv X pins U H' s') (h1:Vals vs us) (h2:Q vs H'):AP X pins U Q us s'
def SP(X:Cx)(pins:List (Addr×Obj))(D:Ends)(f:Flow)(s':Shared):Prop:=
 match f with
 |.next=>∃σ' H',Inv X pins σ' H' s'/\D.nx σ' H'
 |.brk=>∃σ' H',Inv X pins σ' H' s'/\D.bk σ' H'
 |.cont=>∃σ' H',Inv X pins σ' H' s'/\D.ct σ' H'
 |.ret u=>∃v σ' H',Inv X pins σ' H' s'/\RelV v u/\D.rt v H'
def PE(X:Cx)(e:Expr)(t:TE):Prop:=
 ∀(pins:List (Addr×Obj)) (s:Shared) (U:St) (H:Hp) (Q:VK),Inv X pins U H s->t U H Q->wpAny (model X.prog X.w) X.A (eval e X.env) (EP X pins U Q) X.xe s
def PT(X:Cx)(e:Expr)(t:TT):Prop:=
 ∀(pins:List (Addr×Obj)) (s:Shared) (U:St) (H:Hp) (Q:Bool->Hp->Prop),Inv X pins U H s->t U H Q->wpAny (model X.prog X.w) X.A (isTrue e X.env<|eval e X.env) (TP X pins U Q) X.xe s
def PW(X:Cx)(e:Expr)(t:TT):Prop:=
 ∀(whole:Sem Value) (pins:List (Addr×Obj)) (s:Shared) (U:St) (H:Hp) (Q:Bool->Hp->Prop),Inv X pins U H s->t U H Q->wpAny (model X.prog X.w) X.A (isTrue e X.env whole) (TP X pins U Q) X.xe s
theorem Jx{X:Cx}{e:Expr}{t:TT}(h:PW X e t):PT X e t:=h _
def PA(X:Cx)(es:List Expr)(t:TA):Prop:=
 ∀(pos:Pos) (pins:List (Addr×Obj)) (s:Shared) (U:St) (H:Hp) (Q:List V->Hp->Prop),Inv X pins U H s->t U H Q->wpAny (model X.prog X.w) X.A (spliced<|backTo pos<|starEach es X.env) (AP X pins U Q) X.xe s
def PS(X:Cx)(st:Stmt)(t:TS):Prop:=
 ∀(pins:List (Addr×Obj)) (s:Shared) (U:St) (H:Hp) (D:Ends),Inv X pins U H s->t D U H->wpAny (model X.prog X.w) X.A (exec st X.env) (SP X pins D) X.xe s
def rK(X:Cx)(st:List Stmt)(t:TS):Prop:=
 ∀(pins:List (Addr×Obj)) (s:Shared) (U:St) (H:Hp) (D:Ends),Inv X pins U H s->t D U H->wpAny (model X.prog X.w) X.A (execs st X.env) (SP X pins D) X.xe s
theorem bG{α:Type}{t:Sem α}{Q Q':α->Shared->Prop}{M:Model}{A:Around}{E:Value->Shared->Prop}{s:Shared}(h:wpAny M A t Q E s)(hQ:∀a s,Q a s->Q' a s):wpAny M A t Q' E s:=wpAny_mono h hQ λ_ _ x=>x
section
variable {X:Cx}
def GV(i:Nat):TE:=λU H Q=>∃v,U[i]?=some (some v)/\Q v H
def tC(v:V):TE:=λ_ H Q=>Q v H
theorem zT{i:Nat}{x:Str}{pos:Pos}(hN:X.N[i]?=some x)(hv:Hq X.env.scope x)(hd:(x==("__debug__":Str))=false:=by decide)(hcd:(x==("__classdict__":Str))=false:=by decide):PE X (.Name x pos) (GV i):=by
 intro pins s U H Q I h;obtain⟨v,e,h⟩:=h;obtain⟨m,hn,hl⟩:=I.loc;obtain⟨u,r,l⟩:=hl i x v hN e hv;have fin:EP X pins U Q u s:=⟨v,H,I,r,h⟩;rcases l with⟨hk,hm⟩|⟨hk,c,hc,hcell⟩
 .exact wpAny_Name (wpAny_loadName_local I.ok.kind hk hn hm fin) hd
 .rcases hk with hk|hk
  .exact wpAny_Name (wpAny_loadName_cell I.ok.kind hk hc hcell fin) hd
  .exact wpAny_Name (wpAny_loadName_free I.ok.kind hk hc hcell fin hcd) hd
theorem EN{i j pos}:PE X (.Constant (.int i) j pos) (tC<|.int i):=λ_ _ _ H _ I h=>wpAny_Constant_int ⟨.int i,H,I.tok _,⟨_,rfl⟩,h⟩
theorem Ii{b j pos}:PE X (.Constant (.bool b) j pos) (tC<|.bl b):=λ_ _ _ H _ I h=>Constant_bool ⟨.bl b,H,I,rfl,h⟩
theorem EQ{j pos}:PE X (.Constant .none j pos) (tC .non):=λ_ _ _ H _ I h=>Constant_none ⟨.non,H,I,rfl,h⟩
theorem As{x j pos}:PE X (.Constant (.str x) j pos) (tC<|.str x):=λ_ _ _ H _ I h=>Calls.Constant_str ⟨.str x,H,I.tok _,⟨_,rfl⟩,h⟩
def Gl(X:Cx)(x:Str):Prop:=X.env.kindOf x=some .globalImplicit
theorem dO{E:Value->Shared->Prop}{pins:List (Addr×Obj)}{s:Shared}{U:St}{H:Hp}{x:Str}{u:Value}{pos:Pos}{Q:Value->Shared->Prop}(I:Inv X pins U H s)(hg:Gl X x)(hm:X.mg x=some u)(h:Q u s)
  (hd:(x==("__debug__":Str))=false:=by decide):wpAny (model X.prog X.w) X.A (eval (.Name x pos) X.env) Q E s:=
 Od I.ok.kind hg (Calls.loadGlobal_global (by rw[I.ok.glob];exact I.mod.glob.keeps I.bk) hm h) hd
theorem dS{E:Value->Shared->Prop}{pins:List (Addr×Obj)}{s:Shared}{U:St}{H:Hp}{x:Str}{u:Value}{pos:Pos}{Q:Value->Shared->Prop}(I:Inv X pins U H s)(hg:Gl X x)(hm:X.mg x=none)(hv:bootBuiltins x=some u)(h:Q u s)
  (hn:x≠"__name__":=by decide) (hd:(x==("__debug__":Str))=false:=by decide):wpAny (model X.prog X.w) X.A (eval (.Name x pos) X.env) Q E s:=by
 obtain⟨mb,h1,h2⟩:=I.mod.blt;exact Od I.ok.kind hg (Calls.loadGlobal_builtin (by rw[I.ok.glob];exact I.mod.glob.keeps I.bk) hm (by rw[I.ok.blt];exact h1.keeps I.bk) ((h2 x hn).trans hv) h) hd
theorem Da{x:Str}{v:V}{u:Value}{pos:Pos}(hg:Gl X x)(hm:X.mg x=some u)(r:RelV v u)(hd:(x==("__debug__":Str))=false:=by decide):PE X (.Name x pos) (tC v):=
 λ_ _ _ H _ I h=>dO I hg hm ⟨v,H,I,r,h⟩ hd
theorem CP{x:Str}{v:V}{u:Value}{pos:Pos}(hg:Gl X x)(hm:X.mg x=none)(hv:bootBuiltins x=some u)(r:RelV v u)(hn:x≠"__name__":=by decide)(hd:(x==("__debug__":Str))=false:=by decide):PE X (.Name x pos) (tC v):=
 λ_ _ _ H _ I h=>dS I hg hm hv ⟨v,H,I,r,h⟩ hn hd
variable {a b:Expr}{ta tb:TE}{pos:Pos}
variable {tA tB':TT}{rest:List Expr}
def tAnd(t u:TT):TT:=λU H Q=>t U H λc H1=>if c=true then u U H1 Q else Q false H1
def tOr(t u:TT):TT:=λU H Q=>t U H λc H1=>if c=true then Q true H1 else u U H1 Q
def tNot(t:TT):TT:=λU H Q=>t U H λc H1=>Q (!c) H1
theorem Cw(ha:PT X a tA):PW X (.BoolOp .And [a] pos) tA:=by
 intro wh pins s U H Q I h;refine isTrue_and (bG (ha pins s U H Q I h) λc s1 e=>?_);cases c with
 |true=>exact isTrue_and_nil e
 |false=>exact e
theorem F7(ha:PT X a tA):PW X (.BoolOp .Or [a] pos) tA:=by
 intro wh pins s U H Q I h;refine isTrue_or (bG (ha pins s U H Q I h) λc s1 e=>?_);cases c with
 |false=>exact isTrue_or_nil e
 |true=>exact e
theorem GQ(ha:PT X a tA)(hb:PW X (.BoolOp .And (b::rest) pos) tB'):PW X (.BoolOp .And (a::b::rest) pos) (tAnd tA tB'):=by
 intro wh pins s U H Q I h;refine isTrue_and (bG (ha pins s U H _ I h) λc s1 ⟨H1,I1,q1⟩=>?_);cases c with
 |true=>exact hb wh pins s1 U H1 Q I1 q1
 |false=>exact⟨H1,I1,q1⟩
theorem J4(ha:PT X a tA)(hb:PW X (.BoolOp .Or (b::rest) pos) tB'):PW X (.BoolOp .Or (a::b::rest) pos) (tOr tA tB'):=by
 intro wh pins s U H Q I h;refine isTrue_or (bG (ha pins s U H _ I h) λc s1 ⟨H1,I1,q1⟩=>?_);cases c with
 |true=>exact⟨H1,I1,q1⟩
 |false=>exact hb wh pins s1 U H1 Q I1 q1
theorem FR(ha:PT X a tA):PT X (.UnaryOp .Not a pos) (tNot tA):=by
 intro pins s U H Q I h;exact isTrue_not (wpAny_mono (ha pins s U H (λc H1=>Q (!c) H1) I h) (λc s' z=>by cases z with|mk a b d=>exact⟨a,b,d⟩) λ_ _ e=>e)
def Hx(ta tb:TE):TE:=λU H Q=>ta U H λx H1=>∃c,x=.bl c/\if c=true then tb U H1 Q else Q (.bl false) H1
def Jw(ta:TE):TE:=λU H Q=>ta U H λx H1=>∃c,x=.bl c/\Q (.bl<|!c) H1
theorem Gi{op}{t:TE}(h:PE X a t):PE X (.BoolOp op [a] pos) t:=λpins s U H Q I hw=>BoolOp_one (h pins s U H Q I hw)
theorem Gf(ha:PE X a ta)(hb:PE X (.BoolOp .And (b::rest) pos) tb):PE X (.BoolOp .And (a::b::rest) pos) (Hx ta tb):=by
 intro pins s U H Q I h;refine BoolOp_and (bG (ha pins s U H _ I h) λv s1 ⟨x,H1,I1,r1,q1⟩=>?_);obtain⟨c,rfl,q1⟩:=q1;cases r1;refine wpAny_truthy_bool ?_;cases c with
 |true=>exact hb pins s1 U H1 Q I1 q1
 |false=>exact⟨.bl false,H1,I1,rfl,q1⟩
theorem F0(ha:PE X a ta):PE X (.UnaryOp .Not a pos) (Jw ta):=by
 intro pins s U H Q I h;refine UnaryOp_ (bG (ha pins s U H _ I h) λv s1 ⟨x,H1,I1,r1,q1⟩=>?_);obtain⟨c,rfl,q1⟩:=q1;cases r1;exact not_of (wpAny_truthy_bool ⟨.bl (!c),H1,I1,rfl,q1⟩)
def tIf(t:TT)(ta tb:TE):TE:=λU H Q=>t U H λc H1=>if c=true then ta U H1 Q else tb U H1 Q
theorem A3{c:Expr}(hc:PT X c tA)(ha:PE X a ta)(hb:PE X b tb):PE X (.IfExp c a b pos) (tIf tA ta tb):=by
 intro pins s U H Q I h;refine wpAny_IfExp (bG (hc pins s U H _ I h) λd s1 ⟨H1,I1,q1⟩=>?_);cases d with
 |true=>exact ha pins s1 U H1 Q I1 q1
 |false=>exact hb pins s1 U H1 Q I1 q1
end
def SqL(K:JF)(H:Hp)(a:Addr)(xs:List V):Prop:=
 Rd H a (.lst xs)\/
  ∃(o:Obj) (its:Array Value) (n:Nat),K.lookup a=some o/\o.cls=.type "list"/\o.dict=none/\o.data=.seq its n/\its.size<=sizeLine/\Vals xs its.toList
def gL(K:JF)(H:Hp)(a:Addr)(xs:List V):Prop:=
 Rd H a (.tup xs)\/
  ∃(o:Obj) (its:Array Value) (n:Nat),K.lookup a=some o/\o.cls=.type "tuple"/\o.data=.seq its n/\its.size<=sizeLine/\Vals xs its.toList
def absV:Value->Option V
 |.none=>some .non
 |.bool b=>some (.bl b)
 |.int i _=>some (.int i)
 |.str x _=>some (.str x)
 |.bytes b _=>some (.byt b)
 |.float b _=>some (.flt b)
 |.ref a=>some (.ref a)
 |.type n=>some (.ty n)
 |_=>none
theorem RelV.abs{x:V}{u:Value}(r:RelV x u):absV u=some x:=by
 cases x with
 |non=>cases r;rfl
 |bl _=>cases r;rfl
 |int _=>obtain⟨t,rfl⟩:=r;rfl
 |str _=>obtain⟨t,rfl⟩:=r;rfl
 |byt _=>obtain⟨t,rfl⟩:=r;rfl
 |flt _=>obtain⟨t,rfl⟩:=r;rfl
 |ref _=>cases r;rfl
 |ty _=>cases r;rfl
theorem RelV.inj{x y:V}{u:Value}(r:RelV x u)(q:RelV y u):x=y:=Kl (r.abs.symm.trans q.abs)
theorem Vals.inj:∀{xs ys:List V} {us:List Value},Vals xs us->Vals ys us->xs=ys
 |_,_,_,.nil,.nil=>rfl
 |_,_,_,.cons r t,.cons r' t'=>by rw[r.inj r',Vals.inj t t']
section
variable {X:Cx}{pins:List (Addr×Obj)}{U:St}{H:Hp}{s:Shared}{a:Addr}{xs ys:List V}
theorem SqL.of{K:JF}(h:H a=some (.lst xs)):SqL K H a xs:=.inl (.inl h)
theorem Inv.list(I:Inv X pins U H s)(h:SqL X.K H a xs):∃its:List Value,Vals xs its/\PlainL s.heap a its.toArray/\xs.length<=sizeLine:=by
 rcases h with h|⟨o,its,n,hk,hc,hd,hs,hz,r⟩
 .obtain⟨z,its,n,r,e⟩:=h.ok I.hok
  exact⟨its,r,⟨_,n,e,rfl,rfl,rfl⟩,z⟩
 .refine⟨its.toList,r,⟨o,n,I.kIn a o hk,hc,hd,by simpa using hs⟩,?_⟩
  have e:=r.length;simp only[Kk]at e;lia
theorem Inv.tuple(I:Inv X pins U H s)(h:gL X.K H a xs):∃its:List Value,Vals xs its/\IsTup s.heap a its.toArray/\xs.length<=sizeLine:=by
 rcases h with h|⟨o,its,n,hk,hc,hs,hz,r⟩
 .obtain⟨z,its,r,ob,e,c,_⟩:=h.ok I.hok
  exact⟨its,r,⟨ob,e,c⟩,z⟩
 .refine⟨its.toList,r,⟨o,I.kIn a o hk,hc,n,by simpa using hs⟩,?_⟩
  have e:=r.length;simp only[Kk]at e;lia
theorem Inv.list_inj(I:Inv X pins U H s)(h:SqL X.K H a xs)(h':SqL X.K H a ys):xs=ys:=by
 obtain⟨its,r,⟨o,n,e,_,_,d⟩,_⟩:=I.list h;obtain⟨its',r',⟨o',n',e',_,_,d'⟩,_⟩:=I.list h';rw[e]at e';cases e';rw[d]at d'
 injection d' with d1 _
 have:its=its':=by simpa using congrArg Mw d1
 subst this;exact r.inj r'
theorem Inv.tuple_inj(I:Inv X pins U H s)(h:gL X.K H a xs)(h':gL X.K H a ys):xs=ys:=by
 obtain⟨its,r,⟨o,e,_,n,d⟩,_⟩:=I.tuple h;obtain⟨its',r',⟨o',e',_,n',d'⟩,_⟩:=I.tuple h';rw[e]at e';cases e';rw[d]at d'
 injection d' with d1 _
 have:its=its':=by simpa using congrArg Mw d1
 subst this;exact r.inj r'
end
abbrev Cx.wish(X:Cx)(E:Value->Shared->Prop):Cx:={ X with xe:=E }
abbrev Cx.nox(X:Cx):Cx:=X.wish λ_ _=>False
theorem Cx.Ok.wish{X:Cx}(ok:X.Ok)(E:Value->Shared->Prop):(X.wish E).Ok:=
 ⟨ok.mod,ok.kind,ok.glob,ok.blt,ok.above,ok.inj,ok.has,ok.cab,ok.hd,ok.frames,ok.stk,ok.exf,ok.bs,ok.bsz,ok.noex,ok.exfs,ok.funs,ok.frf⟩
theorem Cx.Ok.unwish{X:Cx}{E:Value->Shared->Prop}(ok:(X.wish E).Ok):X.Ok:=
 ⟨ok.mod,ok.kind,ok.glob,ok.blt,ok.above,ok.inj,ok.has,ok.cab,ok.hd,ok.frames,ok.stk,ok.exf,ok.bs,ok.bsz,ok.noex,ok.exfs,ok.funs,ok.frf⟩
section
variable {X:Cx}{pins:List (Addr×Obj)}{U:St}{H:Hp}{s:Shared}{E:Value->Shared->Prop}
theorem Inv.wish(I:Inv X pins U H s)(E:Value->Shared->Prop):Inv (X.wish E) pins U H s:=⟨I.ok.wish E,I.os,I.bare,I.base,I.loc,I.cell,I.free,I.freeC,I.pin,I.hok,I.len⟩
theorem Inv.unwish(I:Inv (X.wish E) pins U H s):Inv X pins U H s:=⟨I.ok.unwish,I.os,I.bare,I.base,I.loc,I.cell,I.free,I.freeC,I.pin,I.hok,I.len⟩
end
section
variable {X:Cx}{st:Stmt}{rest:List Stmt}{t u:TS}{e:Expr}{te:TE}{pos:Pos}
def J2:TS:=λD U H=>D.nx U H
def tSeq(t u:TS):TS:=λD U H=>t { D with nx:=u D } U H
theorem C7:rK X [] J2:=λ_ _ U H _ I h=>wpAny_execs_nil ⟨U,H,I,h⟩
theorem yv(h1:PS X st t)(h2:rK X rest u):rK X (st::rest) (tSeq t u):=by
 intro pins s U H D I h;refine wpAny_execs_cons (bG (h1 pins s U H { D with nx:=u D } I h) λf s1 q=>?_);cases f with
 |next=>
  obtain⟨σ',H',I',q⟩:=q;exact h2 pins s1 σ' H' D I' q
 |ret v=>exact q
 |brk=>exact q
 |cont=>exact q
theorem uS(h1:PS X st t):rK X [st] t:=by
 intro pins s U H D I h;refine wpAny_execs_cons (bG (h1 pins s U H D I h) λf s1 q=>?_);cases f with
 |next=>exact wpAny_execs_nil q
 |ret v=>exact q
 |brk=>exact q
 |cont=>exact q
theorem Inv.quiet{pins:List (Addr×Obj)}{U:St}{H:Hp}{s:Shared}(I:Inv X pins U H s):interactive X.env=false:=by simp[interactive,I.ok.kind]
def IS(te:TE):TS:=λD U H=>te U H λ_ H1=>D.nx U H1
theorem AO(he:PE X e te)(hs:swapsWith e none pos.line X.env=pure false:=by rfl):PS X (.Expr e pos) (IS te):=by
 intro pins s U H D I h;exact wpAny_Expr_any (bG (he pins s U H _ I h) λv s1 ⟨x,H1,I1,r1,q1⟩=>⟨U,H1,I1,q1⟩) I.quiet hs
def tRet(te:TE):TS:=λD U H=>te U H D.rt
theorem Hm(he:PE X e te):PS X (.Return (some e) pos) (tRet te):=by
 intro pins s U H D I h;exact wpAny_Return_some (bG (he pins s U H _ I h) λv s1 ⟨x,H1,I1,r1,q1⟩=>⟨x,U,H1,I1,r1,q1⟩)
def tIfS(c:TT)(t u:TS):TS:=λD U H=>c U H λb H1=>if b=true then t D U H1 else u D U H1
theorem ID{c:Expr}{a b:List Stmt}{tc:TT}(hc:PT X c tc)(ha:rK X a t)(hb:rK X b u):PS X (.If c a b pos) (tIfS tc t u):=by
 intro pins s U H D I h;refine wpAny_If (bG (hc pins s U H _ I h) λd s1 ⟨H1,I1,q1⟩=>?_);cases d with
 |true=>exact ha pins s1 U H1 D I1 q1
 |false=>exact hb pins s1 U H1 D I1 q1
end
abbrev TG:=V->St->Hp->(St->Hp->Prop)->Prop
abbrev Dx:=List V->St->Hp->(St->Hp->Prop)->Prop
def PG(X:Cx)(target:Expr)(t:TG):Prop:=
 ∀(pins:List (Addr×Obj)) (s:Shared) (U:St) (H:Hp) (v:V) (u:Value) (Q:St->Hp->Prop),Inv X pins U H s->RelV v u->t v U H Q->
  wpAny (model X.prog X.w) X.A (assign target X.env u) (λ_ s'=>∃σ' H',Inv X pins σ' H' s'/\Q σ' H') X.xe s
def EV(X:Cx)(ts:List Expr)(t:Dx):Prop:=
 ∀(pins:List (Addr×Obj)) (s:Shared) (U:St) (H:Hp) (vs:List V) (us:List Value) (Q:St->Hp->Prop),Inv X pins U H s->Vals vs us->t vs U H Q->
  wpAny (model X.prog X.w) X.A (assignInOrder ((assignEach ts X.env).map (·.2)) us) (λ_ s'=>∃σ' H',Inv X pins σ' H' s'/\Q σ' H') X.xe s
abbrev EJ:=V->V->V->Hp->(Hp->Prop)->Prop
def GP(X:Cx)(t:EJ):Prop:=
 ∀(pins:List (Addr×Obj)) (s:Shared) (U:St) (H:Hp) (o i v:V) (ov iv u:Value) (Q:Hp->Prop),Inv X pins U H s->RelV o ov->RelV i iv->RelV v u->t o i v H Q->
  wpAny (model X.prog X.w) X.A (setItem ov iv u) (λ_ s'=>∃H',Inv X pins U H' s'/\Q H') X.xe s
abbrev TIp:=V->V->Hp->VK->Prop
def Hn(X:Cx)(op:Operator)(t:TIp):Prop:=
 ∀(pins:List (Addr×Obj)) (s:Shared) (U:St) (H:Hp) (x y:V) (v u:Value) (Q:VK),Inv X pins U H s->RelV x v->RelV y u->t x y H Q->
  wpAny (model X.prog X.w) X.A (inplaceOp op v u) (EP X pins U Q) X.xe s
section
variable {X:Cx}{pos:Pos}
def Em(i:Nat):TG:=λv U H Q=>Q (U.set i<|some v) H
theorem D7{i:Nat}{x:Str}(hN:X.N.Nodup)(hi:X.N[i]?=some x)(hx:wa X.env.scope x)(hf:X.fn x=true\/X.env.scope.names.lookup x=some .local:=by first|exact .inl rfl|exact .inr rfl|assumption):PG X (.Name x pos) (Em i):=by
 intro pins s U H v u Q I r h;exact wpAny_assign_Name (eQ I hN hi hx r (λs' I'=>⟨_,H,I',h⟩) hf)
def gNil:Dx:=λvs U H Q=>vs=[]/\Q U H
def HB(t:TG)(u:Dx):Dx:=λvs U H Q=>∃v r,vs=v::r/\t v U H λσ' H'=>u r σ' H' Q
theorem AX:EV X [] gNil:=by
 intro pins s U H vs us Q I r h;obtain⟨e,h⟩:=h;subst e;cases r;exact assignInOrder_nil ⟨U,H,I,h⟩
theorem yl{e:Expr}{es:List Expr}{t:TG}{u:Dx}(h1:PG X e t)(h2:EV X es u)
  (hs:(assignEach (e::es) X.env).map (·.2)=assign e X.env::(assignEach es X.env).map (·.2):=by rfl):EV X (e::es) (HB t u):=by
 intro pins s U H vs us Q I r h;obtain⟨v,vr,e1,h⟩:=h;subst e1;cases r with
 |cons r rr=>
  rw[hs];refine assignInOrder_cons (bG (h1 pins s U H _ _ _ I r h) λ_ s1 ⟨σ1,H1,I1,q1⟩=>?_);exact h2 pins s1 σ1 H1 _ _ Q I1 rr q1
def gTup(K:JF)(n:Nat)(t:Dx):TG:=λv U H Q=>∃a xs,v=.ref a/\gL K H a xs/\xs.length=n/\t xs U H Q
theorem GM{es:List Expr}{k:Nat}{t:Dx}{n:Nat}(hc:X.calm=true)(h:EV X es t)
  (hn:(assignEach es X.env).length=n:=by rfl) (hst:(assignEach es X.env).findIdx? (·.1)=none:=by rfl):PG X (.Tuple es k pos) (gTup X.K n t):=by
 intro pins s U H v u Q I r hw;obtain⟨a,xs,e1,hq,hl,hw⟩:=hw;subst e1;cases r;obtain⟨its,rv,ht,hz⟩:=I.tuple hq;refine assign_Tuple_tuple (I.ok.hd hc) ht (by simp[hn,<- hl,rv.length]) hst λh' hx=>?_
 have I1:Inv X pins U H { s with heap:=h' }:=I.kept (t':=s.toks) λb o e=>hx b o (JS<|JJ e) e;exact h pins _ U H xs _ Q I1 (by simpa using rv) hw
def gSub(to ti:TE)(t:EJ):TG:=λv U H Q=>to U H λo H1=>ti U H1 λi H2=>t o i v H2 λH3=>Q U H3
theorem Fl{o i:Expr}{to ti:TE}{t:EJ}(ho:PE X o to)(hi:PE X i ti)(hs:GP X t)
  (ha:∀v,assign (.Subscript o i pos) X.env v=(do
   let ov <- holding [v] (eval o X.env)
   let iv <- holding [v,ov] (eval i X.env)
   standAt pos
   holding [v,ov,iv] (setItem ov iv v)
   release [v,ov,iv] []):=by intro _;rfl):PG X (.Subscript o i pos) (gSub to ti t):=by
 intro pins s U H v u Q I r h;rw[ha];refine wpAny_bind (wpAny_holding (bG (ho pins s U H _ I h) λov s1 ⟨x,H1,I1,r1,q1⟩=>?_));refine wpAny_bind (wpAny_holding (bG (hi pins s1 U H1 _ I1 q1) λiv s2 ⟨y,H2,I2,r2,q2⟩=>?_));refine wpAny_bind (wpAny_standAt<|wpAny_bind<|wpAny_holding (bG (hs pins s2 U H2 x y v ov iv u _ I2 r1 r2 r q2) λ_ s3 ⟨H3,I3,q3⟩=>?_));exact wpAny_release ⟨U,H3,I3,q3⟩
def Js(te:TE)(g:TG):TS:=λD U H=>te U H λx H1=>g x U H1 D.nx
theorem Fg{tg e:Expr}{te:TE}{g:TG}(he:PE X e te)(hg:PG X tg g)(hs:swapsWithSole [tg] e pos.line X.env=pure false:=by rfl)(hw:swappedStores [tg] e X.env=pure none:=by rfl)
  (h1:(assignEach [tg] X.env).map (·.2)=[assign tg X.env]:=by rfl):PS X (.Assign [tg] e pos) (Js te g):=by
 intro pins s U H D I h;refine wpAny_Assign_stores (bG (he pins s U H _ I h) λv s1 ⟨x,H1,I1,r1,q1⟩=>?_) hs hw;rw[h1];exact bG (hg pins s1 U H1 x v _ I1 r1 q1) λ_ s2 q=>q
theorem zK{i:Nat}{x:Str}{e:Expr}{te:TE}{pos':Pos}(hN:X.N.Nodup)(hi:X.N[i]?=some x)(hx:wa X.env.scope x)(he:PE X e te)(hs:swapsWith e (some<|.Name x pos') pos.line X.env=pure false:=by rfl)(hf:X.fn x=true\/X.env.scope.names.lookup x=some .local:=by first|exact .inl rfl|exact .inr rfl|assumption):
  PS X (.Assign [.Name x pos'] e pos) (Js te<|Em i):=by
 intro pins s U H D I h;refine wpAny_Assign_Name (bG (he pins s U H _ I h) λv s1 ⟨y,H1,I1,r1,q1⟩=>?_) hs;exact eQ I1 hN hi hx r1 (λs2 I2=>⟨_,H1,I2,q1⟩) hf
def tAug(i:Nat)(te:TE)(ti:TIp):TS:=λD U H=>∃x,U[i]?=some (some x)/\te U H λy H1=>ti x y H1 λz H2=>D.nx (U.set i<|some z) H2
theorem Gr{i:Nat}{x:Str}{e:Expr}{te:TE}{op:Operator}{ti:TIp}{pos':Pos}(hN:X.N.Nodup)(hi:X.N[i]?=some x)(hx:wa X.env.scope x)(he:PE X e te)(ho:Hn X op ti)(hf:X.fn x=true\/X.env.scope.names.lookup x=some .local:=by first|exact .inl rfl|exact .inr rfl|assumption):
  PS X (.AugAssign (.Name x pos') op e pos) (tAug i te ti):=by
 intro pins s U H D I h;obtain⟨v,e1,h⟩:=h;obtain⟨m,hn,hl⟩:=I.loc;have vis:Hq X.env.scope x:=by rcases hx with k|k;exact .inl k;exact .inr (.inl k)
 obtain⟨u,r,l⟩:=hl i x v hi e1 vis;refine wpAny_AugAssign_Name ?_;have go:wpAny (model X.prog X.w) X.A (eval e X.env) (λw s₂=>wpAny (model X.prog X.w) X.A (inplaceOp op u w) (λr s₃=>wpAny (model X.prog X.w) X.A (storeName X.env x r) (λ_=>SP X pins D .next) X.xe s₃) X.xe s₂) X.xe s:=by
  refine bG (he pins s U H _ I h) λw s1 ⟨y,H1,I1,r1,q1⟩=>?_;refine bG (ho pins s1 U H1 v y u w _ I1 r r1 q1) λz s2 ⟨zv,H2,I2,r2,q2⟩=>?_;exact eQ I2 hN hi hx r2 (λs3 I3=>⟨_,H2,I3,q2⟩) hf
 rcases l with⟨hk,hm⟩|⟨hk,c,hc,hcell⟩
 .exact wpAny_loadName_local I.ok.kind hk hn hm go
 .rcases hk with hk|hk
  .exact wpAny_loadName_cell I.ok.kind hk hc hcell go
  .rcases hx with k|k
   .have:X.env.scope.names.lookup x=some .free:=hk
    rw[k]at this;cases this
   .have:X.env.scope.names.lookup x=some .free:=hk
    rw[k]at this;cases this
def ipI(f:Int->Int->Int):TIp:=λx y H Q=>∃i j,x=.int i/\y=.int j/\Q (.int<|f i j) H
theorem Gj:Hn X .Add (ipI λi j=>i+j):=by
 intro pins s U H x y v u Q I r1 r2 h;obtain⟨i,j,e1,e2,q⟩:=h;subst e1;subst e2;obtain⟨t,rfl⟩:=r1;obtain⟨t',rfl⟩:=r2;exact iadd_int ⟨.int _,H,I.tok _,⟨_,rfl⟩,q⟩
end
section
variable {X:Cx}{pos:Pos}
def Ga(c:TT)(tb:TS):TS:=λD U H=>∃W:Nat->St->Hp->Prop,(∃m,W m U H)/\∀m U H,W m U H->
 c U H λb H1=>if b=true then ∃N:St->Hp->Prop,(∀σ' H',N σ' H'->∃m',m'<m/\W m' σ' H')/\tb { D with nx:=N,ct:=N,bk:=D.nx } U H1 else D.nx U H1
theorem Av{c:Expr}{body:List Stmt}{tc:TT}{tb:TS}(hp:PassesOwn (model X.prog X.w) X.A X.env X.xe)(hc:PT X c tc)(hb:rK X body tb):PS X (.While c body [] pos) (Ga tc tb):=by
 intro pins s U H D I h;obtain⟨W,⟨m0,w0⟩,turn⟩:=h;refine wpAny_While (codeAny_whileLoop (λn s'=>∃σ' H',Inv X pins σ' H' s'/\W n σ' H') ?_ m0 ⟨U,H,I,w0⟩)
 rintro n s1 ⟨σ1,H1,I1,w1⟩
 refine wpAny_passesOwn hp (bG (hc pins s1 σ1 H1 _ I1<|turn n σ1 H1 w1) λb s2 ⟨H2,I2,q2⟩=>?_);cases b with
 |true=>
  obtain⟨N,hN,q2⟩:=q2;rw[if_pos rfl];refine wpAny_passesOwn hp (bG (hb pins s2 σ1 H2 _ I2 q2) λf s3 q3=>?_);cases f with
  |next=>
   obtain⟨σ3,H3,I3,n3⟩:=q3;obtain⟨m',hm,w3⟩:=hN σ3 H3 n3;exact⟨m',hm,σ3,H3,I3,w3⟩
  |cont=>
   obtain⟨σ3,H3,I3,n3⟩:=q3;obtain⟨m',hm,w3⟩:=hN σ3 H3 n3;exact⟨m',hm,σ3,H3,I3,w3⟩
  |brk=>exact q3
  |ret v=>exact q3
 |false=>
  rw[if_neg JY];exact wpAny_execs_nil ⟨σ1,H2,I2,q2⟩
end
structure It where
 go:Nat->Hp->Prop
 yld:Nat->Hp->V->Hp->Prop
 stop:Nat->Hp->Prop
def gR(X:Cx)(pins:List (Addr×Obj))(H:Hp)(b:Addr):Prop:=
 H b=none/\b≠X.env.locals/\b∉X.fs/\(b∈X.ex\/X.s₀.heap.objs.size<=b)/\(∀x c,X.env.cells.lookup x=some c->c≠b)/\∀p∈X.pn++pins,p.1≠b
theorem Inv.fpOk{X:Cx}{pins:List (Addr×Obj)}{U:St}{H H':Hp}{s:Shared}{b:Addr}(I:Inv X pins U H s)(hb:s.heap.objs.size<=b)(hn:H' b=none):gR X pins H' b:=by
 refine⟨hn,LY (JX I.lt hb),I.nofs hb,.inr (Ki I.sz hb),λx c e z=>?_,λp hp z=>?_⟩
 .obtain⟨v,q⟩:=I.cell x c e
  exact absurd (JX q.lt<|by rw[z];exact hb) (KL _)
 .exact absurd (JX (JJ (I.pin p hp).1)<|by rw[z];exact hb) (KL _)
structure Turn(P:Program)(w:World)(K:JF)(tg:Expr)(J:It)(fp:List Addr)(it:Addr)(tn:Nat->Heap->Prop):Prop where
 mem:it∈fp
 obj:∀i h,tn i h->∀b∈fp,∃o,h.get? b=some o/\∀v,o.data≠.cell v
 keep:∀i h h',tn i h->(∀b∈fp,∀o,h.get? b=some o->h'.get? b=some o)->tn i h'
 item:∀(X:Cx),X.prog=P->X.w=w->X.K=K->X.calm=true->∀(i:Nat) (pins:List (Addr×Obj)) (s:Shared) (U:St) (H:Hp) (E:Value->Shared->Prop),Inv X pins U H s->(∀b∈fp,gR X pins H b)->tn i s.heap->J.go i H->
  wpAny (model P w) X.A (pyNext<|.ref it) (λr s1=>∃u,r=some u/\
   wpAny (model P w) X.A (letOwnedTupleGo tg (.ref it) u) (λ_ s2=>∃x H',Inv X pins U H' s2/\RelV x u/\J.yld i H x H'/\tn (i+1) s2.heap/\∀b∈fp,H' b=none) E s1) E s
 done:∀(X:Cx),X.prog=P->X.w=w->X.K=K->X.calm=true->∀(i:Nat) (pins:List (Addr×Obj)) (s:Shared) (U:St) (H:Hp) (E:Value->Shared->Prop),Inv X pins U H s->(∀b∈fp,gR X pins H b)->tn i s.heap->J.stop i H->
  wpAny (model P w) X.A (pyNext<|.ref it) (λr s1=>r=none/\Inv X pins U H s1) E s
 self:∀(A:Around) (i:Nat) (s:Shared) (Q:Value->Shared->Prop) (E:Value->Shared->Prop),tn i s.heap->Q (.ref it) s->wpAny (model P w) A (pyIter<|.ref it) Q E s
abbrev TI:=St->Hp->(It->Hp->Prop)->Prop
def PIE(X:Cx)(pins:List (Addr×Obj))(U:St)(tg:Expr)(R:It->Hp->Prop)(itv:Value)(s2:Shared):Prop:=
 ∃(it:Addr) (fp:List Addr) (tn:Nat->Heap->Prop) (J:It) (H':Hp),itv=.ref it/\Inv X pins U H' s2/\Turn X.prog X.w X.K tg J fp it tn/\tn 0 s2.heap/\(∀b∈fp,gR X pins H' b)/\R J H'
def PI(X:Cx)(tg iter:Expr)(wi:TI):Prop:=
 ∀(pins:List (Addr×Obj)) (s:Shared) (U:St) (H:Hp) (R:It->Hp->Prop),Inv X pins U H s->wi U H R->
  wpAny (model X.prog X.w) X.A (eval iter X.env) (λv s1=>wpAny (model X.prog X.w) X.A (pyIter v) (PIE X pins U tg R) X.xe s1) X.xe s
theorem vP{M:Model}{A:Around}{E:Value->Shared->Prop}{s:Shared}{tg:Expr}{it:Addr}{u:Value}{o:Obj}{n:String}{vs:Array Value}{Q:Unit->Shared->Prop}(ho:s.heap.get? it=some o)(hc:o.cls=.type n)(hd:o.data=.fields vs)
  (hn:["enumerate","zip","dict_itemiterator","dict_reverseitemiterator","odict_iterator","itertools.zip_longest","itertools.pairwise"].contains n=false) (hQ:Q () s):wpAny M A (letOwnedTupleGo tg (.ref it) u) Q E s:=by
 unfold letOwnedTupleGo
 cases tg<;>first
  |exact wpAny_pure hQ
  |(cases u<;>first
    |exact wpAny_pure hQ
    |(refine wpAny_bind (wpAny_load ho ?_)
      rw[hc,hd];show wpAny M A (if (["enumerate","zip","dict_itemiterator","dict_reverseitemiterator","odict_iterator","itertools.zip_longest","itertools.pairwise"].contains n&&vs[0]?==some (rawInt _))=true then _ else _) Q E s
      rw[if_neg (by intro h;rw[hn,Ku]at h;cases h)]
      exact wpAny_pure hQ))
def Itl(K:JF)(a:Addr):It:=
 ⟨λi H=>∃xs x,SqL K H a xs/\xs[i]?=some x,λi H x H'=>H'=H/\∀xs,SqL K H a xs->xs[i]?=some x,λi H=>∃xs,SqL K H a xs/\xs.length<=i⟩
def Itt(K:JF)(a:Addr):It:=
 ⟨λi H=>∃xs x,gL K H a xs/\xs[i]?=some x,λi H x H'=>H'=H/\∀xs,gL K H a xs->xs[i]?=some x,λi H=>∃xs,gL K H a xs/\xs.length<=i⟩
def Itr(lo:Int)(n:Nat):It:=⟨λi _=>i<n,λi H x H'=>H'=H/\x=.int (lo+i),λi _=>n<=i⟩
theorem wS{P:Program}{w:World}{K:JF}{tg:Expr}(a it:Addr):Turn P w K tg (Itl K a) [it] it (λi h=>h.IsListIter it a i) where
 mem:=by simp
 obj:=λi h st b hb=>by
  have e:b=it:=by simpa using hb
  subst e;obtain⟨o,e,c,d⟩:=st;exact⟨o,e,λv z=>by rw[d]at z;cases z⟩
 keep:=λi h h' st k=>st.at λo e=>k it (by simp) o e
 item:=by
  intro X hP hw hK hc i pins s U H E I hf st hg;subst hP hw hK;obtain⟨xs,x,hq,hx⟩:=hg;obtain⟨its,rv,p,hz⟩:=I.list hq;obtain⟨u,hu,ru⟩:=rv.get hx;obtain⟨f0,f1,f2,f3,f4,f5⟩:=hf it (by simp)
  refine wpAny_pyNext_list_item st p.isList (x:=u) (by simpa using hu) λh' st' sb=>?_
  have I1:Inv X pins U H { s with heap:=h' }:=I.turned (t':=s.toks) (λb o hb e=>(sb.2 b hb).trans e) f0 f1 f3 f4 f5;obtain⟨o,e,c,d⟩:=id st';exact⟨u,rfl,vP (s:={ s with heap:=h' }) e c d (by decide) ⟨x,H,I1,ru,⟨rfl,λys hy=>by rw[I.list_inj hy hq];exact hx⟩,st',λb hb=>(hf b hb).1⟩⟩
 done:=by
  intro X hP hw hK hc i pins s U H E I hf st hg;subst hP hw hK;obtain⟨xs,hq,hx⟩:=hg;obtain⟨its,rv,p,hz⟩:=I.list hq;obtain⟨f0,f1,f2,f3,f4,f5⟩:=hf it (by simp)
  have hl:=rv.length;exact wpAny_pyNext_list_end (I.ok.hd hc) st p.isList (by simp;lia) λh' eb=>⟨rfl,I.turned (t':=s.toks) (λb o hb e=>eb b o hb e) f0 f1 f3 f4 f5⟩
 self:=λ_ _ _ _ _ st h=>wpAny_pyIter_listiter st h
theorem sf{P:Program}{w:World}{K:JF}{tg:Expr}(a it:Addr):Turn P w K tg (Itt K a) [it] it (λi h=>h.IsTupleIter it a i) where
 mem:=by simp
 obj:=λi h st b hb=>by
  have e:b=it:=by simpa using hb
  subst e;obtain⟨o,e,c,d⟩:=st;exact⟨o,e,λv z=>by rw[d]at z;cases z⟩
 keep:=λi h h' st k=>st.at λo e=>k it (by simp) o e
 item:=by
  intro X hP hw hK hc i pins s U H E I hf st hg;subst hP hw hK;obtain⟨xs,x,hq,hx⟩:=hg;obtain⟨its,rv,p,hz⟩:=I.tuple hq;obtain⟨u,hu,ru⟩:=rv.get hx;obtain⟨f0,f1,f2,f3,f4,f5⟩:=hf it (by simp)
  refine wpAny_pyNext_tuple_item st (show s.heap.IsTuple a its.toArray from p) (x:=u) (by simpa using hu) λh' st' sb=>?_
  have I1:Inv X pins U H { s with heap:=h' }:=I.turned (t':=s.toks) (λb o hb e=>(sb.2 b hb).trans e) f0 f1 f3 f4 f5;obtain⟨o,e,c,d⟩:=id st';exact⟨u,rfl,vP (s:={ s with heap:=h' }) e c d (by decide) ⟨x,H,I1,ru,⟨rfl,λys hy=>by rw[I.tuple_inj hy hq];exact hx⟩,st',λb hb=>(hf b hb).1⟩⟩
 done:=by
  intro X hP hw hK hc i pins s U H E I hf st hg;subst hP hw hK;obtain⟨xs,hq,hx⟩:=hg;obtain⟨its,rv,p,hz⟩:=I.tuple hq;obtain⟨f0,f1,f2,f3,f4,f5⟩:=hf it (by simp)
  have hl:=rv.length;exact wpAny_pyNext_tuple_end (I.ok.hd hc) st (show s.heap.IsTuple a its.toArray from p) (by simp;lia) λh' eb=>⟨rfl,I.turned (t':=s.toks) (λb o hb e=>eb b o hb e) f0 f1 f3 f4 f5⟩
 self:=λ_ _ _ _ _ st h=>wpAny_pyIter_tupleiter st h
theorem sj{P:Program}{w:World}{K:JF}{tg:Expr}(it:Addr)(lo:Int)(n:Nat):Turn P w K tg (Itr lo n) [it] it (λi h=>IsRangeIter h it (lo+(i:Nat)*1) ((n:Int)-(i:Nat)) 1) where
 mem:=by simp
 obj:=λi h st b hb=>by
  have e:b=it:=by simpa using hb
  subst e;exact⟨_,st,λv z=>by
   have z':Data.fields _=Data.cell v:=z;cases z'⟩
 keep:=λi h h' st k=>k it (by simp) _ st
 item:=by
  intro X hP hw hK hc i pins s U H E I hf st hg;subst hP hw hK;obtain⟨f0,f1,f2,f3,f4,f5⟩:=hf it (by simp)
  have W:=Walks.range (prog:=X.prog) (w:=X.w) (I.ok.hd hc) it lo 1 n;refine W.item i s _ _ hg st λv h' tk hv st' kk=>?_;obtain⟨t,rfl⟩:=hv;have I1:Inv X pins U H { s with heap:=h',toks:=tk }:=I.turned (λb o hb e=>kk b o (by simpa using hb) e) f0 f1 f3 f4 f5
  refine⟨_,rfl,vP (s:={ s with heap:=h',toks:=tk }) (n:="range_iterator") st' rfl rfl (by decide) ⟨.int (lo+i),H,I1,⟨t,?_⟩,⟨rfl,rfl⟩,st',λb hb=>(hf b hb).1⟩⟩
  rw[Int.mul_one]
 done:=by
  intro X hP hw hK hc i pins s U H E I hf st hg;subst hP hw hK;obtain⟨f0,f1,f2,f3,f4,f5⟩:=hf it (by simp)
  exact wpAny_pyNext_range_end (I.ok.hd hc) st (by have:n<=i:=hg;lia) λh' eb=>⟨rfl,I.turned (t':=s.toks) (λb o hb e=>eb b o hb e) f0 f1 f3 f4 f5⟩
 self:=λ_ _ _ _ _ st h=>wpAny_pyIter_rangeiter st h
section
variable {X:Cx}{tg:Expr}
theorem zS{pins:List (Addr×Obj)}{U:St}{H:Hp}{s:Shared}{R:It->Hp->Prop}{E:Value->Shared->Prop}{lo hi:Int}{t u v:Tok}{tk:Nat}(I:Inv X pins U H s)(h1:-(2 ^ 62)<=lo)(h2:lo<2 ^ 62)(h3:-(2 ^ 62)<=hi)(h4:hi<2 ^ 62)
  (q:R (Itr lo (hi-lo).toNat) H):wpAny (model X.prog X.w) X.A (pyIter<|.ref s.heap.objs.size) (PIE X pins U tg R) E { s with heap:=s.heap.push { cls:=.type "range",data:=.fields #[.int lo t,.int hi u,.int 1 v] },toks:=tk }:=by
 refine wpAny_pyIter_range (IsRange.new ..) (small_one h1 h2 h3 h4) ?_;have I1:Inv X pins U H { s with heap:=s.heap.push { cls:=.type "range",data:=.fields #[.int lo t,.int hi u,.int 1 v] },toks:=tk }:=I.kept λb o e=>JB _ e;refine⟨(s.heap.push { cls:=.type "range",data:=.fields #[.int lo t,.int hi u,.int 1 v] }).objs.size,[(s.heap.push { cls:=.type "range",data:=.fields #[.int lo t,.int hi u,.int 1 v] }).objs.size],_,_,H,rfl,
  I1.kept (t':=tk) λb o e=>JB _ e,sj _ lo (hi-lo).toNat,?_,λb hb=>?_,q⟩
 .have e1:lo+((0:Nat):Int)*1=lo:=by simp
  have e2:(((hi-lo).toNat:Nat):Int)-((0:Nat):Int)=Builtin.Range.rangeSize lo hi 1:=by rw[rangeSize_one];split<;>lia
  show IsRangeIter _ _ (lo+((0:Nat):Int)*1) ((((hi-lo).toNat:Nat):Int)-((0:Nat):Int)) 1;rw[e1,e2];exact JH _ rfl
 .have e:b=(s.heap.push { cls:=.type "range",data:=.fields #[.int lo t,.int hi u,.int 1 v] }).objs.size:=by simpa using hb
  subst e;exact I1.fpOk (JE _) (I1.hok.fresh<|JE _)
def Ih(ta:TA):TI:=λU H R=>ta U H λvs H1=>∃j:Int,vs=[.int j]/\-(2 ^ 62)<=j/\j<2 ^ 62/\R (Itr 0 j.toNat) H1
theorem xY{a:Expr}{ta:TA}{p pos:Pos}(hg:Gl X "range")(hm:X.mg "range"=none)(ha:PA X [a] ta)(hs:starEach [a] X.env=[(false,eval a X.env)]:=by rfl):PI X tg (.Call (.Name "range" p) [a] [] pos) (Ih ta):=by
 intro pins s U H R I h;refine Call_ (dS I hg hm boot_range<|KI (bG (ha pos pins s U H _ I h) λus s1 ⟨vs,H1,I1,r1,q1⟩=>?_) hs rfl);obtain⟨j,e,q1,q2,q⟩:=q1;subst e;cases r1 with
 |cons r rr=>
  cases rr;obtain⟨t,rfl⟩:=r;exact call_range_1 (zS I1 (by lia) (by lia) q1 q2<|by simpa using q)
def tFor(wi:TI)(g:TG)(tb:TS):TS:=λD U H=>wi U H λJ H1=>∃W:Nat->Nat->St->Hp->Prop,(∃m,W 0 m U H1)/\∀i m U H,W i m U H->
 (J.stop i H/\D.nx U H)\/(J.go i H/\∃N:St->Hp->Prop,(∀σ' H',N σ' H'->∃m',m'<m/\W (i+1) m' σ' H')/\∀x H',J.yld i H x H'->g x U H' λσ2 H2=>tb { D with nx:=N,ct:=N,bk:=D.nx } σ2 H2)
def ko(fp:List Addr)(h:Heap):List (Addr×Obj):=fp.filterMap λb=>(h.get? b).map λo=>(b,o)
theorem dR{fp:List Addr}{h:Heap}{b:Addr}{o:Obj}(hb:b∈fp)(e:h.get? b=some o):(b,o)∈ko fp h:=Pr.mpr ⟨b,hb,by rw[e];rfl⟩
theorem wG{fp:List Addr}{h:Heap}{p:Addr×Obj}(hp:p∈ko fp h):p.1∈fp/\h.get? p.1=some p.2:=by
 obtain⟨b,hb,e⟩:=Pr.mp hp;cases q:h.get? b with
 |none=>rw[q]at e;cases e
 |some o=>
  rw[q]at e;have e':(b,o)=p:=Kl e;subst e';exact⟨hb,q⟩
theorem Inv.pinned{pins:List (Addr×Obj)}{U:St}{H:Hp}{s:Shared}{fp:List Addr}(I:Inv X pins U H s)(hf:∀b∈fp,gR X pins H b)(ho:∀b∈fp,∃o,s.heap.get? b=some o/\∀v,o.data≠.cell v):Inv X (pins++ko fp s.heap) U H s:=
 I.pins_of λp hp=>(JW.mp hp).elim (λz=>I.pin p (Ka _ z)) λz=>by
  obtain⟨hb,e⟩:=wG z;obtain⟨f0,f1,f2,_⟩:=hf p.1 hb;obtain⟨o,e',d⟩:=ho p.1 hb;rw[e]at e';cases e';exact⟨e,f0,f1,f2,d⟩
theorem Inv.unpinned{pins pl:List (Addr×Obj)}{U:St}{H:Hp}{s:Shared}(I:Inv X (pins++pl) U H s):Inv X pins U H s:=I.pins_of λp hp=>I.pin p (Ka _<|Ld _ hp)
theorem FD{iter:Expr}{body:List Stmt}{wi:TI}{g:TG}{tb:TS}{pos:Pos}(hp:PassesOwn (model X.prog X.w) X.A X.env X.xe)(hc:X.calm=true)(hi:PI X tg iter wi)(hg:PG X tg g)(hb:rK X body tb)
  (hs:∀x,foldedSetIterable iter X.env x=pure x:=by intro _;rfl):PS X (.For tg iter body [] pos) (tFor wi g tb):=by
 intro pins s U H D I h;refine wpAny_For (bG (hi pins s U H _ I h) λv s1 h1=>bG h1 λitv s2 h2=>?_) hs;obtain⟨it,fp,tn,J,H2,e,I2,T,st2,f2,W,⟨m0,w0⟩,turn⟩:=h2;subst e
 -- what stays true of the iterator's objects through the loop
 have stat:∀{H':Hp},(∀b∈fp,H' b=none)->∀b∈fp,gR X pins H' b:=λhn b hb=>⟨hn b hb,(f2 b hb).2⟩;refine codeAny_forLoop_any (λn s'=>∃i σ' H',Inv X pins σ' H' s'/\tn i s'.heap/\(∀b∈fp,H' b=none)/\W i n σ' H') ?_ m0 ⟨0,U,H2,I2,st2,λb hb=>(f2 b hb).1,w0⟩
 rintro n s3 ⟨i,σ3,H3,I3,st3,fr3,w3⟩
 rcases turn i n σ3 H3 w3 with⟨stop,qn⟩|⟨go,N,hN,step⟩
 .refine wpAny_passesOwn hp (bG (T.done X rfl rfl rfl hc i pins s3 σ3 H3 X.xe I3 (stat fr3) st3 stop) λr s4 ⟨hr,I4⟩=>?_)
  subst hr;exact wpAny_execs_nil ⟨σ3,H3,I4,qn⟩
 .refine wpAny_passesOwn hp (bG (T.item X rfl rfl rfl hc i pins s3 σ3 H3 X.xe I3 (stat fr3) st3 go) λr s4 ⟨u,hr,h4⟩=>?_)
  subst hr;refine wpAny_passesOwn hp (bG h4 λ_ s5 ⟨x,H5,I5,r5,y5,st5,fr5⟩=>?_);have I5':=I5.pinned (stat fr5) (T.obj _ _ st5);refine wpAny_passesOwn hp (bG (hg _ s5 σ3 H5 x u _ I5' r5<|step x H5 y5) λ_ s6 ⟨σ6,H6,I6,q6⟩=>?_);refine wpAny_passesOwn hp (bG (hb _ s6 σ6 H6 _ I6 q6) λf s7 q7=>?_);have again:∀{σ7:St} {H7:Hp},Inv X (pins++ko fp s5.heap) σ7 H7 s7->N σ7 H7->∃m,m<n/\∃i σ' H',Inv X pins σ' H' s7/\tn i s7.heap/\(∀b∈fp,H' b=none)/\W i m σ' H':=λ{σ7 H7} I7 n7=>by
   obtain⟨m',hm,w7⟩:=hN σ7 H7 n7;refine⟨m',hm,i+1,σ7,H7,I7.unpinned,T.keep _ _ _ st5 λb hb o e=>(I7.pin (b,o)<|Ka _<|Ka _<|dR hb e).1,λb hb=>?_,w7⟩;obtain⟨o,e,d⟩:=T.obj _ _ st5 b hb;exact(I7.pin (b,o)<|Ka _<|Ka _<|dR hb e).2.1
  cases f with
  |next=>obtain⟨σ7,H7,I7,n7⟩:=q7;exact again I7 n7
  |cont=>obtain⟨σ7,H7,I7,n7⟩:=q7;exact again I7 n7
  |brk=>obtain⟨σ7,H7,I7,q7⟩:=q7;exact⟨σ7,H7,I7.unpinned,q7⟩
  |ret v=>obtain⟨x7,σ7,H7,I7,r7,q7⟩:=q7;exact⟨x7,σ7,H7,I7.unpinned,r7,q7⟩
end
abbrev R2:=V->V->Hp->VK->Prop
def ce(X:Cx)(f:Value->Value->Sem Value)(r:R2):Prop:=
 ∀(pins:List (Addr×Obj)) (s:Shared) (U:St) (H:Hp) (x y:V) (v u:Value) (Q:VK),Inv X pins U H s->RelV x v->RelV y u->r x y H Q->
  wpAny (model X.prog X.w) X.A (f v u) (EP X pins U Q) X.xe s
def bz(X:Cx)(f:Value)(r:List V->Hp->VK->Prop):Prop:=
 ∀(pins:List (Addr×Obj)) (s:Shared) (U:St) (H:Hp) (xs:List V) (us:List Value) (Q:VK),Inv X pins U H s->Vals xs us->r xs H Q->
  wpAny (model X.prog X.w) X.A (call f us) (EP X pins U Q) X.xe s
def TruR(X:Cx)(r:V->Hp->(Bool->Hp->Prop)->Prop):Prop:=
 ∀(pins:List (Addr×Obj)) (s:Shared) (U:St) (H:Hp) (x:V) (v:Value) (Q:Bool->Hp->Prop),Inv X pins U H s->RelV x v->r x H Q->
  wpAny (model X.prog X.w) X.A (truthy v) (TP X pins U Q) X.xe s
def Jc(r:R2)(ta tb:TE):TE:=λU H Q=>ta U H λx H1=>tb U H1 λy H2=>r x y H2 Q
def rI(C:Int->Int->Prop)(g:Int->Int->V):R2:=λx y H Q=>∃i j,x=.int i/\y=.int j/\C i j/\Q (g i j) H
def Ck(g:Int->Int->V):R2:=λx y H Q=>∃i j,x=.int i/\y=.int j/\Q (g i j) H
section
variable {X:Cx}{a b c:Expr}{ta tb tc:TE}{pos:Pos}
theorem GD(ha:PE X a ta)(hb:PE X b tb){pins:List (Addr×Obj)}{s:Shared}{U:St}{H:Hp}{R:V->V->Hp->Prop}(I:Inv X pins U H s)
  (h:ta U H λx H1=>tb U H1 λy H2=>R x y H2) {Q:Value->Shared->Prop} {f:Value->Value->Sem Value}
  (hf:∀v u s2 x y H2,Inv X pins U H2 s2->RelV x v->RelV y u->R x y H2->wpAny (model X.prog X.w) X.A (f v u) Q X.xe s2):
  wpAny (model X.prog X.w) X.A (eval a X.env) (λv s₁=>wpAny (model X.prog X.w) X.A (eval b X.env) (λu s₂=>wpAny (model X.prog X.w) X.A (f v u) Q X.xe s₂) X.xe s₁) X.xe s:=by
 refine bG (ha pins s U H _ I h) λv s1 ⟨x,H1,I1,r1,q1⟩=>?_;refine bG (hb pins s1 U H1 _ I1 q1) λu s2 ⟨y,H2,I2,r2,q2⟩=>?_;exact hf v u s2 x y H2 I2 r1 r2 q2
theorem Ig{op:Operator}{r:R2}(ho:ce X (binaryOp op) r)(ha:PE X a ta)(hb:PE X b tb):PE X (.BinOp a op b pos) (Jc r ta tb):=by
 intro pins s U H Q I h;exact wpAny_BinOp (GD ha hb I h λv u s2 x y H2 I2 rx ry q=>ho pins s2 U H2 x y v u Q I2 rx ry q)
theorem opI{f:Value->Value->Sem Value}{C:Int->Int->Prop}{g:Int->Int->Int}
  (rule:∀(i j:Int) (t u:Tok) (s:Shared) (Q:Value->Shared->Prop) (E:Value->Shared->Prop),C i j->Q (.int (g i j) s.toks) { s with toks:=s.toks+1 }->wpAny (model X.prog X.w) X.A (f (.int i t)<|.int j u) Q E s):
  ce X f (rI C λi j=>.int (g i j)):=by
 intro pins s U H x y v u Q I rx ry h;obtain⟨i,j,rfl,rfl,hc,q⟩:=h;obtain⟨t,rfl⟩:=rx;obtain⟨t',rfl⟩:=ry;exact rule i j t t' s _ _ hc ⟨.int (g i j),H,I.tok _,⟨_,rfl⟩,q⟩
theorem FE{f:Value->Value->Sem Value}{g:Int->Int->Int}
  (rule:∀(i j:Int) (t u:Tok) (s:Shared) (Q:Value->Shared->Prop) (E:Value->Shared->Prop),Q (.int (g i j) s.toks) { s with toks:=s.toks+1 }->wpAny (model X.prog X.w) X.A (f (.int i t)<|.int j u) Q E s):
  ce X f (Ck λi j=>.int (g i j)):=by
 intro pins s U H x y v u Q I rx ry h;obtain⟨i,j,rfl,rfl,q⟩:=h;obtain⟨t,rfl⟩:=rx;obtain⟨t',rfl⟩:=ry;exact rule i j t t' s _ _ ⟨.int (g i j),H,I.tok _,⟨_,rfl⟩,q⟩
theorem GN{f:Value->Value->Sem Value}{g:Int->Int->Bool}
  (rule:∀(i j:Int) (t u:Tok) (s:Shared) (Q:Value->Shared->Prop) (E:Value->Shared->Prop),Q (.bool<|g i j) s->wpAny (model X.prog X.w) X.A (f (.int i t)<|.int j u) Q E s):
  ce X f (Ck λi j=>.bl (g i j)):=by
 intro pins s U H x y v u Q I rx ry h;obtain⟨i,j,rfl,rfl,q⟩:=h;obtain⟨t,rfl⟩:=rx;obtain⟨t',rfl⟩:=ry;exact rule i j t t' s _ _ ⟨.bl (g i j),H,I,rfl,q⟩
def Ju(i j:Int):Prop:=0<=j/\j<=1000000/\i.natAbs<2 ^ 64
def CMul(i j:Int):Prop:=(-(2 ^ 64)<i/\i<2 ^ 64)\/(-(2 ^ 64)<j/\j<2 ^ 64)
theorem CMul.ok{i j:Int}(h:CMul i j):IntMulOk i j:=by
 rcases h with⟨h1,h2⟩|⟨h1,h2⟩
 .exact .of_left (intBits_le_64 h1 h2)
 .exact .of_right (intBits_le_64 h1 h2)
theorem Gp:ce X (binaryOp .Add) (Ck λi j=>.int (i+j)):=FE λ_ _ _ _ _ _ _ q=>add_int q
theorem Gv:ce X (binaryOp .Sub) (Ck λi j=>.int (i-j)):=FE λ_ _ _ _ _ _ _ q=>sub_int q
theorem ER:ce X (binaryOp .Mult) (rI CMul λi j=>.int (i*j)):=opI λ_ _ _ _ _ _ _ hc q=>mul_int q hc.ok
theorem EI:ce X (binaryOp .Mod) (rI (λ_ j=>0<j) λi j=>.int (i % j)):=opI λi j _ _ _ _ _ hc q=>by
 have h1:(0:Int)<j:=hc;exact mod_int' (by lia) (by rw[Int.fmod_eq_emod_of_nonneg i (by lia)];exact q)
theorem G2:ce X (binaryOp .Pow) (rI Ju λi j=>.int (i ^ j.toNat)):=opI λ_ _ _ _ _ _ _ hc q=>pow_int_small hc.1 hc.2.1 hc.2.2 q
theorem Fc:ce X (binaryOp .BitXor) (Ck λi j=>.int (Builtin.bitXor i j)):=FE λ_ _ _ _ _ _ _ q=>xor_int q
end
section
variable {X:Cx}{a b c:Expr}{ta tb tc:TE}{pos:Pos}
theorem rS{pins:List (Addr×Obj)}{U:St}{H:Hp}{s:Shared}{Q:VK}{k k':Bool}(I:Inv X pins U H s)(q:Q (.bl k) H)(e:k=k'):EP X pins U Q (.bool k') s:=by
 subst e;exact⟨.bl k,H,I,rfl,q⟩
theorem HI:ce X (compareOp .Lt) (Ck λi j=>.bl (decide (i<j))):=GN λ_ _ _ _ _ _ _ q=>lt_int q
theorem IA:ce X (compareOp .LtE) (Ck λi j=>.bl (decide (i<=j))):=GN λ_ _ _ _ _ _ _ q=>le_int q
theorem HC:ce X (compareOp .Gt) (Ck λi j=>.bl (decide (j<i))):=GN λ_ _ _ _ _ _ _ q=>gt_int q
theorem FU:ce X (compareOp .Is) (λx y H Q=>y=.non/\Q (.bl<|decide (x=.non)) H):=by
 intro pins s U H x y v u Q I rx ry h;obtain⟨rfl,q⟩:=h;cases ry;refine is_none_gen (rS I q ?_)
 cases x<;>first
  |(cases rx;rfl)
  |(obtain⟨t,rfl⟩:=rx;rfl)
theorem CS:ce X (compareOp .IsNot) (λx y H Q=>y=.non/\Q (.bl<|!decide (x=.non)) H):=by
 intro pins s U H x y v u Q I rx ry h;obtain⟨rfl,q⟩:=h;cases ry;refine isnot_none_gen (rS I q ?_)
 cases x<;>first
  |(cases rx;rfl)
  |(obtain⟨t,rfl⟩:=rx;rfl)
theorem CY{op:CmpOp}{r:R2}(ho:ce X (compareOp op) r)(ha:PE X a ta)(hb:PE X b tb)(hm:behindInMarks op b=false):PE X (.Compare a [op] [b] pos) (Jc r ta tb):=by
 intro pins s U H Q I h;exact wpAny_Compare1 (GD ha hb I h λv u s2 x y H2 I2 rx ry q=>ho pins s2 U H2 x y v u Q I2 rx ry q) hm
def DF(t:TE):TT:=λU H Q=>t U H λx H'=>∃k,x=.bl k/\Q k H'
theorem BY{op:CmpOp}{r:R2}(ho:ce X (compareOp op) r)(ha:PE X a ta)(hb:PE X b tb)(hm:behindInMarks op b=false):PT X (.Compare a [op] [b] pos) (DF<|Jc r ta tb):=by
 intro pins s U H Q I h;refine wpAny_isTrue_Compare1 (bG (ha pins s U H _ I h) λv s1 ⟨x,H1,I1,r1,q1⟩=>bG (hb pins s1 U H1 _ I1 q1) λu s2 ⟨y,H2,I2,r2,q2⟩=>
  bG (ho pins s2 U H2 x y v u _ I2 r1 r2 q2) λc s3 ⟨z,H3,I3,r3,k,e,q3⟩=>?_) hm
 subst e;cases r3;exact wpAny_truthy_bool ⟨H3,I3,q3⟩
def qZ(r r':R2)(ta tb tc:TE):TE:=λU H Q=>ta U H λx H1=>tb U H1 λy H2=>r x y H2 λz H3=>∃k,z=.bl k/\
 (if k=true then tc U H3 λw' H4=>r' y w' H4 Q else Q (.bl false) H3)
theorem Ac{op op':CmpOp}{r r':R2}(ho:ce X (compareOp op) r)(ho':ce X (compareOp op') r')(ha:PE X a ta)(hb:PE X b tb)(hc:PE X c tc)
  (hm:lastMarks [op,op'] [b,c]=false:=by with_unfolding_all rfl):PE X (.Compare a [op,op'] [b,c] pos) (qZ r r' ta tb tc):=by
 intro pins s U H Q I h;refine Compare_chain (bG (ha pins s U H _ I h) λv s1 ⟨x,H1,I1,r1,q1⟩=>chain_link (bG (hb pins s1 U H1 _ I1 q1) λu s2 ⟨y,H2,I2,r2,q2⟩=>
  bG (ho pins s2 U H2 x y v u _ I2 r1 r2 q2) λd s3 ⟨z,H3,I3,r3,k,e,q3⟩=>?_)) hm
 subst e;cases r3;refine wpAny_truthy_bool ?_;cases k with
 |false=>exact ite_ff ⟨.bl false,H3,I3,rfl,q3⟩
 |true=>exact ite_tt (chain_last (bG (hc pins s3 U H3 _ I3 q3) λw' s4 ⟨z',H4,I4,r4,q4⟩=>ho' pins s4 U H4 y z' u w' Q I4 r2 r4 q4))
theorem zA{op op':CmpOp}{r r':R2}(ho:ce X (compareOp op) r)(ho':ce X (compareOp op') r')(ha:PE X a ta)(hb:PE X b tb)(hc:PE X c tc)
  (hm:lastMarks [op,op'] [b,c]=false:=by with_unfolding_all rfl):PT X (.Compare a [op,op'] [b,c] pos) (DF<|qZ r r' ta tb tc):=by
 intro pins s U H Q I h;refine isTrue_chain (bG (ha pins s U H _ I h) λv s1 ⟨x,H1,I1,r1,q1⟩=>test_link (bG (hb pins s1 U H1 _ I1 q1) λu s2 ⟨y,H2,I2,r2,q2⟩=>
  bG (ho pins s2 U H2 x y v u _ I2 r1 r2 q2) λd s3 ⟨z,H3,I3,r3,k,e,q3⟩=>?_)) hm
 subst e;cases r3;refine wpAny_truthy_bool ?_;cases k with
 |false=>
  obtain⟨k',e',q'⟩:=q3;cases e';exact ite_ff ⟨H3,I3,q'⟩
 |true=>
  refine ite_tt (test_last (bG (hc pins s3 U H3 _ I3 q3) λw' s4 ⟨z',H4,I4,r4,q4⟩=>bG (ho' pins s4 U H4 y z' u w' _ I4 r2 r4 q4) λd' s5 ⟨z2,H5,I5,r5,k2,e2,q5⟩=>?_));subst e2;cases r5;exact wpAny_truthy_bool ⟨H5,I5,q5⟩
def G5(K:JF)(x:V)(H:Hp)(k:Bool):Prop:=
 match x with
 |.non=>k=false
 |.bl b=>k=b
 |.int i=>k=(i != 0)
 |.str y=>y.length<=sizeLine/\k=((y.length:Int) != 0)
 |.byt y=>y.size<=sizeLine/\k=((y.size:Int) != 0)
 |.ref p=>(∃xs,SqL K H p xs/\k=!xs.isEmpty)\/(∃xs,gL K H p xs/\k=!xs.isEmpty)\/∃kvs,H p=some (.dK kvs)/\k=!kvs.isEmpty
 |_=>False
theorem rl{κ:Type}{kvs:List (κ×V)}{vs:List (κ×Value)}(r:KV kvs vs):(!vs.isEmpty)=!kvs.isEmpty:=by
 cases r<;>rfl
theorem jG{xs:List V}{its:List Value}(r:Vals xs its):(!its.toArray.isEmpty)=!xs.isEmpty:=by
 cases r<;>simp
theorem fV:(sizeLine:Nat)<2 ^ 63:=by rw[sizeLine_eq];decide
theorem Fr:TruR X (λx H Q=>∃k,G5 X.K x H k/\Q k H):=by
 intro pins s U H x v Q I rx h;obtain⟨k,e,q⟩:=h;have hl:=fV;have hs:sizeLine=16777216:=sizeLine_eq;cases x with
 |non=>
  cases rx;have e':k=false:=e;subst e';exact truthy_none ⟨H,I,q⟩
 |bl b=>
  cases rx;have e':k=b:=e;subst e';exact wpAny_truthy_bool ⟨H,I,q⟩
 |int i=>
  obtain⟨t,rfl⟩:=rx;have e':k=(i != 0):=e;subst e';exact PySem.P.truthy_int ⟨H,I,q⟩
 |str y=>
  obtain⟨t,rfl⟩:=rx;obtain⟨hy,e'⟩:y.length<=sizeLine/\k=((y.length:Int) != 0):=e;subst e';exact PySem.P.truthy_str (by lia) ⟨H,I.tok _,q⟩
 |byt y=>
  obtain⟨t,rfl⟩:=rx;obtain⟨hy,e'⟩:y.size<=sizeLine/\k=((y.size:Int) != 0):=e;subst e';exact W.truthy_bytes (by lia) ⟨H,I.tok _,q⟩
 |ref p=>
  cases rx;have e':(∃xs,SqL X.K H p xs/\k=!xs.isEmpty)\/(∃xs,gL X.K H p xs/\k=!xs.isEmpty)\/∃kvs,H p=some (.dK kvs)/\k=!kvs.isEmpty:=e;rcases e' with⟨xs,hx,e'⟩|⟨xs,hx,e'⟩|⟨kvs,hx,e'⟩
  .subst e'
   obtain⟨its,r,pl,hz⟩:=I.list hx;have hlen:=r.length;exact wpAny_truthy_list pl.isList (by simp only[JI];lia) ⟨H,I.tok _,by rw[jG r];exact q⟩
  .subst e'
   obtain⟨its,r,pl,hz⟩:=I.tuple hx;have hlen:=r.length;exact truthy_tuple pl (by simp only[JI];lia) ⟨H,I.tok _,by rw[jG r];exact q⟩
  .subst e'
   obtain⟨hz,hS,vs,r,m⟩:kvs.length<=sizeLine/\(p==sysModules)=false/\∃vs,KV kvs vs/\s.heap.DictOf (a_ X.prog X.w) p vs:=I.hok p _ hx;have hlen:kvs.length=vs.length:=LF r;exact wpAny_truthy_dict hS m (by lia) ⟨H,I.tok _,by rw[rl r];exact q⟩
 |_=>exact(show False from e).elim
theorem yH(ha:PE X a ta)(he:∀whole,isTrue a X.env whole=(do let v <- whole;standAt a.pos;holding [v] (truthy v))):
  PT X a (λU H Q=>ta U H λx H'=>∃k,G5 X.K x H' k/\Q k H'):=by
 intro pins s U H Q I h;exact isTrue_plain (bG (ha pins s U H _ I h) λv s1 ⟨x,H1,I1,r1,q1⟩=>Fr pins s1 U H1 x v Q I1 r1 q1) (he _)
theorem sk:ce X (binaryOp .Add) (λx y H Q=>∃i j,x=.str i/\y=.str j/\i.length+j.length<=sizeLine/\Q (.str (i++j)) H):=by
 intro pins s U H x y v u Q I rx ry h;obtain⟨i,j,rfl,rfl,hz,q⟩:=h;obtain⟨t,rfl⟩:=rx;obtain⟨t',rfl⟩:=ry;exact add_str (λt' tk=>⟨.str (i++j),H,I.tok _,⟨_,rfl⟩,q⟩) hz
theorem fG{x:V}{us:List Value}(r:Vals [x] us):∃u,us=[u]/\RelV x u:=by
 cases r with
 |cons r1 r2=>cases r2;exact⟨_,rfl,r1⟩
theorem Dz{x y:V}{us:List Value}(r:Vals [x,y] us):∃u w',us=[u,w']/\RelV x u/\RelV y w':=by
 cases r with
 |cons r1 r2=>
  cases r2 with
  |cons r3 r4=>cases r4;exact⟨_,_,rfl,r1,r3⟩
theorem wB(hc:X.calm=true):bz X (.builtin "max") (λxs H Q=>∃i j,xs=[.int i,.int j]/\Q (.int (if j>i then j else i)) H):=by
 intro pins s U H xs us Q I r h;obtain⟨i,j,rfl,q⟩:=h;obtain⟨u,w',rfl,⟨t,rfl⟩,⟨t',rfl⟩⟩:=Dz r;refine max_two_ints (I.ok.hd hc) λh' tk k=>⟨_,H,I.kept k,?_,q⟩
 by_cases hj:j>i
 .rw[if_pos hj,if_pos hj];exact⟨_,rfl⟩
 .rw[if_neg hj,if_neg hj];exact⟨_,rfl⟩
theorem wX(hc:X.calm=true):bz X (.builtin "min") (λxs H Q=>∃i j,xs=[.int i,.int j]/\Q (.int (if j<i then j else i)) H):=by
 intro pins s U H xs us Q I r h;obtain⟨i,j,rfl,q⟩:=h;obtain⟨u,w',rfl,⟨t,rfl⟩,⟨t',rfl⟩⟩:=Dz r;refine min_two_ints (I.ok.hd hc) λh' tk k=>⟨_,H,I.kept k,?_,q⟩
 by_cases hj:j<i
 .rw[if_pos hj,if_pos hj];exact⟨_,rfl⟩
 .rw[if_neg hj,if_neg hj];exact⟨_,rfl⟩
end
structure ObjM(h:Heap)(x dx C:Addr)(mA:Str->Option Value):Prop where
 obj:h.get? x=some (MG C dx)
 ns:h.Ns1 dx mA
 ne:dx≠x
theorem xU{h:Heap}{dx:Addr}{mA:Str->Option Value}(n:h.Ns1 dx mA):∃od,h.get? dx=some od/\∀name,W.lookIn name od=some (mA name):=by
 obtain⟨o,es,ep,ho,hd,hk,_,hm⟩:=n;refine⟨o,ho,λname=>?_⟩;have e:=hm name;unfold nsFind findBy at e;rw[<- Array.find?_toList]at e;unfold W.lookIn;rw[hd];dsimp only
 split
 .rename_i y q
  rw[q]at e;exact congrArg some e
 .rename_i q
  rw[q]at e;have a:es.toList.any (·.refKey)=false:=by
   rw[List.any_eq_false];intro y hy;obtain⟨z,t,hkey⟩:=hk y (Array.mem_toList_iff.mp hy);simp[DictEntry.refKey,hkey]
  have a':¬es.toList.any (·.refKey)=true:=by rw[a];exact JY
  rw[if_neg a'];exact congrArg some e
theorem ObjM.look{h:Heap}{x dx C:Addr}{mA:Str->Option Value}(I:ObjM h x dx C mA):∃od,W.InstAt h x (MG C dx) C (some od)/\∀name,W.lookIn name od=some (mA name):=
 let ⟨od,ho,hl⟩:=xU I.ns
 ⟨od,⟨I.obj,rfl,rfl,ho⟩,hl⟩
section
variable {prog:Program}{w:World}{A:Around}{E:Value->Shared->Prop}{s:Shared}{K:JF}{x dx C f:Addr}{mA:Str->Option Value}{name:Str}{v:Value}
theorem B5{expr:Bool}{Q:Value->Shared->Prop}(X:K.In s.heap)(I:ObjM s.heap x dx C mA)(hg:OC K C name=true)(hh:KH K C=true)
  (ha:Lz K (.ref C) name=some none) (hv:mA name=some v) (hv':W.handedIn v=true) (h:Q v { s with toks:=s.toks+1 }):
  wpAny (model prog w) A (getAttr (.ref x) name expr) Q E s:=by
 obtain⟨od,J,hl⟩:=I.look;exact W.get_value X J (W.plainGet_of hg).1 (W.findObj_own hh ha rfl<|by rw[hl,hv]) hv' h
theorem C5{ns:List Str}{Q:Unit->Shared->Prop}(X:K.In s.heap)(I:ObjM s.heap x dx C mA)
  (hs:Lz K (.ref C) "__setattr__"=some (some<|.builtin "object.__setattr__")) (hp:W.plainOver K C=true) (ht:W.takerIn K C name=some none) (hh:KH K C=true)
  (hw:OB mA ns) (hsz:ns.length<=sizeLine)
  (h:∀h',ObjM h' x dx C (λy=>if y=name then some v else mA y)->K0 dx s.heap h'->Q () { s with heap:=h',toks:=s.toks+2 }):
  wpAny (model prog w) A (setAttr (.ref x) name v) Q E s:=by
 obtain⟨od,J,hl⟩:=I.look;refine W.set_plain X J hs (W.osa_open (s:={ s with toks:=s.toks+1 }) (r:=none) X J hp ht λb=>?_);obtain⟨cd,hc,hd'⟩:=W.any_some hh;have hx:s.heap.get? x=some ⟨.ref C,some dx,.plain,#[]⟩:=I.obj;refine wpAny_bind (wpAny_pure<|wpAny_bind<|wpAny_bind<|wpAny_loadPart hx<|wpAny_bind<|W.Looks.here (s:={ s with toks:=s.toks+1 }) (W.looks_clsIn X hc) ?_);rw[hd'];refine wpAny_pure (a:=some dx) (wpAny_bind<|wpAny_pure<|wpAny_bind ?_);refine wpAny_nsSet1 (s:={ s with toks:=s.toks+1 }) I.ns λh' hn2 hs2=>?_;obtain⟨oD,esD,epD,hoD,hdD,hcD⟩:=hn2.count (PySem.Within.cons name v hw);refine wpAny_bind (wpAny_lookBehind hoD (by rw[hdD];exact pastItsLine_dict (Ki hcD<|by rw[JC];lia)) ?_)
 exact wpAny_pure (h _ ⟨(hs2.2 _<|Kw I.ne).trans I.obj,hn2,I.ne⟩ hs2)
theorem yU{R:Result->Shared->Prop}{vs:List Value}{kw:List (Str×Value)}(X:K.In s.heap)(hm:O4 K C=true)
  (hi:Lz K (.ref C) "__init__"=some (some<|.ref f)) (hf:Mc K (.ref f)=some (.type "function"))
  (h:codeAny (model prog w) (A.under<|.builtin "type.__call__" ⟨.ref C::vs,kw⟩) (.call (.ref f) ⟨.ref (s.heap.objs.size+1)::vs,kw⟩) (W.InitBack (s.heap.objs.size+1) R)
   { s with heap:=(s.heap.push LV).push (MG C s.heap.objs.size) }):
  codeAny (model prog w) A (.call (.ref C) ⟨vs,kw⟩) R s:=by
 obtain⟨hh,g,d,t,os⟩:=s;exact W.make_core (W.makes_of X hm) (W.looks_findIn X hi) (λself=>W.bind_fn X self hf) (.inl rfl) h
end
def cZ(f:Str)(v:V):List (Str×V)->List (Str×V)
 |[]=>[(f,v)]
 |(g,x)::r=>if g=f then (g,v)::r else (g,x)::cZ f v r
theorem ip(f g:Str)(v:V):∀fs:List (Str×V),(cZ f v fs).lookup g=if g=f then some v else fs.lookup g
 |[]=>by
  show KU g [(f,v)]=_
  by_cases h:g=f
  .have hb:(g==f)=true:=beq_iff_eq.mpr h
   simp only[KU,hb,if_pos h]
  .have hb:(g==f)=false:=beq_eq_false_iff_ne.mpr h
   simp only[KU,hb,if_neg h]
 |(k,x)::r=>by
  have ih:=ip f g v r;rw[show cZ f v ((k,x)::r)=(if k=f then (k,v)::r else (k,x)::cZ f v r) from rfl]
  by_cases hk:k=f
  .rw[if_pos hk]
   by_cases h:g=k
   .have hb:(g==k)=true:=beq_iff_eq.mpr h
    simp only[KU,hb,if_pos (h.trans hk)]
   .have hb:(g==k)=false:=beq_eq_false_iff_ne.mpr h
    simp only[KU,hb,if_neg (λe:g=f=>h (e.trans hk.symm))]
  .rw[if_neg hk]
   by_cases h:g=k
   .have hb:(g==k)=true:=beq_iff_eq.mpr h
    simp only[KU,hb,if_neg (λe:g=f=>hk (h.symm.trans e))]
   .have hb:(g==k)=false:=beq_eq_false_iff_ne.mpr h
    simp only[KU,hb];exact ih
theorem gZ(f:Str)(v:V):∀fs:List (Str×V),f∈(cZ f v fs).map (·.1)/\∀g,g∈fs.map (·.1)->g∈(cZ f v fs).map (·.1)
 |[]=>⟨by simp[cZ],λg h=>by simp at h⟩
 |(k,x)::r=>by
  obtain⟨i1,i2⟩:=gZ f v r;rw[show cZ f v ((k,x)::r)=(if k=f then (k,v)::r else (k,x)::cZ f v r) from rfl]
  by_cases hk:k=f
  .rw[if_pos hk]
   subst hk;exact⟨by simp,λg h=>by simpa using h⟩
  .rw[if_neg hk]
   refine⟨?_,λg h=>?_⟩
   .rw[JO]
    exact JZ _ i1
   .rw[JO]at h ⊢
    rcases JM.mp h with e|e
    .exact JM.mpr (.inl e)
    .exact JZ _ (i2 g e)
theorem iu(f:Str)(v:V):∀fs:List (Str×V),(cZ f v fs).length<=fs.length+1
 |[]=>by simp[cZ]
 |(k,x)::r=>by
  have ih:=iu f v r;rw[show cZ f v ((k,x)::r)=(if k=f then (k,v)::r else (k,x)::cZ f v r) from rfl]
  by_cases hk:k=f
  .rw[if_pos hk,JC,JC];lia
  .rw[if_neg hk,JC,JC];lia
theorem dY{v:V}{o:Option Value}(r:RelO (some v) o):∃u,o=some u/\RelV v u:=by
 cases o with
 |none=>exact(show False from r).elim
 |some u=>exact⟨u,rfl,r⟩
theorem xF{v:V}{u:Value}(r:RelV v u):W.handedIn u=true:=by
 cases v with
 |non=>cases (show u=KN from r);rfl
 |bl b=>cases (show u=Lq b from r);rfl
 |int i=>obtain⟨t,e⟩:=(show ∃t,u=Nl i t from r);cases e;rfl
 |str x=>obtain⟨t,e⟩:=(show ∃t,u=Nk x t from r);cases e;rfl
 |byt b=>obtain⟨t,e⟩:=(show ∃t,u=Value.bytes b t from r);cases e;rfl
 |flt b=>obtain⟨t,e⟩:=(show ∃t,u=OQ b t from r);cases e;rfl
 |ref a=>cases (show u=Kh a from r);rfl
 |ty n=>cases (show u=Lp n from r);rfl
section
variable {P:Program}{w:World}{H H':Hp}{h h':Heap}{a C dx:Addr}{fs fs':List (Str×V)}
theorem nV(hok:HOk P w H h)(e:H a=some (.ins C dx fs)):∃mA,ObjM h a dx C mA/\(∀f,RelO (fs.lookup f) (mA f))/\OB mA (fs.map (·.1))/\fs.length<=1000/\H dx=some (.own a):=by
 obtain⟨d,z,ne,ob,mA,n,r,q⟩:=(show ObjOk P w H h a (.ins C dx fs) from hok a _ e);exact⟨mA,⟨ob,n,ne⟩,r,q,z,d⟩
end
structure Cls(K:JF)(C:Addr):Prop where
 pg:OC K C Str.empty=true
 hd:KH K C=true
 po:W.plainOver K C=true
 sa:Lz K (.ref C) "__setattr__"=some (some<|.builtin "object.__setattr__")
theorem Cls.get{K:JF}{C:Addr}(c:Cls K C)(f:Str):OC K C f=true:=c.pg
def NoAttr(K:JF)(C:Addr)(f:Str):Prop:=Lz K (.ref C) f=some none
theorem NoAttr.taker{K:JF}{C:Addr}{f:Str}(n:NoAttr K C f):W.takerIn K C f=some none:=by
 unfold W.takerIn;rw[show Lz K (.ref C) f=some none from n];rfl
section
variable {X:Cx}{pins:List (Addr×Obj)}{U:St}{H:Hp}{s:Shared}{a C dx:Addr}{fs:List (Str×V)}{f:Str}{v:V}{A:Around}{E:Value->Shared->Prop}
theorem rG{b:Bool}{Q:Value->Shared->Prop}(I:Inv X pins U H s)(e:H a=some (.ins C dx fs))(c:Cls X.K C)(n:NoAttr X.K C f)(l:fs.lookup f=some v)
  (h:∀u s',Inv X pins U H s'->RelV v u->Q u s'):wpAny (model X.prog X.w) A (getAttr (.ref a) f b) Q E s:=by
 obtain⟨mA,O,r,_,_,_⟩:=nV I.hok e;obtain⟨u,hu,ru⟩:=dY (v:=v) (o:=mA f) (by rw[<- l];exact r f)
 exact B5 I.kIn O (c.get f) c.hd n hu (xF ru) (h u _ (I.tok _) ru)
theorem qG{y:V}{u:Value}{Q:Unit->Shared->Prop}(I:Inv X pins U H s)(e:H a=some (.ins C dx fs))(c:Cls X.K C)(n:NoAttr X.K C f)(hl:fs.length<1000)(ry:RelV y u)
  (h:∀s',Inv X pins U (upd H a<|.ins C dx<|cZ f y fs) s'->Q () s'):wpAny (model X.prog X.w) A (setAttr (.ref a) f u) Q E s:=by
 obtain⟨mA,O,r,wi,_,ho⟩:=nV I.hok e;have hz:(fs.map (·.1)).length<=sizeLine:=by rw[JK,sizeLine_eq];lia
 refine C5 I.kIn O c.sa c.po n.taker c.hd wi hz λh' O' sb=>h _ ?_;have hd:∃o,h'.get? dx=some o:=let ⟨o,_,_,e',_⟩:=O'.ns;⟨o,e'⟩;refine I.write (x:=a) (e:=dx) (by rw[e];exact LA) (.inr ho) (λb q hb z=>(sb.2 b hb).trans z) hd ?_
 refine⟨by rw[az O.ne];exact ho,?_,O.ne,O'.obj,_,O'.ns,λg=>?_,λg hg=>?_⟩
 .have:=iu f y fs;lia
 .show RelO ((cZ f y fs).lookup g) (if g=f then some u else mA g)
  rw[ip]
  by_cases q:g=f
  .rw[if_pos q,if_pos q];exact ry
  .rw[if_neg q,if_neg q];exact r g
 .by_cases q:g=f
  .rw[q];exact(gZ f y fs).1
  .refine (gZ f y fs).2 g (wi g λz=>hg ?_)
   show (if g=f then some u else mA g)=none
   rw[if_neg q];exact z
theorem Inv.made(I:Inv X pins U H s):Inv X pins U (upd (upd H s.heap.objs.size<|.own (s.heap.objs.size+1)) (s.heap.objs.size+1)<|.ins C s.heap.objs.size [])
  { s with heap:=(s.heap.push LV).push (MG C s.heap.objs.size) }:=by
 have e1:(s.heap.push LV).get? s.heap.objs.size=some LV:=JH s.heap rfl;have e2:((s.heap.push LV).push<|MG C s.heap.objs.size).get? (s.heap.objs.size+1)=some (MG C s.heap.objs.size):=by
  have:=JH (s.heap.push LV) (o:=MG C s.heap.objs.size) rfl
  rwa [Ke]at this
 have e3:(s.heap.push LV).Ns s.heap.objs.size (λ_=>none):=⟨LV,#[],_,e1,rfl,(λe he=>absurd he (by simp)),λ_=>rfl⟩
 have I1:=I.laid (a:=s.heap.objs.size) (o:=.own (s.heap.objs.size+1)) (h':=s.heap.push LV) (t':=s.toks) (λb u q=>JB _ q) (JE _) ⟨_,e1⟩;refine I1.laid (a:=s.heap.objs.size+1) (o:=.ins C s.heap.objs.size []) (t':=s.toks) (λb u q=>JB _ q) (NP<|Ke _ _) ?_;have ne:s.heap.objs.size≠s.heap.objs.size+1:=JS (MT _);refine⟨by rw[az ne,upd_same],KR _,ne,e2,λ_=>none,(Heap.Ns1.of_empty e3).at λo q=>JB _ q,λ_=>LA,λy hy=>absurd rfl hy⟩
theorem AF{prog:Program}{w:World}{env:Env}{e:Expr}{f:Str}{pos:Pos}{s:Shared}{Q:Value->Shared->Prop}(hb:attributeBase e f env (eval e env)=eval e env)
  (h:wpAny (model prog w) A (eval e env) (λo s₁=>wpAny (model prog w) A (getAttr o f true) Q E s₁) E s):wpAny (model prog w) A (eval (.Attribute e f pos) env) Q E s:=
 Attribute_any_ h (by rw[arm_eval_Attribute,hb])
end
def tFld(K:JF)(ta:TE)(f:Str):TE:=λU H Q=>ta U H λx H1=>∃a C dx fs v,x=.ref a/\H1 a=some (.ins C dx fs)/\Cls K C/\NoAttr K C f/\fs.lookup f=some v/\Q v H1
def sFld(K:JF)(ta tv:TE)(f:Str):TS:=λD U H=>tv U H λy H1=>ta U H1 λx H2=>∃a C dx fs,x=.ref a/\H2 a=some (.ins C dx fs)/\Cls K C/\NoAttr K C f/\fs.length<1000/\
 D.nx U (upd H2 a<|.ins C dx<|cZ f y fs)
section
variable {X:Cx}{o e value:Expr}{f:Str}{pos pos' tpos:Pos}{ta tv:TE}
theorem GA(he:PE X e ta)(hb:attributeBase e f X.env (eval e X.env)=eval e X.env):PE X (.Attribute e f pos) (tFld X.K ta f):=by
 intro pins s U H Q I h;refine AF hb (bG (he pins s U H _ I h) λu s1 zz=>?_);obtain⟨x,H1,I1,rx,a,C,dx,fs,v,ex,ea,c,n,l,q⟩:=zz;subst ex;obtain rfl:u=Kh a:=rx;exact rG I1 ea c n l λu' s2 I2 ru=>⟨v,H1,I2,ru,q⟩
theorem FH(ha:PE X o ta)(hv:PE X value tv)(hs:swapsWith value (some<|.Attribute o f pos') pos.line X.env=pure false):PS X (.Assign [.Attribute o f pos'] value pos) (sFld X.K ta tv f):=by
 intro pins s U H D I h;refine plainObj_wpAny_Assign_Attribute (bG (hv pins s U H _ I h) λu s1 ⟨y,H1,I1,ry,q⟩=>bG (ha pins s1 U H1 _ I1 q) λov s2 zz=>?_) hs;obtain⟨x,H2,I2,rx,a,C,dx,fs,ex,ea,c,n,l,q2⟩:=zz;subst ex;obtain rfl:ov=Kh a:=rx;exact qG I2 ea c n l ry λs3 I3=>⟨U,_,I3,q2⟩
end
section
variable {X:Cx}{pins:List (Addr×Obj)}{U:St}{H:Hp}{s:Shared}{A:Around}{E:Value->Shared->Prop}{Q:Value->Shared->Prop}{c:Value}{b:Bool}
inductive TyOf(K:JF)(H:Hp):V->Value->Prop where
 |non:TyOf K H .non (.type "NoneType")
 |bl (x:Bool):TyOf K H (.bl x) (.type "bool")
 |int (i:Int):TyOf K H (.int i) (.type "int")
 |str (x:Str):TyOf K H (.str x) (.type "str")
 |flt (x:UInt64):TyOf K H (.flt x) (.type "float")
 |lst {a:Addr} {xs:List V} (e:H a=some (.lst xs)):TyOf K H (.ref a) (.type "list")
 |frz {a:Addr} {o:Obj} {xs:List V} (e:H a=some (.frz o<|.lst xs)):TyOf K H (.ref a) (.type "list")
 |tup {a:Addr} {xs:List V} (e:H a=some (.tup xs)):TyOf K H (.ref a) (.type "tuple")
 |dK {a:Addr} {kvs:List (bw×V)} (e:H a=some (.dK kvs)):TyOf K H (.ref a) (.type "dict")
 |dT {a:Addr} {kvs:List (List bw×V)} (e:H a=some (.dT kvs)):TyOf K H (.ref a) (.type "dict")
 |ins {a C dx:Addr} {fs:List (Str×V)} (e:H a=some (.ins C dx fs)) (cl:Cls K C) (ha:Lz K (.ref C) "__class__"=some (some<|.builtin "object.__class__"))
   (hn:W.specialIn K (.builtin "object.__class__") "__get__"=some (some<|.builtin "getset_descriptor.__get__")) (htk:W.takesIn K (.builtin "object.__class__")=some true)
   (hm:Lh K C (.type "object")=some true):TyOf K H (.ref a) (.ref C)
theorem xZ{x:V}{u t:Value}(I:Inv X pins U H s)(rx:RelV x u)(ty:TyOf X.K H x t)(e:Mv X.K t c=some b)(h:∀tk,Q (.bool b) { s with toks:=tk }):
  wpAny (model X.prog X.w) A (call (.builtin "isinstance") [u,c]) Q E s:=by
 cases ty with
 |non=>cases (show u=KN from rx);exact LR W.kitx_none I.kIn LA e (λz=>nomatch z) h
 |bl y=>cases (show u=Lq y from rx);exact LR W.kitx_bool I.kIn LA e (λz=>nomatch z) h
 |int i=>obtain⟨t,q⟩:=(show ∃t,u=Nl i t from rx);cases q;exact LR W.kitx_int I.kIn LA e (λz=>nomatch z) h
 |str y=>obtain⟨t,q⟩:=(show ∃t,u=Nk y t from rx);cases q;exact LR W.kitx_str I.kIn LA e (λz=>nomatch z) h
 |flt y=>obtain⟨t,q⟩:=(show ∃t,u=OQ y t from rx);cases q;exact LR W.kitx_float I.kIn LA e (λz=>nomatch z) h
 |@lst a xs ea=>
  cases (show u=Kh a from rx);obtain⟨_,_,n,_,h1⟩:=(show ObjOk X.prog X.w H s.heap a (.lst xs) from I.hok a _ ea);exact LR W.kitx_list I.kIn ⟨_,h1,rfl⟩ e (λz=>nomatch z) h
 |@frz a ob xs ea=>
  cases (show u=Kh a from rx);obtain⟨_,_,_,n,_,h1⟩:=(show ObjOk X.prog X.w H s.heap a (.frz ob<|.lst xs) from I.hok a _ ea);exact LR W.kitx_list I.kIn ⟨_,h1,rfl⟩ e (λz=>nomatch z) h
 |@tup a xs ea=>
  cases (show u=Kh a from rx);obtain⟨_,_,_,p⟩:=(show ObjOk X.prog X.w H s.heap a (.tup xs) from I.hok a _ ea);obtain⟨o,h1,⟨h2,_⟩,_⟩:=p;exact LR W.kitx_tuple I.kIn ⟨o,h1,h2⟩ e (λz=>nomatch z) h
 |@dK a kvs ea=>
  cases (show u=Kh a from rx);obtain⟨_,_,vs,_,p⟩:=(show ObjOk X.prog X.w H s.heap a (.dK kvs) from I.hok a _ ea);obtain⟨o,es,ep,h1,h2,_⟩:=p;exact LR W.kitx_dict I.kIn ⟨o,h1,h2.1⟩ e (λz=>nomatch z) h
 |@dT a kvs ea=>
  cases (show u=Kh a from rx);obtain⟨_,_,xs,_,o,es,ep,h1,h2,_⟩:=(show ObjOk X.prog X.w H s.heap a (.dT kvs) from I.hok a _ ea);exact LR W.kitx_dict I.kIn ⟨o,h1,h2.1⟩ e (λz=>nomatch z) h
 |@ins a C dx fs ea cl ha hn htk hm=>
  cases (show u=Kh a from rx);obtain⟨mA,O,_⟩:=nV I.hok ea;obtain⟨od,J,_⟩:=O.look;exact LR (W.kitx_own (cl.get _) cl.hd ha hn htk hm) I.kIn J e (λz=>nomatch z) h
end
structure Room(k:Nat)(A:Around):Prop where
 hd:A.handled=none
 dp:A.depth+3*k+5<recursionLimit
 un:A.units+16*k+200<cLine
 gd:A.guards=some []
theorem Room.mono{j k:Nat}{A:Around}(r:Room k A)(h:j<=k):Room j A:=⟨r.hd,by have:=r.dp;lia,by have:=r.un;lia,r.gd⟩
theorem Room.deeper{k:Nat}{A:Around}(r:Room (k+1) A)(env:Env):Room k (A.deeper env):=
 ⟨r.hd,by have:=r.dp;show A.depth+1+3*k+5<_;lia,by have:=r.un;show A.units+3+16*k+200<_;lia,r.gd⟩
theorem rJ{A:Around}{C:Addr}{us:List Value}{kw:List (Str×Value)}:(A.under<|.builtin "type.__call__" ⟨.ref C::us,kw⟩).depth=A.depth+1:=by
 first|rfl|simp[NF,Code.weight,Code.isCreation,Code.isGuard,Code.isCaller,Code.frames,OI,guardIds]
theorem rR{A:Around}{C:Addr}{us:List Value}{kw:List (Str×Value)}:(A.under<|.builtin "type.__call__" ⟨.ref C::us,kw⟩).units=A.units+1:=by
 first|rfl|simp[NF,Code.cUnits,Code.frames,OI]
theorem pV{A:Around}{C:Addr}{us:List Value}{kw:List (Str×Value)}:(A.under<|.builtin "type.__call__" ⟨.ref C::us,kw⟩).guards=A.guards:=by
 first|rfl|simp[NF,Code.guards,pushGuards,Code.isGuard,guardIds]
theorem Room.make{k:Nat}{A:Around}(r:Room (k+1) A)(C:Addr)(us:List Value)(kw:List (Str×Value)):Room k (A.under<|.builtin "type.__call__" ⟨.ref C::us,kw⟩):=
 ⟨r.hd,by have:=r.dp;rw[rJ];lia,by have:=r.un;rw[rR];lia,by rw[pV];exact r.gd⟩
theorem Room.depth{k:Nat}{A:Around}(r:Room k A):A.depth<recursionLimit:=by have:=r.dp;lia
theorem Room.units{k:Nat}{A:Around}(r:Room k A):A.units+64<cLine:=by have:=r.un;lia
def tNil:TA:=λ_ H Q=>Q [] H
def J1(ta:TE)(tr:TA):TA:=λU H Q=>ta U H λx H1=>tr U H1 λxs H2=>Q (x::xs) H2
section
variable {X:Cx}{e:Expr}{es:List Expr}{te:TE}{t:TA}{pos:Pos}
theorem rn:PA X [] tNil:=λ_ _ _ _ H Q I h=>Po ⟨[],H,I,.nil,h⟩
theorem mV(ha:PE X e te)(hr:PA X es t)(hs:starEach (e::es) X.env=(false,eval e X.env)::starEach es X.env:=by rfl):PA X (e::es) (J1 te t):=by
 intro pos pins s U H Q I h;rw[hs];show wpAny _ _ (spliced ((false,eval e X.env)::backTo pos (starEach es X.env))) _ _ s;refine Pb (bG (ha pins s U H _ I h) λu s1 ⟨x,H1,I1,r1,q1⟩=>?_);exact bG (hr pos pins s1 U H1 _ I1 q1) λus s2 ⟨xs,H2,I2,r2,q2⟩=>⟨x::xs,H2,I2,.cons r1 r2,q2⟩
def tTup(t:TA):TE:=λU H Q=>t U H λxs H1=>xs.length<=sizeLine/\∀p,H1 p=none->Q (.ref p) (upd H1 p<|.tup xs)
def tLst(t:TA):TE:=λU H Q=>t U H λxs H1=>xs.length<=sizeLine/\∀p,H1 p=none->Q (.ref p) (upd H1 p<|.lst xs)
theorem FV{x1}(h:PA X es t):PE X (.Tuple es x1 pos) (tTup t):=by
 intro pins s U H Q I hq;refine wpAny_Tuple_spliced (bG (h pos pins s U H _ I hq) λus s1 ⟨xs,H1,I1,r,z,q⟩=>⟨by rw[<- r.length];exact z,?_⟩)
 have hf:H1 s1.heap.objs.size=none:=I1.hok.fresh (JE _);refine⟨.ref s1.heap.objs.size,upd H1 s1.heap.objs.size (.tup xs),I1.laid (t':=s1.toks) (λb u e=>JB _ e) (JE _) ?_,rfl,q _ hf⟩;exact⟨z,us,r,⟨_,JH _ rfl,⟨rfl,_,rfl⟩,rfl⟩⟩
theorem Ft(h:PA X es t):PE X (.List es pos) (tLst t):=by
 intro pins s U H Q I hq;refine wpAny_List_spliced (bG (h pos pins s U H _ I hq) λus s1 ⟨xs,H1,I1,r,z,q⟩=>⟨by rw[<- r.length];exact z,?_⟩)
 have hf:H1 s1.heap.objs.size=none:=I1.hok.fresh (JE _);refine⟨.ref s1.heap.objs.size,upd H1 s1.heap.objs.size (.lst xs),I1.laid (t':=s1.toks) (λb u e=>JB _ e) (JE _) ?_,rfl,q _ hf⟩;exact⟨z,us,0,r,JH _ rfl⟩
end
abbrev Sp:=List V->Hp->VK->XK->Prop
abbrev iJ:=List Env->Hp->Shared->XK->Value->Shared->Prop
structure Env0(P:Program)(w:World)(K:JF)(mg:Str->Option Value)(base:Heap)(A:Around)(outer:List Env)(s:Shared)(H:Hp):Prop where
 frames:A.frames=some outer
 mod:Mod K mg base
 bs:∀b o,base.get? b=some o->s.heap.get? b=some o/\H b=none
 bsz:base.objs.size<=s.heap.objs.size
 funs:s.heap.FunFrames base outer
 frf:∀b∈fk outer,H b=none
 hok:HOk P w H s.heap
 bare:AllBare s.gens
def CE(outer:List Env)(P:Program)(w:World)(H:Hp)(s:Shared)(Q:VK)(u:Value)(s':Shared):Prop:=
 ∃v H',s'.os=s.os/\AllBare s'.gens/\Un (fk outer) [] H H' s.heap s'.heap/\HOk P w H' s'.heap/\RelV v u/\Q v H'
def CR(CX:iJ)(outer:List Env)(P:Program)(w:World)(H:Hp)(s:Shared)(Q:VK)(E:XK)(r:Result)(s':Shared):Prop:=
 match r with
 |.ok (.ret u)=>CE outer P w H s Q u s'
 |.ok _=>False
 |.error e=>CX outer H s E e s'
structure FnOk(P:Program)(w:World)(K:JF)(mg:Str->Option Value)(base:Heap)(CX:iJ)(k:Nat)(f:Addr)(fd:FuncData)(ps:List Str)(sp:Sp):Prop where
 len:∀vs H Q E,sp vs H Q E->vs.length=ps.length
 run:∀(A:Around) (outer:List Env) (s:Shared) (H:Hp) (args:Args) (us:List Value) (vs:List V) (Q:VK) (E:XK),Room k A->Env0 P w K mg base A outer s H->BindsTo s fd args (ps.zip us)->Vals vs us->sp vs H Q E->
  codeAny (model P w) A (.call (.ref f) args) (CR CX outer P w H s Q E) s
theorem FnOk.imp{P:Program}{w:World}{K:JF}{mg:Str->Option Value}{base:Heap}{CX:iJ}{k:Nat}{f:Addr}{fd:FuncData}{ps:List Str}{sp sp':Sp}(F:FnOk P w K mg base CX k f fd ps sp)
  (h:∀vs H Q E,sp' vs H Q E->sp vs H Q E):FnOk P w K mg base CX k f fd ps sp':=
 ⟨λvs H Q E q=>F.len vs H Q E (h _ _ _ _ q),λA outer s H args us vs Q E hr he hb hv hs=>F.run A outer s H args us vs Q E hr he hb hv (h _ _ _ _ hs)⟩
theorem Env0.make{P:Program}{w:World}{K:JF}{mg:Str->Option Value}{base:Heap}{A:Around}{outer:List Env}{s:Shared}{H:Hp}(e:Env0 P w K mg base A outer s H)(C:Addr)(us:List Value)(kw:List (Str×Value)):
  Env0 P w K mg base (A.under<|.builtin "type.__call__" ⟨.ref C::us,kw⟩) outer s H:=⟨by first|exact e.frames|(simpa [NF,Code.envs,OI,pushEnvs] using e.frames),e.mod,e.bs,e.bsz,e.funs,e.frf,e.hok,e.bare⟩
section
variable {X:Cx}{pins:List (Addr×Obj)}{U:St}{H:Hp}{s s':Shared}
theorem Inv.env0(I:Inv X pins U H s):Env0 X.prog X.w X.K X.mg X.base X.A X.stack s H:=
 ⟨I.ok.frames,I.ok.mod,I.bs,Ki I.ok.bsz I.sz,I.stack,I.stkFree,I.hok,I.bare⟩
theorem Inv.after{Q:VK}{u:Value}(I:Inv X pins U H s)(h:CE X.stack X.prog X.w H s Q u s'):EP X pins U Q u s':=by
 obtain⟨v,H',os,bare,un,hok,r,q⟩:=h;obtain⟨hh,g,d,t,os'⟩:=s';obtain rfl:os'=s.os:=os;exact⟨v,H',I.call (h':=hh) (g':=g) (d':=d) (t':=t) (ch:=[]) un hok bare (λb z=>absurd z (by simp)),r,q⟩
end
def Dm(sp:Sp)(dvs:List V)(E:XK)(t:TA):TE:=λU H Q=>t U H λvs H1=>sp (vs++dvs) H1 Q E
def Ja(C:Addr)(sp:Sp)(dvs:List V)(E:XK)(t:TA):TE:=λU H Q=>t U H λvs H1=>∀x dx,H1 x=none->H1 dx=none->dx≠x->
 sp (.ref x::(vs++dvs)) (upd (upd H1 dx<|.own x) x<|.ins C dx []) (λv H2=>v=.non/\Q (.ref x) H2) E
def Binds(K:JF)(fd:FuncData)(ps:List Str)(ds:List Value):Prop:=
 ∀(s:Shared) (us:List Value),K.In s.heap->(us++ds).length=ps.length->BindsTo s fd ⟨us,[]⟩ (ps.zip (us++ds))
theorem Binds.all{K:JF}{fd:FuncData}{ps:List Str}(h:∀us:List Value,us.length=ps.length->bindArgs fd ⟨us,[]⟩=pure (ps.zip us)):Binds K fd ps []:=λs us _ hl=>by
 rw[JR]at hl ⊢;exact .of_eq (h us hl)
def cy(CX:iJ)(X:Cx)(E:XK):Prop:=∀(pins:List (Addr×Obj)) (U:St) (H:Hp) (s:Shared) (e:Value) (s':Shared),Inv X pins U H s->CX X.stack H s E e s'->X.xe e s'
section
variable {X:Cx}{CX:iJ}{k:Nat}{f C:Addr}{fd:FuncData}{ps:List Str}{sp:Sp}{dvs:List V}{ds:List Value}{E:XK}{x m:Str}{p pos apos:Pos}{e o:Expr}{es:List Expr}{ta:TE}{t:TA}
theorem FQ{pins:List (Addr×Obj)}{U:St}{H:Hp}{s:Shared}{Q:VK}{us:List Value}{vs:List V}(F:FnOk X.prog X.w X.K X.mg X.base CX k f fd ps sp)(hr:Room k X.A)(hb:Binds X.K fd ps ds)(hd:Vals dvs ds)(hx:cy CX X E)
  (I:Inv X pins U H s) (r:Vals vs us) (h:sp (vs++dvs) H Q E):wpAny (model X.prog X.w) X.A (call (.ref f) us) (EP X pins U Q) X.xe s:=by
 have r2:Vals (vs++dvs) (us++ds):=r.append hd;have hl:(us++ds).length=ps.length:=by rw[<- r2.length];exact F.len _ _ _ _ h
 refine wpAny_call (codeAny_mono (F.run X.A X.stack s H ⟨us,[]⟩ (us++ds) (vs++dvs) Q E hr I.env0 (hb s us I.kIn hl) r2 h) λr s' hq=>?_);cases r with
 |error e=>exact hx pins U H s e s' I hq
 |ok fl=>
  cases fl with
  |ret u=>exact I.after hq
  |next=>exact Kr hq
  |brk=>exact Kr hq
  |cont=>exact Kr hq
theorem BS(F:FnOk X.prog X.w X.K X.mg X.base CX k f fd ps sp)(hr:Room k X.A)(hg:Gl X x)(hm:X.mg x=some (.ref f))(hk:Md X.K (.ref f)=true)(hb:Binds X.K fd ps ds)(hd:Vals dvs ds)(hx:cy CX X E)
  (ha:PA X (e::es) t) (hdb:(x==("__debug__":Str))=false:=by decide) (he:starEach (e::es) X.env=(false,eval e X.env)::starEach es X.env:=by rfl) (hpl:(backTo pos<|starEach es X.env).any (·.1)=false:=by rfl):
  PE X (.Call (.Name x p) (e::es) [] pos) (Dm sp dvs E t):=by
 intro pins s U H Q I h;refine wpAny_Call_Name_kw (dO I hg hm ?_ hdb);refine NX (h₀:=X.base) I.ok.mod.kin hk (bG (ha pos pins s U H _ I h) λus s1 ⟨vs,H1,I1,r,q⟩=>⟨I1.kIn,?_⟩) he hpl;exact FQ F hr hb hd hx I1 r q
structure Mk(K:JF)(C f:Addr):Prop where
 makes:O4 K C=true
 init:Lz K (.ref C) "__init__"=some (some<|.ref f)
 fn:W.isFn K (.ref f)=true
 kp:Md K (.ref C)=true
theorem yn{pins:List (Addr×Obj)}{U:St}{H:Hp}{s:Shared}{Q:VK}{us:List Value}{vs:List V}(M:Mk X.K C f)(F:FnOk X.prog X.w X.K X.mg X.base CX k f fd ps sp)(hr:Room (k+1) X.A)(hb:Binds X.K fd ps ds)(hd:Vals dvs ds)
  (hx:cy CX X E) (I:Inv X pins U H s) (r:Vals vs us)
  (h:∀x dx,H x=none->H dx=none->dx≠x->sp (.ref x::(vs++dvs)) (upd (upd H dx<|.own x) x<|.ins C dx []) (λv H2=>v=.non/\Q (.ref x) H2) E):
  wpAny (model X.prog X.w) X.A (call (.ref C) us) (EP X pins U Q) X.xe s:=by
 have hq:=h (s.heap.objs.size+1) s.heap.objs.size (I.hok.fresh<|N6 _) (I.hok.fresh<|JE _) (JS<|MT _);have I2:=Inv.made (C:=C) I;have r2:Vals (V.ref (s.heap.objs.size+1)::(vs++dvs)) (Kh (s.heap.objs.size+1)::(us++ds)):=.cons rfl (r.append hd);have hl:(Kh (s.heap.objs.size+1)::us++ds).length=ps.length:=by
  have e:=r2.length;rw[F.len _ _ _ _ hq]at e;exact e.symm
 refine wpAny_call (yU (f:=f) I.kIn M.makes M.init (beq_iff_eq.mp M.fn) (codeAny_mono (F.run _ X.stack _ _ ⟨Kh (s.heap.objs.size+1)::us,[]⟩ (Kh (s.heap.objs.size+1)::(us++ds)) _ _ E (hr.make C us [])
  (I2.env0.make C us []) (hb _ (Kh (s.heap.objs.size+1)::us) I2.kIn hl) r2 hq) λr s' hq'=>?_))
 cases r with
 |error e=>exact hx pins U _ _ e s' I2 hq'
 |ok fl=>
  cases fl with
  |ret u=>
   obtain⟨v,H',I3,rv,ev,q3⟩:=I2.after hq';subst ev;exact⟨rv,⟨V.ref (s.heap.objs.size+1),H',I3,rfl,q3⟩⟩
  |next=>exact Kr hq'
  |brk=>exact Kr hq'
  |cont=>exact Kr hq'
theorem B2(M:Mk X.K C f)(F:FnOk X.prog X.w X.K X.mg X.base CX k f fd ps sp)(hr:Room (k+1) X.A)(hg:Gl X x)(hm:X.mg x=some (.ref C))(hb:Binds X.K fd ps ds)(hd:Vals dvs ds)(hx:cy CX X E)
  (ha:PA X (e::es) t) (hdb:(x==("__debug__":Str))=false:=by decide) (he:starEach (e::es) X.env=(false,eval e X.env)::starEach es X.env:=by rfl) (hpl:(backTo pos<|starEach es X.env).any (·.1)=false:=by rfl):
  PE X (.Call (.Name x p) (e::es) [] pos) (Ja C sp dvs E t):=by
 intro pins s U H Q I h;refine wpAny_Call_Name_kw (dO I hg hm ?_ hdb);refine NX (h₀:=X.base) I.ok.mod.kin M.kp (bG (ha pos pins s U H _ I h) λus s1 ⟨vs,H1,I1,r,q⟩=>⟨I1.kIn,?_⟩) he hpl;exact yn M F hr hb hd hx I1 r q
end
section
variable {X:Cx}{CX:iJ}{k:Nat}{f C:Addr}{fd:FuncData}{ps ks:List Str}{sp:Sp}{E:XK}{x m:Str}{p pos apos kpos:Pos}{e o:Expr}{es:List Expr}{kws:List Keyword}{te ta:TE}{t tk:TA}{nm:Option Str}
variable {g:List Value->List Value->List Value}{gV:List V->List V->List V}
end
structure FnScope(N P:List Str)(sc:Scope):Prop where
 kind:sc.kind=.function
 co:sc.isCoroutine=false
 gen:sc.isGenerator=false
 nd:N.Nodup
 pre:N.take P.length=P
 par:∀x∈P,sc.names.lookup x=some .local\/sc.names.lookup x=some .cell
 nofree:∀y∈sc.names,y.2≠.free
theorem mh{kindOf:Str->Option NameKind}{x:Str}:∀{binds:List (Str×Value)} {m:Str->Option Value},(∀v,(x,v)∉binds)->bindL kindOf binds m x=m x
 |[],_,_=>rfl
 |(n,v)::r,m,h=>by
  unfold bindL;rw[mh λw hw=>h w (JZ _ hw)]
  split
  .have:x≠n:=by rintro rfl;exact h v KP
   simp[this]
  .rfl
theorem l_{kindOf:Str->Option NameKind}{x:Str}:∀{binds:List (Str×Value)} {m:Str->Option Value},(∀v,(x,v)∉binds)->bindC kindOf binds m x=m x
 |[],_,_=>rfl
 |(n,v)::r,m,h=>by
  unfold bindC;rw[l_ λw hw=>h w (JZ _ hw)]
  split
  .rfl
  .have:x≠n:=by rintro rfl;exact h v KP
   simp[this]
theorem ma{kindOf:Str->Option NameKind}{x:Str}{v:Value}:∀{P:List Str} {vs:List Value} {i:Nat} {m:Str->Option Value},P.Nodup->P[i]?=some x->vs[i]?=some v->kindOf x=some .local->
  bindL kindOf (P.zip vs) m x=some v
 |[],_,_,_,_,h,_,_=>by simp at h
 |_::_,[],_,_,_,_,h,_=>by simp at h
 |p::P,w::vs,0,m,nd,h1,h2,hk=>by
  simp at h1 h2;subst h1;subst h2;show bindL kindOf ((p,w)::P.zip vs) m p=_;unfold bindL;rw[mh λv hv=>(Ma.mp nd).1 (Nc hv).1,if_pos hk];simp
 |p::P,w::vs,i+1,m,nd,h1,h2,hk=>by
  show bindL kindOf ((p,w)::P.zip vs) m x=_;unfold bindL;exact ma (i:=i) (Ma.mp nd).2 (by simpa using h1) (by simpa using h2) hk
theorem lH{kindOf:Str->Option NameKind}{x:Str}{v:Value}:∀{P:List Str} {vs:List Value} {i:Nat} {m:Str->Option Value},P.Nodup->P[i]?=some x->vs[i]?=some v->kindOf x≠some .local->
  bindC kindOf (P.zip vs) m x=some v
 |[],_,_,_,_,h,_,_=>by simp at h
 |_::_,[],_,_,_,_,h,_=>by simp at h
 |p::P,w::vs,0,m,nd,h1,h2,hk=>by
  simp at h1 h2;subst h1;subst h2;show bindC kindOf ((p,w)::P.zip vs) m p=_;unfold bindC;rw[l_ λv hv=>(Ma.mp nd).1 (Nc hv).1,if_neg hk];simp
 |p::P,w::vs,i+1,m,nd,h1,h2,hk=>by
  show bindC kindOf ((p,w)::P.zip vs) m x=_;unfold bindC;exact lH (i:=i) (Ma.mp nd).2 (by simpa using h1) (by simpa using h2) hk
def start(N:List Str)(vs:List V):St:=vs.map some++JN (N.length-vs.length) none
def dh(CX:iJ)(P:Program)(w:World)(K:JF)(mg:Str->Option Value)(base:Heap)(N:List Str)(qual:Str)(scope:Scope)(f:Addr)(cd:Value)(A:Around)(outer:List Env)(s:Shared)(H:Hp)(E:XK):Cx where
 prog:=P
 w:=w
 K:=K
 mg:=mg
 base:=base
 A:=A.deeper (envOfC qual scope s.heap.objs.size f cd)
 N:=N
 s₀:=s
 H₀:=H
 env:=envOfC qual scope s.heap.objs.size f cd
 outer:=outer
 stack:=envOfC qual scope s.heap.objs.size f cd::outer
 ex:=[]
 calm:=true
 fn:=λ_=>true
 pn:=[]
 xe:=λe s'=>wpAny (model P w) (A.deeper<|envOfC qual scope s.heap.objs.size f cd) (leaving (envOfC qual scope s.heap.objs.size f cd) e) (λ_ s''=>CX outer H s E e s'') (λe' s''=>CX outer H s E e' s'') s'
theorem oP{sc:Scope}{n:Nat}{x:Str}(h:sc.names.lookup x=some .cell):∃c,(cellsFrom n sc.names []).lookup x=some c:=by
 have q:=Ob sc.names n [] (.inl h);exact Ol.mp q
theorem me{CX:iJ}{P:Program}{w:World}{K:JF}{mg:Str->Option Value}{base:Heap}{N ps:List Str}{qual:Str}{scope:Scope}{f:Addr}{cd:Value}{A:Around}{outer:List Env}{s s1:Shared}{H:Hp}{E:XK}{us:List Value}{vs:List V}
  (S:FnScope N ps scope) (hd:A.handled=none) (e0:Env0 P w K mg base A outer s H) (hl:vs.length=ps.length) (r:Vals vs us)
  (x:InCallC s s.heap.objs.size (bindL (envOfC qual scope s.heap.objs.size f cd).kindOf (ps.zip us) λ_=>none) (cellsFrom (s.heap.objs.size+1) scope.names []) (bindC (envOfC qual scope s.heap.objs.size f cd).kindOf (ps.zip us) λ_=>none) s1):
  Inv (dh CX P w K mg base N qual scope f cd A outer s H E) [] (start N vs) H s1:=by
 have hpl:ps.length<=N.length:=by have:=congrArg Km S.pre;rw[MP]at this;lia
 obtain⟨h1,tk,rfl,hk⟩:=x.done;have noA:∀b:Addr,b∉(dh CX P w K mg base N qual scope f cd A outer s H E).ex:=λb z=>absurd (show b∈([]:List Addr) from z) (by simp)
 refine⟨⟨e0.mod,S.kind,rfl,rfl,JE _,λy z c h1 h2=>?_,λy hy=>?_,λy c _ h=>?_,λ_=>hd,Around.frames_deeper e0.frames,.inr ⟨rfl,rfl⟩,λb z=>absurd z (noA b),e0.bs,e0.bsz,λb _ _=>noA b,λb z=>absurd z (noA b),e0.funs,e0.frf⟩,
  rfl,e0.bare,Un.kept hk,⟨_,x.toInCall.ns,λi y v h1 h2 h3=>?_⟩,λy c h=>⟨_,x.cell y c h⟩,e0.hok.fresh (JE _),λy c h=>?_,λp hp=>absurd (show p∈([]:List (Addr×Obj)) from hp) (by simp),e0.hok.kept hk,?_⟩
 .exact name_of_addr x.apart (Lg h1) (Lg h2)
 .have hy:scope.names.lookup y=some .cell\/scope.names.lookup y=some .free:=hy
  rcases hy with hy|hy
  .exact oP hy
  .exact absurd rfl (S.nofree _<|Lg hy)
 .exact LG (x.above y c<|Lg h)
 .have hi:i<vs.length:=by
   unfold start at h2
   by_cases hi:i<vs.length
   .exact hi
   .rw[KS (by simpa using hi)]at h2
    rw[OG]at h2
    split at h2<;>cases h2
  have ha:vs[i]?=some v:=by
   unfold start at h2;rw[Lo (by simpa using hi),Kf]at h2
   cases e:vs[i]? with
   |none=>rw[e]at h2;cases h2
   |some a=>rw[e]at h2;cases h2;rfl
  obtain⟨u,hu,rv⟩:=r.get ha;have hp:ps[i]?=some y:=by
   rw[<- S.pre,Oz (by lia)];exact h1
  have ndP:ps.Nodup:=by rw[<- S.pre];exact S.nd.sublist (List.take_sublist _ _)
  refine⟨u,rv,?_⟩;rcases S.par y (List.mem_of_getElem? hp) with k|k
  .exact .inl ⟨k,ma ndP hp hu k⟩
  .obtain⟨c,e⟩:=oP (n:=s.heap.objs.size+1) k
   refine .inr ⟨.inl k,c,e,?_⟩;have q:=x.cell y c e;rw[lH ndP hp hu (by show scope.names.lookup y≠_;rw[k];decide)]at q
   exact q
 .exact e0.hok.fresh (LG<|x.above y c<|Lg h)
 .unfold start
  show _=N.length;rw[JD,JK,OW];lia
theorem HQ{CX:iJ}{P:Program}{w:World}{K:JF}{mg:Str->Option Value}{base:Heap}{k:Nat}{f:Addr}{name qual:Str}{params:Arguments}{body:List Stmt}{scope:Scope}{dV kV doc pm cdv ct oc:Value}{an od:Option Addr}
  {osl:Array (Option Value)} {N ps:List Str} {sp:Sp} (lk:K.lookup f=some ⟨oc,od,.func (Nj name qual params body scope dV kV doc pm an cdv ct),osl⟩) (hcd:W.codeIn K cdv qual=true) (S:FnScope N ps scope)
  (len:∀vs H Q E,sp vs H Q E->vs.length=ps.length)
  (hbody:∀(A:Around) (outer:List Env) (s:Shared) (H:Hp) (vs:List V) (Q:VK) (E:XK),Room k (A.deeper<|envOfC qual scope s.heap.objs.size f cdv)->sp vs H Q E->
   ∃t,rK (dh CX P w K mg base N qual scope f cdv A outer s H E) body t/\t { nx:=λ_ H'=>Q .non H',rt:=Q } (start N vs) H):
  FnOk P w K mg base CX (k+1) f (Nj name qual params body scope dV kV doc pm an cdv ct) ps sp:=by
 refine⟨len,λA outer s H args us vs Q E hr e0 hb r hsp=>?_⟩;have hl:=len _ _ _ _ hsp;have KX:K.In s.heap:=e0.mod.kin.keeps λb o e=>(e0.bs b o e).1;have lim:s.heap.NoLimit:=e0.mod.nolimit.keeps λb o e=>(e0.bs b o e).1;have hkind:∀y∈ps.zip us,scope.names.lookup y.1=some .local\/(scope.names.lookup y.1=some .cell/\((cellsFrom (s.heap.objs.size+1) scope.names []).lookup y.1).isSome=true):=λ⟨n,v⟩ hy=>by
  rcases S.par n (Nc hy).1 with q|q
  .exact .inl q
  .exact .inr ⟨q,Ob _ _ _<|.inl q⟩
 refine codeAny_call_function hr.depth (KX _ _ lk) rfl S.co S.gen rfl (W.codeRec_of KX hcd) (hb _ _ _ _ ?_);refine wpAny_newFunctionEnv_cells S.kind hkind λenv he s1 x=>?_;subst he;refine⟨lim.keeps x.toInCall.keep,codeAny_func ?_⟩;obtain⟨t,ht,hq⟩:=hbody A outer s H vs Q E (hr.deeper _) hsp;have I:Inv (dh CX P w K mg base N qual scope f cdv A outer s H E) [] (start N vs) H s1:=me S hr.hd e0 hl r x;refine wpAny_mono (ht [] s1 (start N vs) H _ I hq) (λfl s' hs=>?_) λe s' hs=>hs;have fin:∀{σ':St} {H':Hp} {v:V} {u:Value},Inv (dh CX P w K mg base N qual scope f cdv A outer s H E) [] σ' H' s'->RelV v u->Q v H'->CE outer P w H s Q u s':=
  λ{σ' H' v u} J rv q=>⟨v,H',J.os,J.bare,J.base,J.hok,rv,q⟩
 cases fl with
 |ret u=>
  obtain⟨v,σ',H',J,rv,q⟩:=hs;exact fin J rv q
 |next=>
  obtain⟨σ',H',J,q⟩:=hs;exact fin (v:=V.non) (u:=KN) J rfl q
 |brk=>
  obtain⟨_,_,_,q⟩:=hs;exact Kr q
 |cont=>
  obtain⟨_,_,_,q⟩:=hs;exact Kr q
section
variable {X:Cx}{x:Str}{p pos:Pos}{e:Expr}{es:List Expr}{t:TA}{id T:String}{r:List V->Hp->VK->Prop}
def tCB(r:List V->Hp->VK->Prop)(t:TA):TE:=λU H Q=>t U H λvs H1=>r vs H1 Q
theorem oF(hc:bz X (.builtin id) r)(hg:Gl X x)(hm:X.mg x=none)(hv:bootBuiltins x=some (.builtin id))(ha:PA X (e::es) t)(hn:x≠"__name__":=by decide)(hdb:(x==("__debug__":Str))=false:=by decide)
  (he:starEach (e::es) X.env=(false,eval e X.env)::starEach es X.env:=by rfl) (hpl:(backTo pos<|starEach es X.env).any (·.1)=false:=by rfl):PE X (.Call (.Name x p) (e::es) [] pos) (tCB r t):=by
 intro pins s U H Q I h;refine wpAny_Call_Name_kw (dS I hg hm hv ?_ hn hdb);exact Nm (bG (ha pos pins s U H _ I h) λus s1 ⟨vs,H1,I1,r1,q1⟩=>hc pins s1 U H1 vs us Q I1 r1 q1) he hpl
theorem xQ(hc:bz X (.type T) r)(hg:Gl X x)(hm:X.mg x=none)(hv:bootBuiltins x=some (.type T))(ha:PA X (e::es) t)(hn:x≠"__name__":=by decide)(hdb:(x==("__debug__":Str))=false:=by decide)
  (he:starEach (e::es) X.env=(false,eval e X.env)::starEach es X.env:=by rfl) (hpl:(backTo pos<|starEach es X.env).any (·.1)=false:=by rfl):PE X (.Call (.Name x p) (e::es) [] pos) (tCB r t):=by
 intro pins s U H Q I h;refine wpAny_Call_Name_kw (dS I hg hm hv ?_ hn hdb);exact KI (bG (ha pos pins s U H _ I h) λus s1 ⟨vs,H1,I1,r1,q1⟩=>hc pins s1 U H1 vs us Q I1 r1 q1) he hpl
end
end L2
namespace HT
open PySem PyProof.Rows
section
open PySem.SeqAt
open PySem.AutoSeq1 (wpAny_loadPart')
open PySem.MeetsSeq PySem.MeetsSeq2 PySem.MeetsSeq3
end
section
variable {prog:Program}{w:World}{A:Around}{E:Value->Shared->Prop}{s:Shared}
theorem CM{t b:Addr}{vs ws:List Value}{Q:Value->Shared->Prop}(ht:IsTup s.heap t vs.toArray)(hb:IsTup s.heap b ws.toArray)(hv:vs≠[])
  (h1:ws=[]->Q (.ref t) s) (h2:ws≠[]->Q (.ref s.heap.objs.size) { s with heap:=s.heap.push { cls:=.type "tuple",data:=.seq (vs++ws).toArray } })
  (hsz:vs.length+ws.length<=sizeLine):wpAny (model prog w) A (binaryOp .Add (.ref t)<|.ref b) Q E s:=by
 obtain⟨⟨cls,dd,data,sl⟩,ho,hc,n,hd⟩:=id ht;obtain⟨⟨cls2,dd2,data2,sl2⟩,ho2,hc2,n2,hd2⟩:=id hb;simp only at hc hd hc2 hd2;subst hc hd hc2 hd2;have e:vs.toArray++ws.toArray=(vs++ws).toArray:=by simp
 by_cases hw:ws=[]
 .exact concat_meets ⟨_,ho,rfl⟩ ⟨_,ho2,rfl⟩ noFill_tuple_add seq_tuple_add ML MI (ME _ _)
   (tuple_addW1 t b vs.toArray ws.toArray n n2 dd dd2 sl sl2 (by simpa using hv)<|by simp[hw]) ⟨ho,ho2,h1 hw⟩
 .refine concat_meets ⟨_,ho,rfl⟩ ⟨_,ho2,rfl⟩ noFill_tuple_add seq_tuple_add ML MI (ME _ _)
   (tuple_addW2 t b vs.toArray ws.toArray n n2 dd dd2 sl sl2 (by simpa using hv) (by simpa using hw)<|by rw[JI,JI];exact hsz) ⟨ho,ho2,?_⟩
  rw[e];exact h2 hw
def sIx(n d:Nat):Option Int->Nat
 |none=>d
 |some v=>if v<0 then (v+(n:Int)).toNat else min v.toNat n
theorem oS(n d:Nat):sIx n d none=d:=rfl
theorem ul(n d k:Nat):sIx n d (some (k:Int))=min k n:=by
 show (if (k:Int)<0 then ((k:Int)+(n:Int)).toNat else min (k:Int).toNat n)=min k n
 rw[if_neg (by lia),KD]
theorem Hj(n d:Nat)(hd:d<=n)(o:Option Int):sIx n d o<=n:=by
 cases o with
 |none=>exact hd
 |some v=>
  show (if v<0 then (v+(n:Int)).toNat else min v.toNat n)<=n
  by_cases hv:v<0
  .rw[if_pos hv];lia
  .rw[if_neg hv];exact Nat.min_le_right _ _
theorem vY(v:Int)(n d:Nat):(if v<0 then max (v+(n:Int)) 0 else min v (n:Int))=((sIx n d (some v):Nat):Int):=by
 show (if v<0 then max (v+(n:Int)) 0 else min v (n:Int))=(((if v<0 then (v+(n:Int)).toNat else min v.toNat n):Nat):Int)
 by_cases hv:v<0
 .simp only[if_pos hv];lia
 .simp only[if_neg hv];lia
theorem sh(lo hi:Option Int)(n:Nat):Mr lo hi 1 (n:Int)=(((sIx n 0 lo:Nat):Int),((sIx n n hi:Nat):Int)):=by
 have h1:¬((1:Int)<0):=by lia
 unfold Mr;simp only[h1,if_false];refine Prod.ext ?_ ?_
 .cases lo with
  |none=>rfl
  |some v=>exact vY v n 0
 .cases hi with
  |none=>rfl
  |some v=>exact vY v n n
theorem rE(i j:Nat):LI (i:Int) (j:Int) 1=j-i:=by
 unfold LI;have h1:(1:Int)>0:=by lia
 simp only[h1,if_true,Int.ediv_one]
 split<;>lia
theorem kx{v:Value}{o:Option Int}{Q:Option Int->Shared->Prop}(p:IsPart v o)(h:Q o s):wpAny (model prog w) A (Builtin.Slice.slicePartIndex v) Q E s:=by
 cases p with
 |none=>exact slicePart_none h
 |int i t=>exact slicePart_int h
theorem dz{sl:Addr}{vl vu:Value}{lo hi:Option Int}{n:Nat}{Q:Int×Int×Nat->Shared->Prop}(hs:s.heap.IsSliceOf sl vl vu .none)(pl:IsPart vl lo)(pu:IsPart vu hi)
  (h:Q (((sIx n 0 lo:Nat):Int),1,sIx n n hi-sIx n 0 lo) s):wpAny (model prog w) A (Nz (.ref sl)<|pure (n:Int)) Q E s:=by
 obtain⟨os,hos,hcs,hds⟩:=id hs;unfold Nz Builtin.Slice.sliceFields;refine wpAny_bind (wpAny_bind<|wpAny_field hos hds (x:=vl) rfl<|wpAny_bind<|wpAny_field hos hds (x:=vu) rfl<|wpAny_bind<|wpAny_field hos hds (x:=.none) rfl<|wpAny_pure ?_);refine wpAny_bind (slicePart_none ?_);show wpAny _ _ (if ((1:Int)==0)=true then _ else _) _ _ s
 rw[if_neg (by decide)]
 refine wpAny_bind (kx pl<|wpAny_bind<|kx pu<|wpAny_bind<|wpAny_pure ?_);show wpAny _ _ (match Mr lo hi 1 (n:Int) with|(lo,hi)=>pure (lo,(1:Int),LI lo hi 1)) _ _ s
 rw[sh lo hi n];show wpAny _ _ (pure (((sIx n 0 lo:Nat):Int),(1:Int),LI ((sIx n 0 lo:Nat):Int) ((sIx n n hi:Nat):Int) 1)) _ _ s;rw[rE];exact wpAny_pure h
theorem ym(xs:Array Value)(i k:Nat):((LC k).filterMap λ(m:Nat)=>xs[((i:Int)+(m:Int)*1).toNat]?).toArray=((xs.toList.drop i).take k).toArray:=by
 have e:(λ(m:Nat)=>xs[((i:Int)+(m:Int)*1).toNat]?)=λm=>xs[i+m]?:=by
  funext m;have:((i:Int)+(m:Int)*1).toNat=i+m:=by lia
  rw[this]
 rw[e];have:=pick_run xs i k;rw[List.filterMap_map]at this;have e2:((λx=>xs[x]?) ∘ λx=>i+x)=λm=>xs[i+m]?:=rfl;rw[e2]at this;rw[this]
theorem gu{t sl:Addr}{items:Array Value}{vl vu:Value}{lo hi:Option Int}{Q:Value->Shared->Prop}(ht:IsTup s.heap t items)(hs:s.heap.IsSliceOf sl vl vu .none)(pl:IsPart vl lo)(pu:IsPart vu hi)
  (hw:¬(sIx items.size 0 lo=0/\sIx items.size items.size hi=items.size))
  (h:Q (.ref s.heap.objs.size) { s with heap:=s.heap.push { cls:=.type "tuple",data:=.seq ((items.toList.drop<|sIx items.size 0 lo).take (sIx items.size items.size hi-sIx items.size 0 lo)).toArray } })
  (hsz:items.size<=sizeLine):wpAny (model prog w) A (getItem (.ref t)<|.ref sl) Q E s:=by
 have htake:sizeOk (.seq ((items.toList.drop<|sIx items.size 0 lo).take (sIx items.size items.size hi-sIx items.size 0 lo)).toArray):=by
  show ((items.toList.drop<|sIx items.size 0 lo).take (sIx items.size items.size hi-sIx items.size 0 lo)).toArray.size<=sizeLine;rw[JI,MP,List.length_drop,Kk];lia
 have hj:sIx items.size items.size hi<=items.size:=Hj _ _ (JE _) hi;obtain⟨os,hos,hcs,hds⟩:=id hs;have hTs:s.TypeIs (.ref sl) "slice":=⟨os,hos,hcs⟩;unfold getItem
 try with_reducible refine wpAny_holding ?_
 first|refine wpAny_bind (wpAny_pure ?_)|skip
 refine wpAny_bind (wpAny_sequenceKey ht.typeIs (by decide) ?_)
 refine wpAny_bind (wpAny_callSpecial?_slot (name:=JL "__getitem__") ht.typeIs KA
  (wpAny_call_entry KA ht.typeIs entry_tuple_getitem ?_<|args_tuple_getitem _ _))
 show wpAny _ _ (Ny (.ref t) >>= _) _ _ s;refine wpAny_bind (tupleItemsOf_ ht ?_);refine wpAny_bind (wpAny_typeOf hTs ?_);rw[if_pos (by decide)]
 refine wpAny_bind (dz hs pl pu ?_);have hno:¬((((sIx items.size 0 lo:Nat):Int)==0&&(1:Int)==1&&(sIx items.size items.size hi-sIx items.size 0 lo)==items.size)=true):=by
  intro q;rw[JU,JU]at q;have q1:((sIx items.size 0 lo:Nat):Int)=0:=eq_of_beq q.1.1;have q2:sIx items.size items.size hi-sIx items.size 0 lo=items.size:=eq_of_beq q.2;exact hw ⟨by lia,by lia⟩
 show wpAny _ _ (if (((sIx items.size 0 lo:Nat):Int)==0&&(1:Int)==1&&(sIx items.size items.size hi-sIx items.size 0 lo)==items.size)=true then _ else _) _ _ s
 rw[if_neg hno,ym]
 first
  |exact wpAny_bind (m:=Lk _) (wpAny_newObj_type (wpAny_pure ⟨_,rfl,wpAny_pure h⟩) htake)
  |exact wpAny_bind (m:=Lk _) (wpAny_newObj_type (wpAny_bind<|wpAny_pure<|wpAny_pure ⟨_,rfl,wpAny_pure h⟩) htake)
  |exact wpAny_bind (wpAny_bind (m:=Lk _)<|wpAny_newObj_type (wpAny_pure<|wpAny_pure ⟨_,rfl,wpAny_pure h⟩) htake)
  |exact wpAny_bind (wpAny_bind (m:=Lk _)<|wpAny_newObj_type (wpAny_pure ⟨_,rfl,wpAny_pure h⟩) htake)
end
end HT
namespace L2
open PySem PySem.Spec PyProof.Rows
abbrev TO:=St->Hp->(Option Int->Hp->Prop)->Prop
def PO(X:Cx)(e:Option Expr)(t:TO):Prop:=
 ∀(pins:List (Addr×Obj)) (s:Shared) (U:St) (H:Hp) (Q:Option Int->Hp->Prop),Inv X pins U H s->t U H Q->
  wpAny (model X.prog X.w) X.A (evalPart e X.env) (λu s'=>∃o H',Inv X pins U H' s'/\IsPart u o/\Q o H') X.xe s
def BP:TO:=λ_ H Q=>Q none H
def J7(t:TE):TO:=λU H Q=>t U H λx H1=>∃i,x=.int i/\Q (some i) H1
section
variable {X:Cx}{e:Expr}{te:TE}{lo hi:Option Expr}{tl th:TO}{pos p2:Pos}
theorem AJ:PO X none BP:=by
 intro pins s U H Q I h;rw[evalPart_none];exact wpAny_pure ⟨none,H,I,.none,h⟩
theorem BG(h:PE X e te):PO X (some e) (J7 te):=by
 intro pins s U H Q I hw;rw[evalPart_some];refine bG (h pins s U H _ I hw) λu s1 ⟨x,H1,I1,r1,q1⟩=>?_;obtain⟨i,rfl,q⟩:=q1;obtain⟨t,rfl⟩:=r1;exact⟨some i,H1,I1,.int i t,q⟩
def Ib(X:Cx)(r:V->Option Int->Option Int->Hp->VK->Prop):Prop:=
 ∀(pins:List (Addr×Obj)) (s:Shared) (U:St) (H:Hp) (x:V) (v vl vu:Value) (lo hi:Option Int) (sl:Addr) (Q:VK),Inv X pins U H s->RelV x v->s.heap.IsSliceOf sl vl vu .none->IsPart vl lo->IsPart vu hi->r x lo hi H Q->
  ∃T id,typeLookup (.type T) "__getitem__"=pure (some<|.builtin id)/\s.TypeIs v T/\wpAny (model X.prog X.w) X.A (getItem v<|.ref sl) (EP X pins U Q) X.xe s
def tSl(r:V->Option Int->Option Int->Hp->VK->Prop)(te:TE)(tl th:TO):TE:=λU H Q=>te U H λx H1=>tl U H1 λl H2=>th U H2 λu H3=>r x l u H3 Q
theorem zB{r:V->Option Int->Option Int->Hp->VK->Prop}(hr:Ib X r)(he:PE X e te)(hl:PO X lo tl)(hu:PO X hi th):PE X (.Subscript e (.Slice lo hi none p2) pos) (tSl r te tl th):=by
 intro pins s U H Q I h;refine Subscript_ (bG (he pins s U H _ I h) λv s1 ⟨x,H1,I1,r1,q1⟩=>?_);refine wpAny_Slice (bG (hl pins s1 U H1 _ I1 q1) λvl s2 ⟨l,H2,I2,pl,q2⟩=>bG (hu pins s2 U H2 _ I2 q2) λvu s3 ⟨u,H3,I3,pu,q3⟩=>?_);rw[evalPart_none];refine wpAny_pure ?_;have I4:Inv X pins U H3 { s3 with heap:=s3.heap.push { cls:=.type "slice",data:=.fields #[vl,vu,.none] } }:=I3.kept (t':=s3.toks) λb ob q=>JB _ q;obtain⟨T,id,hT,ht,hg⟩:=hr pins { s3 with heap:=s3.heap.push { cls:=.type "slice",data:=.fields #[vl,vu,.none] } } U H3 x v vl vu l u s3.heap.objs.size Q I4 r1 (Heap.IsSliceOf.new ..) pl pu q3;show wpAny (model X.prog X.w) X.A (subscriptTail e (.Slice lo hi none p2) v<|.ref s3.heap.objs.size) (EP X pins U Q) X.xe { s3 with heap:=s3.heap.push { cls:=.type "slice",data:=.fields #[vl,vu,.none] } };exact tail_any (ops:=[.ref s3.heap.objs.size,v]) ht hT hg (by with_unfolding_all rfl)
def iw(xs:List V)(lo hi:Option Int):List V:=(xs.drop<|HT.sIx xs.length 0 lo).take (HT.sIx xs.length xs.length hi-HT.sIx xs.length 0 lo)
theorem ii(xs:List V)(lo hi:Option Int):(iw xs lo hi).length<=xs.length:=by
 unfold iw;rw[MP,List.length_drop];lia
def rSlT(K:JF):V->Option Int->Option Int->Hp->VK->Prop:=λx lo hi H Q=>∃a xs,x=.ref a/\gL K H a xs/\
 ¬(HT.sIx xs.length 0 lo=0/\HT.sIx xs.length xs.length hi=xs.length)/\∀p,H p=none->Q (.ref p) (upd H p<|.tup<|iw xs lo hi)
theorem Hb:Ib X (rSlT X.K):=by
 intro pins s U H x v vl vu lo hi sl Q I rx hs pl pu h;obtain⟨a,xs,rfl,hx,hw,q⟩:=h;cases rx;obtain⟨its,r,ht,hz⟩:=I.tuple hx;have hlen:its.toArray.size=xs.length:=by rw[JI];exact r.length.symm
 refine⟨"tuple",_,KA.lookup,ht.typeIs,?_⟩;refine HT.gu ht hs pl pu (by rw[hlen];exact hw) ?_ (by rw[hlen];exact hz)
 rw[hlen];refine⟨.ref s.heap.objs.size,_,I.laid (t':=s.toks) (o:=.tup (iw xs lo hi)) (λb ob q=>JB _ q) (JE _) ?_,rfl,q _<|I.hok.fresh<|JE _⟩;exact⟨Ki (ii xs lo hi) hz,_,(r.drop<|HT.sIx xs.length 0 lo).take (HT.sIx xs.length xs.length hi-HT.sIx xs.length 0 lo),⟨_,JH _ rfl,⟨rfl,_,rfl⟩,rfl⟩⟩
def Iy(K:JF):R2:=λx y H Q=>∃a b xs ys,x=.ref a/\y=.ref b/\gL K H a xs/\gL K H b ys/\xs≠[]/\xs.length+ys.length<=sizeLine/\
 (ys=[]->Q (.ref a) H)/\(ys≠[]->∀p,H p=none->Q (.ref p) (upd H p<|.tup (xs++ys)))
theorem Vals.nil_iff{xs:List V}{us:List Value}(r:Vals xs us):us=[]↔xs=[]:=by
 cases r with
 |nil=>simp
 |cons _ _=>simp
theorem CL:ce X (binaryOp .Add) (Iy X.K):=by
 intro pins s U H x y v u Q I rx ry h;obtain⟨a,b,xs,ys,rfl,rfl,ha,hb,hx,hz,q1,q2⟩:=h;cases rx;cases ry;obtain⟨its,r1,p1,_⟩:=I.tuple ha;obtain⟨its2,r2,p2,_⟩:=I.tuple hb;refine HT.CM p1 p2 (λz=>hx (r1.nil_iff.mp z)) (λz=>⟨.ref a,H,I,rfl,q1<|r2.nil_iff.mp z⟩) (λz=>?_) (by rw[<- r1.length,<- r2.length];exact hz)
 refine⟨.ref s.heap.objs.size,_,I.laid (t':=s.toks) (o:=.tup (xs++ys)) (λb ob q=>JB _ q) (JE _) ?_,rfl,q2 (λw=>z (r2.nil_iff.mpr w)) _<|I.hok.fresh<|JE _⟩;exact⟨by rw[JD];exact hz,_,r1.append r2,⟨_,JH _ rfl,⟨rfl,_,rfl⟩,rfl⟩⟩
end
def uY(n:Nat)(i:Int):Option Nat:=if 0<=i then (if i<n then some i.toNat else none) else if -(n:Int)<=i then some (i+n).toNat else none
def atI{α:Type}(xs:List α)(i:Int):Option α:=(uY xs.length i).bind λj=>xs[j]?
theorem nQ{n:Nat}{i:Int}{j:Nat}(h:uY n i=some j):seqIndex? i n=some j/\j<n/\-(n:Int)<=i/\i<n:=by
 unfold uY at h
 by_cases h0:0<=i
 .rw[if_pos h0]at h
  by_cases h1:i<n
  .rw[if_pos h1]at h
   have e:i.toNat=j:=Kl h;exact⟨by rw[seqIndex_of h0 h1,e],by lia,by lia,h1⟩
  .rw[if_neg h1]at h;cases h
 .rw[if_neg h0]at h
  by_cases h1:-(n:Int)<=i
  .rw[if_pos h1]at h
   have e:(i+n).toNat=j:=Kl h;exact⟨by rw[seqIndex_neg (by lia) h1,e],by lia,h1,by lia⟩
  .rw[if_neg h1]at h;cases h
theorem mz{α:Type}{xs:List α}{i:Int}{v:α}(h:atI xs i=some v):∃j,seqIndex? i xs.length=some j/\xs[j]?=some v/\j<xs.length/\-(xs.length:Int)<=i/\i<xs.length:=by
 unfold atI at h;cases e:uY xs.length i with
 |none=>rw[e]at h;cases h
 |some j=>
  rw[e]at h;obtain⟨h1,h2,h3,h4⟩:=nQ e;exact⟨j,h1,h,h2,h3,h4⟩
def mH(b:Expr):Prop:=∀o i,subscripted b false o i=operate [o,i] (getItem o i)
def IxR(X:Cx)(r:R2):Prop:=
 ∀(value slice:Expr) (pins:List (Addr×Obj)) (s:Shared) (U:St) (H:Hp) (x y:V) (v u:Value) (Q:VK),Inv X pins U H s->RelV x v->RelV y u->r x y H Q->
  subscripted slice false v u=operate [v,u] (getItem v u)->wpAny (model X.prog X.w) X.A (subscriptTail value slice v u) (EP X pins U Q) X.xe s
def x_(X:Cx)(id:String)(r:V->List V->Hp->VK->Prop):Prop:=
 ∀(pins:List (Addr×Obj)) (s:Shared) (U:St) (H:Hp) (x:V) (xs:List V) (v:Value) (us:List Value) (Q:VK),Inv X pins U H s->RelV x v->Vals xs us->r x xs H Q->
  wpAny (model X.prog X.w) X.A (call (.builtin id) (v::us)) (EP X pins U Q) X.xe s
section
variable {X:Cx}{a b:Expr}{ta tb:TE}{pos:Pos}
theorem IxR.or{r r':R2}(h:IxR X r)(h':IxR X r'):IxR X (λx y H Q=>r x y H Q\/r' x y H Q):=by
 intro value slice pins s U H x y v u Q I rx ry q hs;rcases q with q|q
 .exact h value slice pins s U H x y v u Q I rx ry q hs
 .exact h' value slice pins s U H x y v u Q I rx ry q hs
theorem Ji{r:R2}(hr:IxR X r)(ha:PE X a ta)(hb:PE X b tb)(hs:mH b):PE X (.Subscript a b pos) (Jc r ta tb):=by
 intro pins s U H Q I h;exact Subscript_ (GD ha hb I h λv u s2 x y H2 I2 rx ry q=>hr a b pins s2 U H2 x y v u Q I2 rx ry q (hs _ _))
def J9(K:JF):R2:=λx y H Q=>∃p xs i v,x=.ref p/\y=.int i/\SqL K H p xs/\atI xs i=some v/\Q v H
def Jk(K:JF):R2:=λx y H Q=>∃p xs i v,x=.ref p/\y=.int i/\gL K H p xs/\atI xs i=some v/\Q v H
def Il:R2:=λx y H Q=>∃z i c,x=.str z/\y=.int i/\z.length<=sizeLine/\atI z.cps.toList i=some c/\Q (.str ⟨#[c]⟩) H
theorem ix_list:IxR X (J9 X.K):=by
 intro value slice pins s U H x y v u Q I rx ry h hs;obtain⟨p,xs,i,z,rfl,rfl,hq,he,q⟩:=h;cases rx;obtain⟨t,rfl⟩:=ry;obtain⟨its,r,pl,hz⟩:=I.list hq;obtain⟨j,h1,h2,h3,h4,h5⟩:=mz he;obtain⟨w,ew,rw'⟩:=r.get h2;have hl:=r.length;have hn:=fV;have fin:EP X pins U Q w s:=⟨z,H,I,rw',q⟩
 by_cases h0:0<=i
 .have hj:i.toNat=j:=by
   rw[seqIndex_of h0 h5]at h1;exact Kl h1
  exact item_listR pl.isList h0 (by lia) (by rw[hj];simpa using ew) fin hs
 .have hj:(i+(its.toArray.size:Int)).toNat=j:=by
   rw[seqIndex_neg (by lia) h4]at h1
   rw[JI,<- hl];exact Kl h1
  exact subscriptTail_builtinR (x:=w) pl.isList.typeIs slot_list_getitem.lookup
   (wpAny_getItem_list_neg (Q:=λr s'=>r=w/\EP X pins U Q r s') pl.isList (by lia) (by rw[JI]<;>lia) (by lia) (by rw[hj];simpa using ew) ⟨rfl,fin⟩) hs
theorem ix_tup:IxR X (Jk X.K):=by
 intro value slice pins s U H x y v u Q I rx ry h hs;obtain⟨p,xs,i,z,rfl,rfl,hq,he,q⟩:=h;cases rx;obtain⟨t,rfl⟩:=ry;obtain⟨its,r,pl,hz⟩:=I.tuple hq;obtain⟨j,h1,h2,h3,h4,h5⟩:=mz he;obtain⟨w,ew,rw'⟩:=r.get h2;have hl:=r.length;have hn:=fV;have fin:EP X pins U Q w s:=⟨z,H,I,rw',q⟩
 exact subscriptTail_builtinR (x:=w) pl.typeIs slot_tuple_getitem.lookup
  (getItem_tuple (j:=j) (Q:=λr s'=>r=w/\EP X pins U Q r s') pl (by lia) (by lia) (by rw[JI,<- hl];exact h1) (by simpa using ew) ⟨rfl,fin⟩) hs
theorem yP:IxR X Il:=by
 intro value slice pins s U H x y v u Q I rx ry h hs;obtain⟨z,i,c,rfl,rfl,hz,he,q⟩:=h;obtain⟨t,rfl⟩:=rx;obtain⟨t',rfl⟩:=ry;obtain⟨j,h1,h2,h3,h4,h5⟩:=mz he;have hl:z.cps.toList.length=z.length:=by simp[Str.length]
 rw[hl]at h1 h4 h5;have hn:=fV;exact tail_any (typeIs_str s z t) slot_str_getitem.lookup (getItem_str (c:=c) (by
  have e1:decide (i < -(2 ^ 63:Int))=false:=decide_eq_false (by lia)
  have e2:decide (i>=2 ^ 63)=false:=decide_eq_false (by lia)
  rw[e1,e2,OA]) (by rw[h1];simpa using h2) ⟨.str ⟨#[c]⟩,H,I.tok _,⟨_,rfl⟩,q⟩) hs
def rIx(K:JF):R2:=λx y H Q=>J9 K x y H Q\/Jk K x y H Q\/Il x y H Q
theorem Hd:IxR X (rIx X.K):=ix_list.or (ix_tup.or yP)
theorem qH(its:List Value)(n j:Nat)(u:Value):KG (·.setIfInBounds j u) { cls:=.type "list",data:=.seq its.toArray n }={ cls:=.type "list",data:=.seq (its.set j u).toArray n }:=by
 simp[KG]
theorem Inv.lst{pins:List (Addr×Obj)}{U:St}{H:Hp}{s:Shared}{p:Addr}{xs:List V}(I:Inv X pins U H s)(h:H p=some (.lst xs)):
  ∃(its:List Value) (n:Nat),Vals xs its/\s.heap.get? p=some { cls:=.type "list",data:=.seq its.toArray n }/\xs.length<=sizeLine:=by
 obtain⟨z,its,n,r,e⟩:=I.hok p _ h;exact⟨its,n,r,e,z⟩
theorem Inv.lstUpd{pins:List (Addr×Obj)}{U:St}{H:Hp}{s:Shared}{p:Addr}{xs ys:List V}{its its':List Value}{n n':Nat}{f:Obj->Obj}(I:Inv X pins U H s)(h:H p=some (.lst xs))
  (ho:s.heap.get? p=some { cls:=.type "list",data:=.seq its.toArray n }) (hf:f { cls:=.type "list",data:=.seq its.toArray n }={ cls:=.type "list",data:=.seq its'.toArray n' }) (r:Vals ys its') (hz:ys.length<=sizeLine) (t:Nat):
  Inv X pins U (upd H p<|.lst ys) { s with heap:=s.heap.update p f,toks:=t }:=by
 have e:(s.heap.update p f).get? p=some { cls:=.type "list",data:=.seq its'.toArray n' }:=by
  rw[LO f ho (by rw[hf]<;>rfl),hf]
 refine I.write (x:=p) (e:=p) (by rw[h];trivial) (.inl rfl) (λb u hb q=>(MX _ _<|Kw hb).trans q) ⟨_,e⟩ ?_
 exact⟨hz,its',n',r,e⟩
def HP:V->V->V->Hp->(Hp->Prop)->Prop:=λo i v H Q=>∃p xs k j,o=.ref p/\i=.int k/\H p=some (.lst xs)/\uY xs.length k=some j/\Q (upd H p<|.lst<|xs.set j v)
theorem yN:GP X HP:=by
 intro pins s U H o i v ov iv u Q I ro ri rv h;obtain⟨p,xs,k,j,rfl,rfl,hp,hj,q⟩:=h;cases ro;obtain⟨t,rfl⟩:=ri;obtain⟨its,n,r,ho,hz⟩:=I.lst hp;obtain⟨h1,h2,h3,h4⟩:=nQ hj;have hl:=r.length;have hn:=fV;have I':Inv X pins U (upd H p<|.lst<|xs.set j v) { s with heap:=s.heap.update p (KG (·.setIfInBounds j u)) }:=
  I.lstUpd hp ho (qH its n j u) (r.set rv j) (by rw[List.length_set];exact hz) s.toks
 by_cases h0:0<=k
 .have hk:k.toNat=j:=by
   rw[seqIndex_of h0 h4]at h1;exact Kl h1
  exact W.ki_setAt ho h0 (by lia) (by rw[JI,<- hl];exact h4) (by rw[hk];exact⟨_,I',q⟩)
 .have hk:(k+(its.toArray.size:Int)).toNat=j:=by
   rw[seqIndex_neg (by lia) h3]at h1
   rw[JI,<- hl];exact Kl h1
  exact W.ki_setBack ho (by lia) (by rw[JI,<- hl];exact h3) (by lia) (by rw[hk];exact⟨_,I',q⟩)
theorem ow(lo hi:Option Int)(n:Nat):(sliceBounds lo hi none n).1=((HT.sIx n 0 lo:Nat):Int)/\(sliceBounds lo hi none n).2.1=((HT.sIx n n hi:Nat):Int)/\(sliceBounds lo hi none n).2.2=1:=by
 refine⟨?_,?_,rfl⟩
 .cases lo with
  |none=>simp[sliceBounds,HT.sIx]
  |some i=>
   simp only[sliceBounds,HT.sIx,Pp,show (1:Int)>0 by decide,if_true]
   by_cases h:i<0
   .simp only[h,if_true]<;>lia
   .simp only[h,if_false]<;>lia
 .cases hi with
  |none=>simp[sliceBounds,HT.sIx]
  |some i=>
   simp only[sliceBounds,HT.sIx,Pp,show (1:Int)>0 by decide,if_true]
   by_cases h:i<0
   .simp only[h,if_true]<;>lia
   .simp only[h,if_false]<;>lia
theorem lz(its:List Value)(lo hi:Option Int):slicePick its.toArray lo hi none=((its.drop<|HT.sIx its.length 0 lo).take (HT.sIx its.length its.length hi-HT.sIx its.length 0 lo)).toArray:=by
 obtain⟨h1,h2,h3⟩:=ow lo hi its.toArray.size;unfold slicePick;rw[h1,h2,h3];simp only[sliceRange_one,pick_run,JI]<;>rfl
def rSlL(K:JF):V->Option Int->Option Int->Hp->VK->Prop:=λx lo hi H Q=>∃a xs,x=.ref a/\SqL K H a xs/\∀p,H p=none->Q (.ref p) (upd H p<|.lst<|iw xs lo hi)
theorem sV:Ib X (rSlL X.K):=by
 intro pins s U H x v vl vu lo hi sl Q I rx hs pl pu h;obtain⟨a,xs,rfl,hx,q⟩:=h;cases rx;obtain⟨its,r,ht,hz⟩:=I.list hx;have hlen:=r.length;refine⟨"list",_,slot_list_getitem.lookup,ht.isList.typeIs,?_⟩;refine wpAny_getItem_list_slice ht.isList hs pl pu .none (by simp) ?_ (by rw[JI]<;>lia)
 rw[lz,<- hlen];refine⟨.ref s.heap.objs.size,_,I.laid (t':=s.toks) (o:=.lst (iw xs lo hi)) (λb ob q=>JB _ q) (JE _) ?_,rfl,q _<|I.hok.fresh<|JE _⟩;exact⟨Ki (ii xs lo hi) hz,_,0,(r.drop<|HT.sIx xs.length 0 lo).take (HT.sIx xs.length xs.length hi-HT.sIx xs.length 0 lo),JH _ rfl⟩
def yi:V->Bool
 |.non=>true
 |.bl _=>true
 |.int _=>true
 |.str _=>true
 |_=>false
def oB:V->V->Bool
 |.non,.non=>true
 |.bl a,.bl b=>a==b
 |.bl a,.int b=>(if a then 1 else 0)==b
 |.int a,.bl b=>a==(if b then 1 else 0)
 |.int a,.int b=>a==b
 |.str a,.str b=>a==b
 |_,_=>false
theorem Ao{A:Around}{s:Shared}{y x:V}{u v:Value}(ry:RelV y u)(rx:RelV x v)(fy:yi y=true)(fx:yi x=true):MS A s u v (oB y x):=by
 cases y with
 |non=>
  cases ry;cases x with
  |non=>cases rx;exact SeqAt.EqAt.same _
  |bl b=>cases rx;exact SeqAt.EqAt.none_bool b
  |int b=>obtain⟨t,rfl⟩:=rx;exact SeqAt.EqAt.none_int b t
  |str b=>obtain⟨t,rfl⟩:=rx;exact SeqAt.EqAt.none_str b t
  |_=>exact absurd (show false=true from fx) JY
 |bl a=>
  cases ry;cases x with
  |non=>cases rx;exact SeqAt.EqAt.bool_none a
  |bl b=>cases rx;exact MM a b
  |int b=>obtain⟨t,rfl⟩:=rx;exact SeqAt.EqAt.bool_int a b t
  |str b=>obtain⟨t,rfl⟩:=rx;exact SeqAt.EqAt.bool_str a b t
  |_=>exact absurd (show false=true from fx) JY
 |int a=>
  obtain⟨t',rfl⟩:=ry;cases x with
  |non=>cases rx;exact SeqAt.EqAt.int_none a t'
  |bl b=>cases rx;exact SeqAt.EqAt.int_bool a t' b
  |int b=>obtain⟨t,rfl⟩:=rx;exact SeqAt.EqAt.int_int a t' b t
  |str b=>obtain⟨t,rfl⟩:=rx;exact Ot a t' b t
  |_=>exact absurd (show false=true from fx) JY
 |str a=>
  obtain⟨t',rfl⟩:=ry;cases x with
  |non=>cases rx;exact SeqAt.EqAt.str_none a t'
  |bl b=>cases rx;exact SeqAt.EqAt.str_bool a t' b
  |int b=>obtain⟨t,rfl⟩:=rx;exact Oq a t' b t
  |str b=>obtain⟨t,rfl⟩:=rx;exact SeqAt.EqAt.str_str a t' b t
  |_=>exact absurd (show false=true from fx) JY
 |_=>exact absurd (show false=true from fy) JY
theorem nA:bz X (.builtin "len") (λxs H Q=>∃p ys,xs=[.ref p]/\(SqL X.K H p ys\/gL X.K H p ys)/\Q (.int ys.length) H):=by
 intro pins s U H xs us Q I r h;obtain⟨p,ys,rfl,hq,q⟩:=h;obtain⟨u,rfl,rx⟩:=fG r;cases rx;have hn:=fV;rcases hq with hq|hq
 .obtain⟨its,r',pl,hz⟩:=I.list hq
  have hlen:=r'.length;exact Calls.call_len_list pl.isList (by simp only[JI]<;>lia) ⟨.int ys.length,H,I.tok _,⟨s.toks+1,by rw[JI,hlen]⟩,q⟩
 .obtain⟨its,r',pl,hz⟩:=I.tuple hq
  have hlen:=r'.length;exact len_tuple pl (by simp only[JI]<;>lia) ⟨.int ys.length,H,I.tok _,⟨s.toks+1,by rw[JI,hlen]⟩,q⟩
theorem nP:bz X (.builtin "len") (λxs H Q=>∃z,xs=[.str z]/\z.length<=sizeLine/\Q (.int z.length) H):=by
 intro pins s U H xs us Q I r h;obtain⟨z,rfl,hz,q⟩:=h;obtain⟨u,rfl,t,rfl⟩:=fG r;have hn:=fV;exact len_str (by lia) ⟨.int z.length,H,I.tok _,⟨_,rfl⟩,q⟩
theorem mm:bz X (.type "list") (λxs H Q=>∃p ys,xs=[.ref p]/\(SqL X.K H p ys\/gL X.K H p ys)/\∀l,H l=none->Q (.ref l) (upd H l<|.lst ys)):=by
 intro pins s U H xs us Q I r h;obtain⟨p,ys,rfl,hq,q⟩:=h;obtain⟨u,rfl,rx⟩:=fG r;cases rx
 have fin:∀(its:List Value),Vals ys its->ys.length<=sizeLine->∀(h':Heap) (c':Nat),(∀b o',s.heap.get? b=some o'->h'.get? b=some o')->
   h'.get? s.heap.objs.size=some { cls:=.type "list",dict:=none,data:=.seq its.toArray c',slots:=#[] }->EP X pins U Q (.ref s.heap.objs.size) { s with heap:=h' }:=λits r' hz h' c' kp e=>
  ⟨.ref s.heap.objs.size,_,I.laid (t':=s.toks) kp (JE _) (show ObjOk X.prog X.w _ h' _ (.lst ys) from ⟨hz,its,c',r',e⟩),rfl,q _<|I.hok.fresh<|JE _⟩
 rcases hq with hq|hq
 .obtain⟨its,r',pl,hz⟩:=I.list hq
  have hlen:=r'.length;obtain⟨o,ho,hc,n,hd⟩:=pl.isList;exact call_list_seq p (.inl rfl) ho hc hd (λh' c' kp e=>fin its r' hz h' c' kp e) (by simp only[JI]<;>lia)
 .obtain⟨its,r',pl,hz⟩:=I.tuple hq
  have hlen:=r'.length;obtain⟨o,ho,hc,n,hd⟩:=pl;exact call_list_seq p (.inr rfl) ho hc hd (λh' c' kp e=>fin its r' hz h' c' kp e) (by simp only[JI]<;>lia)
theorem fC:bz X (.type "tuple") (λxs H Q=>∃p ys,xs=[.ref p]/\((SqL X.K H p ys/\∀l,H l=none->Q (.ref l) (upd H l<|.tup ys))\/(gL X.K H p ys/\Q (.ref p) H))):=by
 intro pins s U H xs us Q I r h;obtain⟨p,ys,rfl,h⟩:=h;obtain⟨u,rfl,rx⟩:=fG r;cases rx;rcases h with⟨hq,q⟩|⟨hq,q⟩
 .obtain⟨its,r',pl,hz⟩:=I.list hq
  have hlen:=r'.length;refine call_tuple_list pl.isList (λh' kp=>?_) (by simp only[JI]<;>lia)
  have I1:Inv X pins U H { s with heap:=h' }:=I.kept (t':=s.toks) kp;have I2:Inv X pins U (upd H h'.objs.size<|.tup ys) { s with heap:=h'.push { cls:=.type "tuple",data:=.seq its.toArray } }:=
   I1.laid (t':=s.toks) (λb o e=>JB _ e) (JE _) (show ObjOk X.prog X.w _ _ _ (.tup ys) from ⟨hz,its,r',⟨_,JH _ rfl,⟨rfl,_,rfl⟩,rfl⟩⟩)
  exact⟨.ref h'.objs.size,_,I2,rfl,q _<|I1.hok.fresh<|JE _⟩
 .obtain⟨its,r',pl,hz⟩:=I.tuple hq
  exact call_tuple_same pl ⟨.ref p,H,I,rfl,q⟩
def tyV(K:JF)(T:String)(x:V)(H:Hp):Prop:=match x with
 |.str _=>T="str"
 |.int _=>T="int"
 |.ref p=>(T="list"/\∃xs,SqL K H p xs)\/(T="tuple"/\∃o,K.lookup p=some o/\o.cls=.type "tuple"/\o.dict=none)\/
   (T="dict"/\((∃kvs,H p=some (.dK kvs))\/∃kvs,H p=some (.dT kvs)))\/(T="set"/\∃S n,H p=some (.set S n))
 |_=>False
theorem zO{pins:List (Addr×Obj)}{U:St}{H:Hp}{s:Shared}{T:String}{x:V}{v:Value}(I:Inv X pins U H s)(r:RelV x v)(ty:tyV X.K T x H):
  s.TypeIs v T/\∀a,v=.ref a->∃ob,s.heap.get? a=some ob/\ob.dict=none:=by
 cases x with
 |str z=>
  obtain⟨t,rfl⟩:=r;cases (show T="str" from ty);exact⟨typeIs_str s z t,λ_ e=>nomatch e⟩
 |int i=>
  obtain⟨t,rfl⟩:=r;cases (show T="int" from ty);exact⟨typeIs_int s i t,λ_ e=>nomatch e⟩
 |ref p=>
  cases r;rcases ty with⟨rfl,xs,hq⟩|⟨rfl,o,hk,hc,hd⟩|⟨rfl,hk⟩|⟨rfl,S,n,hk⟩
  .obtain⟨its,_,pl,_⟩:=I.list hq
   refine⟨pl.isList.typeIs,λa e=>?_⟩;cases e;obtain⟨o,n,e,c,hd,_⟩:=pl;exact⟨o,e,hd⟩
  .refine⟨⟨o,I.kIn p o hk,hc⟩,λa e=>?_⟩
   cases e;exact⟨o,I.kIn _ o hk,hd⟩
  .have z:∃o,s.heap.get? p=some o/\o.ExactDict:=by
    rcases hk with⟨kvs,hk⟩|⟨kvs,hk⟩
    .obtain⟨_,_,_,_,o,_,_,e,ex,_⟩:=I.hok p _ hk
     exact⟨o,e,ex⟩
    .obtain⟨_,_,_,_,o,_,_,e,ex,_⟩:=I.hok p _ hk
     exact⟨o,e,ex⟩
   obtain⟨o,e,ex⟩:=z;refine⟨⟨o,e,ex.1⟩,λa e2=>?_⟩;cases e2;exact⟨o,e,ex.2.1⟩
  .obtain⟨o,_,_,_,e,ex,_⟩:=I.hok p _ hk
   refine⟨⟨o,e,ex.1⟩,λa e2=>?_⟩;cases e2;exact⟨o,e,ex.2.1⟩
 |_=>exact Kr ty
def tBM0(K:JF)(T:String)(r:V->List V->Hp->VK->Prop)(to:TE):TE:=λU H Q=>to U H λx H1=>tyV K T x H1/\r x [] H1 Q
def tBM(K:JF)(T:String)(r:V->List V->Hp->VK->Prop)(to:TE)(t:TA):TE:=λU H Q=>to U H λx H1=>tyV K T x H1/\t U H1 λxs H2=>r x xs H2 Q
variable {o e:Expr}{es:List Expr}{to:TE}{t:TA}{name:Str}{apos cpos:Pos}{T id:String}{r:V->List V->Hp->VK->Prop}
theorem GZ(pa:PlainAttrs T)(slot:Slot T name id)(hty:typeOf (.builtin id)=pure (.type "method_descriptor"))(hm:x_ X id r)(ho:PE X o to)
  (hbase:attributeBase o name X.env (eval o X.env)=eval o X.env:=by rfl) (hline:(apos.endLine==cpos.line)=true:=by rfl):PE X (.Call (.Attribute o name apos) [] [] cpos) (tBM0 X.K T r to):=by
 intro pins s U H Q I h;refine wpAny_Call_method0_late hbase hline (bG (ho pins s U H _ I h) λv s1 ⟨x,H1,I1,r1,ty,q1⟩=>?_);obtain⟨h1,h2⟩:=zO I1 r1 ty;exact⟨T,id,pa,slot,hty,h1,h2,OF rfl<|PySem.evalArgs_none<|hm pins s1 U H1 x [] v [] Q I1 r1 .nil q1⟩
theorem IN(pa:PlainAttrs T)(slot:Slot T name id)(hty:typeOf (.builtin id)=pure (.type "method_descriptor"))(hm:x_ X id r)(ho:PE X o to)(ha:PA X (e::es) t)
  (hbase:attributeBase o name X.env (eval o X.env)=eval o X.env:=by rfl)
  (hfew:((backTo cpos<|starEach (e::es) X.env).all (λx=>!x.1)&&(backToKw cpos<|keywordEach [] X.env).all (λx=>x.1.isSome)
   && decide ((e::es).length+([]:List Keyword).length+(if ([]:List Keyword).isEmpty then 0 else 1)<30))=true:=by rfl)
  (hline:(apos.endLine==cpos.line)=true:=by rfl) (hs:starEach (e::es) X.env=(false,eval e X.env)::starEach es X.env:=by rfl) (hplain:(backTo cpos<|starEach es X.env).any (·.1)=false:=by rfl):
  PE X (.Call (.Attribute o name apos) (e::es) [] cpos) (tBM X.K T r to t):=by
 intro pins s U H Q I h;refine wpAny_Call_method_late hbase hfew hline rfl (bG (ho pins s U H _ I h) λv s1 ⟨x,H1,I1,r1,ty,q1⟩=>?_);obtain⟨h1,h2⟩:=zO I1 r1 ty;refine⟨T,id,pa,slot,hty,h1,h2,?_⟩;have hA:=ha cpos pins s1 U H1 _ I1 q1;rw[hs]at hA ⊢;refine OF (by show (false||(backTo cpos<|starEach es X.env).any (·.1))=false;rw[hplain]<;>rfl) (OT ?_)
 exact bG hA λus s2 ⟨vs,H2,I2,r2,q2⟩=>hm pins s2 U H2 x vs v us Q I2 r1 r2 q2
end
def MtM(X:Cx)(id:String)(r:V->List V->Hp->VK->Prop):Prop:=
 ∀(pins:List (Addr×Obj)) (s:Shared) (U:St) (H:Hp) (x:V) (xs:List V) (v:Value) (us:List Value) (Q:VK),Inv X pins U H s->RelV x v->Vals xs us->r x xs H Q->
  wpAny (model X.prog X.w) X.A (call (.builtin id) (v::us)) (EP X pins U Q) X.xe s
theorem Vals.one:∀{x:V} {us:List Value},Vals [x] us->∃u,us=[u]/\RelV x u
 |_,_,h=>by cases h with|cons r q=>cases q;exact⟨_,rfl,r⟩
theorem Vals.two:∀{x y:V} {us:List Value},Vals [x,y] us->∃u v,us=[u,v]/\RelV x u/\RelV y v
 |_,_,_,h=>by cases h with|cons r q=>cases q with|cons q z=>cases z;exact⟨_,_,rfl,r,q⟩
theorem Vals.zero:∀{us:List Value},Vals [] us->us=[]
 |_,.nil=>rfl
theorem Vals.dropLast{xs:List V}{us:List Value}(h:Vals xs us):Vals xs.dropLast us.dropLast:=by
 induction h with
 |nil=>exact .nil
 |cons r t ih=>
  cases t with
  |nil=>exact .nil
  |cons q t'=>exact .cons r ih
theorem Vals.eraseIdx:∀{xs:List V} {us:List Value} (i:Nat),Vals xs us->Vals (xs.eraseIdx i) (us.eraseIdx i)
 |_,_,_,.nil=>.nil
 |_,_,0,.cons _ t=>t
 |_,_,i+1,.cons r t=>.cons r (Vals.eraseIdx i t)
theorem Vals.rep{xs:List V}{us:List Value}(h:Vals xs us):∀k:Nat,Vals (JN k xs).flatten (JN k us).flatten
 |0=>.nil
 |k+1=>by
  rw[Kg,Kg,LQ,LQ];exact Vals.append h (Vals.rep h k)
theorem rj{α:Type}(l:List α):l.eraseIdx (l.length-1)=l.dropLast:=by
 induction l with
 |nil=>rfl
 |cons a r ih=>
  cases r with
  |nil=>rfl
  |cons b r=>
   have e:(a::b::r).length-1=((b::r).length-1)+1:=by
    have h1:(a::b::r).length=r.length+2:=rfl;have h2:(b::r).length=r.length+1:=rfl;lia
   rw[e,List.eraseIdx_cons_succ,ih]
   all_goals rfl
theorem m8{α:Type}:∀(l:List α) (i:Nat),(l.eraseIdx i).length<=l.length
 |[],_=>JE _
 |_::_,0=>N6 _
 |_::r,i+1=>Nat.succ_le_succ (m8 r i)
section
variable {X:Cx}{pins:List (Addr×Obj)}{U:St}{H:Hp}{s:Shared}{l b:Addr}{xs ys zs:List V}
theorem Inv.lset{its its':List Value}{n:Nat}{f:Array Value->Array Value}{t':Nat}(I:Inv X pins U H s)(hH:H l=some (.lst xs))
  (e:s.heap.get? l=some { cls:=.type "list",data:=.seq its.toArray n }) (hf:f its.toArray=its'.toArray) (hv:Vals ys its') (hz:ys.length<=sizeLine):
  Inv X pins U (upd H l<|.lst ys) { s with heap:=s.heap.update l (KG f),toks:=t' }:=by
 have q:=PySem.IsL.update e f;rw[hf]at q;refine I.write (x:=l) (e:=l) (by rw[hH];exact trivial) (.inl rfl) (λb' u hb hu=>(MX s.heap (KG f)<|Kw hb).trans hu) ⟨_,q⟩ ?_
 exact⟨hz,its',_,hv,q⟩
theorem Inv.lnew{its:List Value}{t':Nat}(I:Inv X pins U H s)(hv:Vals ys its)(hz:ys.length<=sizeLine):
  Inv X pins U (upd H s.heap.objs.size<|.lst ys) { s with heap:=s.heap.push { cls:=.type "list",data:=.seq its.toArray },toks:=t' }:=
 I.laid (λ_ _ q=>JB _ q) (JE _) ⟨hz,its,0,hv,JH _ rfl⟩
theorem Inv.fresh(I:Inv X pins U H s):H s.heap.objs.size=none:=I.hok.fresh (JE _)
theorem Inv.lstM(I:Inv X pins U H s)(hH:H l=some (.lst xs)):xs.length<=sizeLine/\∃(its:List Value) (n:Nat),Vals xs its/\xs.length=its.length/\s.heap.get? l=some { cls:=.type "list",data:=.seq its.toArray n }:=by
 obtain⟨z,its,n,r,e⟩:=I.hok l _ hH;exact⟨z,its,n,r,r.length,e⟩
theorem ze{n:Nat}(h:n<=sizeLine):Mu n=false:=by
 unfold Mu;exact decide_eq_false (by lia)
end
section
variable {X:Cx}
def Br:V->List V->Hp->VK->Prop:=λx vs H Q=>∃l xs y,x=.ref l/\vs=[y]/\H l=some (.lst xs)/\xs.length<sizeLine/\Q .non (upd H l<|.lst (xs++[y]))
theorem wZ:MtM X "list.append" Br:=by
 intro pins s U H x vs v us Q I rx rv h;obtain⟨l,xs,y,rfl,rfl,hH,hz,q⟩:=h;cases rx;obtain⟨u,rfl,ru⟩:=rv.one;obtain⟨z,its,n,r,hl,e⟩:=I.lstM hH;refine call_meets Nv ⟨_,e,rfl⟩ F.entry_list_append (F.args_list_append_2 _ _) (Pf l its.toArray n u<|by rw[JI];lia) ⟨e,?_⟩
 refine⟨.non,_,I.lset (its':=its++[u]) hH e (by simp) (r.append<|.cons ru .nil) ?_,rfl,q⟩
 rw[JD,KZ];lia
def rPop:V->List V->Hp->VK->Prop:=λx vs H Q=>∃l xs y,x=.ref l/\vs=[]/\H l=some (.lst xs)/\xs[xs.length-1]?=some y/\Q y (upd H l<|.lst xs.dropLast)
theorem Gz:MtM X "list.pop" rPop:=by
 intro pins s U H x vs v us Q I rx rv h;obtain⟨l,xs,y,rfl,rfl,hH,hy,q⟩:=h;cases rx;have hus:=rv.zero;subst hus;obtain⟨z,its,n,r,hl,e⟩:=I.lstM hH;obtain⟨u,hu,ru⟩:=r.get hy;have hy':its.toArray[its.toArray.size-1]?=some u:=by
  show its.toArray[its.length-1]?=some u;rw[<- KY,<- hl];exact hu
 refine call_meets My ⟨_,e,rfl⟩ F.entry_list_pop (F.args_list_pop_1 _) (MeetsSeq.list_pop_last l its.toArray n u hy'<|by rw[JI];lia) ⟨e,?_⟩
 refine⟨y,_,I.lset (its':=its.dropLast) hH e ?_ r.dropLast ?_,ru,q⟩
 .show its.toArray.eraseIdxIfInBounds (its.toArray.size-1)=its.dropLast.toArray
  rw[JI,NQ,rj]
 .rw[List.length_dropLast]
  lia
def FM:V->List V->Hp->VK->Prop:=λx vs H Q=>∃l xs i k y,x=.ref l/\vs=[.int i]/\H l=some (.lst xs)/\-(2 ^ 63)<=i/\i<2 ^ 63/\seqIndex? i xs.length=some k/\xs[k]?=some y/\Q y (upd H l<|.lst<|xs.eraseIdx k)
theorem Af:MtM X "list.pop" FM:=by
 intro pins s U H x vs v us Q I rx rv h;obtain⟨l,xs,i,k,y,rfl,rfl,hH,h1,h2,hk,hy,q⟩:=h;cases rx;obtain⟨u,rfl,ru⟩:=rv.one;obtain⟨t,rfl⟩:=ru;obtain⟨z,its,n,r,hl,e⟩:=I.lstM hH;obtain⟨w,hw,rw'⟩:=r.get hy
 refine call_meets My ⟨_,e,rfl⟩ F.entry_list_pop (F.args_list_pop_2 _ _)
  (MeetsSeq.list_pop_at l its.toArray n i t k w (fitsIndex_both h1 h2) (by rw[JI,<- hl];exact hk) (by rw[<- KY];exact hw)<|by rw[JI];lia) ⟨e,?_⟩
 refine⟨y,_,I.lset (its':=its.eraseIdx k) hH e ?_ (r.eraseIdx k) ?_,rw',q⟩
 .show its.toArray.eraseIdxIfInBounds k=(its.eraseIdx k).toArray
  rw[NQ]
 .have:=m8 xs k
  lia
theorem Bo{α:Type}(xs:List α)(k:Nat):(JN k xs).flatten.length=k*xs.length:=by
 induction k with
 |zero=>simp
 |succ k ih=>rw[Kg,LQ,JD,ih,Nat.succ_mul,Nat.add_comm]
end
section
variable {prog:Program}{w:World}{A:Around}{E:Value->Shared->Prop}{s:Shared}
set_option maxRecDepth 100000 in
end
section
variable {X:Cx}
end
section
variable {κ:Type}[DecidableEq κ]
def fu(kvs:List (κ×V))(k:κ):Option V:=(kvs.find? λkv=>decide (kv.1=k)).map (·.2)
def dy(kvs:List (κ×V))(k:κ)(v:V):List (κ×V):=
 if (kvs.any λkv=>decide (kv.1=k))=true then kvs.map (λkv=>if kv.1=k then (kv.1,v) else kv) else kvs++[(k,v)]
theorem kr{p:κ×V}{r:List (κ×V)}{k:κ}(e:p.1=k):fu (p::r) k=some p.2:=by simp[fu,LM,e]
theorem jO{p:κ×V}{r:List (κ×V)}{k:κ}(e:¬p.1=k):fu (p::r) k=fu r k:=by simp[fu,LM,e]
theorem oO(k:κ):∀kvs:List (κ×V),(kvs.any λkv=>decide (kv.1=k))=(fu kvs k).isSome
 |[]=>rfl
 |p::r=>by
  rw[Ls]
  by_cases e:p.1=k
  .simp only[kr e,decide_eq_true e,Bool.true_or,Option.isSome_some]
  .rw[jO e,decide_eq_false e,NB];exact oO k r
theorem ik(kvs:List (κ×V))(k:κ)(v:V):(dy kvs k v).length<=kvs.length+1:=by
 unfold dy
 split
 .rw[JK];lia
 .rw[JD,JC,JT];lia
theorem RelO.isSome_eq{o:Option V}{u:Option Value}(r:RelO o u):o.isSome=u.isSome:=by
 cases o with
 |none=>cases u with
  |none=>rfl
  |some _=>exact(show False from r).elim
 |some _=>cases u with
  |none=>exact(show False from r).elim
  |some _=>rfl
theorem KV.val{kvs:List (κ×V)}{vs:List (κ×Value)}(r:KV kvs vs)(k:κ):RelO (fu kvs k) (valueAt vs k):=by
 unfold KV at r
 induction r with
 |nil=>exact LA
 |@cons p q ps qs h t ih=>
  obtain⟨h1,h2⟩:=h
  by_cases e:p.1=k
  .have e':q.1=k:=h1.symm.trans e
   have b:valueAt (q::qs) k=some q.2:=by simp[valueAt,LM,e']
   rw[kr e,b];exact h2
  .have e':¬q.1=k:=λz=>e (h1.trans z)
   have b:valueAt (q::qs) k=valueAt qs k:=by simp[valueAt,LM,e']
   rw[jO e,b];exact ih
theorem KV.any{kvs:List (κ×V)}{vs:List (κ×Value)}(r:KV kvs vs)(k:κ):(kvs.any λkv=>decide (kv.1=k))=vs.any λkv=>decide (kv.1=k):=by
 unfold KV at r
 induction r with
 |nil=>rfl
 |cons h t ih=>rw[Ls,Ls,ih,h.1]
theorem KV.repl{kvs:List (κ×V)}{vs:List (κ×Value)}(r:KV kvs vs)(k:κ){y:V}{u:Value}(ry:RelV y u):
  KV (kvs.map λkv=>if kv.1=k then (kv.1,y) else kv) (vs.map λkv=>if kv.1=k then (kv.1,u) else kv):=by
 unfold KV at r ⊢
 induction r with
 |nil=>exact .nil
 |@cons p q ps qs h t ih=>
  rw[JO,JO];refine .cons ?_ ih;obtain⟨h1,h2⟩:=h
  by_cases e:p.1=k
  .rw[if_pos e,if_pos (h1.symm.trans e)];exact⟨h1,ry⟩
  .rw[if_neg e,if_neg (λz=>e (h1.trans z))];exact⟨h1,h2⟩
theorem KV.put{kvs:List (κ×V)}{vs:List (κ×Value)}(r:KV kvs vs)(k:κ){y:V}{u:Value}(ry:RelV y u):KV (dy kvs k y) (stored vs k u):=by
 unfold dy stored;rw[r.any k]
 by_cases e:(vs.any λkv=>decide (kv.1=k))=true
 .rw[if_pos e,if_pos e];exact r.repl k ry
 .rw[if_neg e,if_neg e];exact Paired.snoc r ⟨rfl,ry⟩
theorem KV.length{kvs:List (κ×V)}{vs:List (κ×Value)}(r:KV kvs vs):kvs.length=vs.length:=LF r
end
theorem p9{P:Program}{w:World}{k:bw}{u:Value}(r:RelV (kV k) u):(a_ P w).is k u=true:=by
 cases k with
 |inl i=>obtain⟨t,e⟩:=(show ∃t,u=Nl i t from r);subst e;exact qa P w i t
 |inr x=>obtain⟨t,e⟩:=(show ∃t,u=Nk x t from r);subst e;exact qf P w x t
theorem lF{P:Program}{w:World}:∀{ks:List bw} {us:List Value},Vals (ks.map kV) us->ItemsAre (a_ P w) ks us
 |[],_,r=>by rw[OJ]at r;cases r;exact .nil
 |k::ks,_,r=>by
  rw[JO]at r;cases r with
  |cons h t=>exact .cons (p9 h) (lF t)
abbrev KT(H:Hp):List (List bw×V)->List (List bw×Addr×Value)->Prop:=Paired λp q=>p.1=q.1/\H q.2.1=some (.tup<|p.1.map kV)/\RelV p.2 q.2.2
theorem KT.val{H:Hp}{kvs:List (List bw×V)}{xs:List (List bw×Addr×Value)}(r:KT H kvs xs)(k:List bw):RelO (fu kvs k) ((atKey xs k).map (·.2)):=by
 induction r with
 |nil=>exact LA
 |@cons p q ps qs h t ih=>
  obtain⟨h1,_,h2⟩:=h
  by_cases e:p.1=k
  .have e':q.1=k:=h1.symm.trans e
   have b:atKey (q::qs) k=some q.2:=by simp[atKey,LM,e']
   rw[kr e,b];exact h2
  .have e':¬q.1=k:=λz=>e (h1.trans z)
   have b:atKey (q::qs) k=atKey qs k:=by simp[atKey,LM,e']
   rw[jO e,b];exact ih
theorem KT.repl{H:Hp}{kvs:List (List bw×V)}{xs:List (List bw×Addr×Value)}(r:KT H kvs xs)(k:List bw){y:V}{u:Value}(ry:RelV y u):
  KT H (kvs.map λkv=>if kv.1=k then (kv.1,y) else kv) (xs.map<|putAt k u):=by
 induction r with
 |nil=>exact .nil
 |@cons p q ps qs h t ih=>
  rw[JO,JO];refine .cons ?_ ih;obtain⟨h1,h2,h3⟩:=h;unfold putAt
  by_cases e:p.1=k
  .rw[if_pos e,if_pos (h1.symm.trans e)];exact⟨h1,h2,ry⟩
  .rw[if_neg e,if_neg (λz=>e (h1.trans z))];exact⟨h1,h2,h3⟩
theorem KT.put{H:Hp}{kvs:List (List bw×V)}{xs:List (List bw×Addr×Value)}(r:KT H kvs xs)(k:List bw){b:Addr}{y:V}{u:Value}(hb:H b=some (.tup<|k.map kV))(ry:RelV y u):
  KT H (dy kvs k y) (storedH xs k b u):=by
 have e:(kvs.any λkv=>decide (kv.1=k))=(atKey xs k).isSome:=by
  rw[oO,(r.val k).isSome_eq,MF]
 unfold dy storedH;rw[e]
 by_cases q:(atKey xs k).isSome=true
 .rw[if_pos q,if_pos q];exact r.repl k ry
 .rw[if_neg q,if_neg q];exact Paired.snoc r ⟨rfl,hb,ry⟩
theorem KT.keeps{H H':Hp}{kvs:List (List bw×V)}{xs:List (List bw×Addr×Value)}(r:KT H kvs xs)(ht:∀b ys,H b=some (.tup ys)->H' b=some (.tup ys)):KT H' kvs xs:=
 de r λ_ _ z=>⟨z.1,ht _ _ z.2.1,z.2.2⟩
section
variable {P:Program}{w:World}{H:Hp}{h:Heap}{a:Addr}
theorem DL{u:HO}(ok:HOk P w H h)(e:Rd H a u):ObjOk P w H h a u:=e.ok ok
theorem lP{kvs:List (bw×V)}(ok:HOk P w H h)(e:Rd H a (.dK kvs)):kvs.length<=sizeLine/\(a==sysModules)=false/\∃vs,KV kvs vs/\h.DictOf (a_ P w) a vs:=
 show ObjOk P w H h a (.dK kvs) from DL ok e
theorem Im{kvs:List (bw×V)}(ok:HOk P w H h)(e:H a=some (.dK kvs)):kvs.length<=sizeLine/\(a==sysModules)=false/\∃vs,KV kvs vs/\h.DictOf (a_ P w) a vs:=lP ok (.inl e)
theorem gU{ks:List bw}(ok:HOk P w H h)(e:H a=some (.tup<|ks.map kV)):(tupleKind<|a_ P w).is h ks a:=by
 obtain⟨_,its,r,o,h1,⟨h2,n,h3⟩,_⟩:=(show ObjOk P w H h a (.tup<|ks.map kV) from ok a _ e);exact⟨o,its.toArray,n,h1,h2,h3,by simpa using lF r⟩
theorem qi{kvs:List (List bw×V)}(ok:HOk P w H h)(e:Rd H a (.dT kvs)):kvs.length<=sizeLine/\(a==sysModules)=false/\
  ∃xs,KT H kvs xs/\h.DictOfH (tupleKind<|a_ P w) a xs:=by
 obtain⟨z,y,xs,r,o,es,ep,h1,h2,h3,h4,h5⟩:=(show ObjOk P w H h a (.dT kvs) from DL ok e);refine⟨z,y,xs,r,o,es,ep,h1,h2,h3,h4,λx hx=>?_,h5⟩;have all:∀{l:List (List bw×V)} {m:List (List bw×Addr×Value)},KT H l m->∀x∈m,(tupleKind<|a_ P w).is h x.1 x.2.1:=by
  intro l m q
  induction q with
  |nil=>intro x hx;exact nomatch hx
  |@cons p q ps qs hq t ih=>
   intro x hx;rcases JM.mp hx with e|hx
   .subst e
    exact gU ok (by rw[<- hq.1];exact hq.2.1)
   .exact ih x hx
 exact all r x hx
theorem IG{kvs:List (List bw×V)}(ok:HOk P w H h)(e:H a=some (.dT kvs)):kvs.length<=sizeLine/\(a==sysModules)=false/\
  ∃xs,KT H kvs xs/\h.DictOfH (tupleKind<|a_ P w) a xs:=qi ok (.inl e)
end
def DGet(H:Hp)(a:Addr)(y:V)(r:Option V):Prop:=
 (∃kvs k,Rd H a (.dK kvs)/\y=kV k/\r=fu kvs k)\/∃kvs k b,Rd H a (.dT kvs)/\y=.ref b/\H b=some (.tup<|k.map kV)/\r=fu kvs k
def DPut(H:Hp)(a:Addr)(y v:V)(H':Hp):Prop:=
 (∃kvs k,H a=some (.dK kvs)/\y=kV k/\kvs.length<sizeLine/\H'=upd H a (.dK<|dy kvs k v))\/
 ∃kvs k b,H a=some (.dT kvs)/\y=.ref b/\H b=some (.tup<|k.map kV)/\kvs.length<sizeLine/\H'=upd H a (.dT<|dy kvs k v)
theorem DGet.k{H:Hp}{a:Addr}{kvs:List (bw×V)}{k:bw}(e:H a=some (.dK kvs)):DGet H a (kV k) (fu kvs k):=.inl ⟨kvs,k,.inl e,rfl,rfl⟩
theorem DGet.t{H:Hp}{a b:Addr}{kvs:List (List bw×V)}{k:List bw}(e:H a=some (.dT kvs))(eb:H b=some (.tup<|k.map kV)):DGet H a (.ref b) (fu kvs k):=.inr ⟨kvs,k,b,.inl e,rfl,eb,rfl⟩
theorem DPut.k{H:Hp}{a:Addr}{kvs:List (bw×V)}{k:bw}{v:V}(e:H a=some (.dK kvs))(hl:kvs.length<sizeLine):DPut H a (kV k) v (upd H a<|.dK<|dy kvs k v):=.inl ⟨kvs,k,e,rfl,hl,rfl⟩
theorem DPut.t{H:Hp}{a b:Addr}{kvs:List (List bw×V)}{k:List bw}{v:V}(e:H a=some (.dT kvs))(eb:H b=some (.tup<|k.map kV))(hl:kvs.length<sizeLine):
  DPut H a (.ref b) v (upd H a<|.dT<|dy kvs k v):=.inr ⟨kvs,k,b,e,rfl,eb,hl,rfl⟩
section
variable {X:Cx}{pins:List (Addr×Obj)}{U:St}{H:Hp}{s:Shared}{a:Addr}{y v:V}{u r:Value}{o:Option V}{A:Around}{E:Value->Shared->Prop}
theorem Inv.big(I:Inv X pins U H s):sysModules<s.heap.objs.size:=by
 have h:mainGlobals<s.heap.objs.size:=(I.mod.glob.keeps I.bk).lt;exact NN (by decide) h
theorem xP{Q:Value->Shared->Prop}(hu:A.units+1<cLine)(I:Inv X pins U H s)(g:DGet H a y (some v))(ry:RelV y u)(h:∀w' s',Inv X pins U H s'->RelV v w'->Q w' s'):
  wpAny (model X.prog X.w) A (getItem (.ref a) u) Q E s:=by
 rcases g with⟨kvs,k,e,ey,l⟩|⟨kvs,k,b,e,ey,eb,l⟩
 .subst ey
  obtain⟨z,hd,vs,rel,dd⟩:=lP I.hok e;obtain⟨w',hw,rw'⟩:=dY (v:=v) (o:=valueAt vs k) (by rw[l];exact rel.val k)
  exact wpAny_getItem_of (p9 ry) dd.mapOf hw (h w' _ (I.tok _) rw')
 .subst ey
  cases (show u=Kh b from ry);obtain⟨z,hd,xs,rel,dd⟩:=qi I.hok e;obtain⟨w',hw,rw'⟩:=dY (v:=v) (o:=(atKey xs k).map (·.2)) (by rw[l];exact rel.val k)
  obtain⟨p,hp,hp2⟩:=Ly.mp hw;refine wpAny_getItem_heap (tupleKind_room_in1 hu) (gU I.hok eb) dd hp ?_;rw[hp2];exact h w' _ (I.tok _) rw'
theorem Jj{Q:Value->Shared->Prop}(hu:A.units+1<cLine)(I:Inv X pins U H s)(g:DGet H a y o)(ry:RelV y u)(h:∀s',Inv X pins U H s'->Q (.bool o.isSome) s'):
  wpAny (model X.prog X.w) A (compareOp .In u<|.ref a) Q E s:=by
 rcases g with⟨kvs,k,e,ey,l⟩|⟨kvs,k,b,e,ey,eb,l⟩
 .subst ey
  obtain⟨z,hd,vs,rel,dd⟩:=lP I.hok e;refine wpAny_in_of (p9 ry) hd dd.mapOf ?_;rw[<- (rel.val k).isSome_eq,<- l];exact h _ (I.tok _)
 .subst ey
  cases (show u=Kh b from ry);obtain⟨z,hd,xs,rel,dd⟩:=qi I.hok e;refine wpAny_in_heap (tupleKind_room_in1 hu) (gU I.hok eb) hd dd ?_;have q:=(rel.val k).isSome_eq;rw[MF]at q;rw[<- q,<- l];exact h _ (I.tok _)
theorem uf{Q:Value->Shared->Prop}(hu:A.units+1<cLine)(I:Inv X pins U H s)(g:DGet H a y o)(ry:RelV y u)(h:∀s',Inv X pins U H s'->Q (.bool<|!o.isSome) s'):
  wpAny (model X.prog X.w) A (compareOp .NotIn u<|.ref a) Q E s:=by
 rcases g with⟨kvs,k,e,ey,l⟩|⟨kvs,k,b,e,ey,eb,l⟩
 .subst ey
  obtain⟨z,hd,vs,rel,dd⟩:=lP I.hok e;refine wpAny_notIn_of (p9 ry) hd dd.mapOf ?_;rw[<- (rel.val k).isSome_eq,<- l];exact h _ (I.tok _)
 .subst ey
  cases (show u=Kh b from ry);obtain⟨z,hd,xs,rel,dd⟩:=qi I.hok e;refine wpAny_notIn_heap (tupleKind_room_in1 hu) (gU I.hok eb) hd dd ?_;have q:=(rel.val k).isSome_eq;rw[MF]at q;rw[<- q,<- l];exact h _ (I.tok _)
theorem vO{h':Heap}{t':Nat}{ob:HO}(I:Inv X pins U H s)(mu:Jb (H a))(hs:K0 a s.heap h')(he:∃q,h'.get? a=some q)(new:ObjOk X.prog X.w (upd H a ob) h' a ob):
  Inv X pins U (upd H a ob) { s with heap:=h',toks:=t' }:=
 I.write (x:=a) (e:=a) mu (.inl rfl) (λb q hb z=>(hs.2 b hb).trans z) he new
theorem FK{P:Program}{w:World}{H':Hp}{h':Heap}{kvs:List (bw×V)}{vs:List (bw×Value)}(z:kvs.length<=sizeLine)(hd:(a==sysModules)=false)(rel:KV kvs vs)(dd:h'.DictOf (a_ P w) a vs):
  ObjOk P w H' h' a (.dK kvs):=⟨z,hd,vs,rel,dd⟩
theorem lJ{H':Hp}{Q:Unit->Shared->Prop}(hu:A.units+1<cLine)(I:Inv X pins U H s)(g:DPut H a y v H')(ry:RelV y u)(rv:RelV v r)(h:∀s',Inv X pins U H' s'->Q () s'):
  wpAny (model X.prog X.w) A (setItem (.ref a) u r) Q E s:=by
 rcases g with⟨kvs,k,e,ey,l,eH⟩|⟨kvs,k,b,e,ey,eb,l,eH⟩
 .subst ey eH
  obtain⟨z,hd,vs,rel,dd⟩:=Im I.hok e;have hz:vs.length<=sizeLine:=by rw[<- rel.length];exact z
  have hl:(dy kvs k v).length<=sizeLine:=by have:=ik kvs k v;lia
  refine wpAny_setItem_pairs (hsz:=hz) (p9 ry) dd λh' dd' hs=>h _ ?_;have he:∃q,h'.get? a=some q:=let ⟨q,_,_,hq,_⟩:=dd';⟨q,hq⟩;exact vO I (by rw[e];exact LA) hs he (FK hl hd (rel.put k rv) dd')
 .subst ey eH
  cases (show u=Kh b from ry);obtain⟨z,hd,xs,rel,dd⟩:=IG I.hok e;have hz:xs.length<=sizeLine:=by rw[<- LF rel];exact z
  have hl:(dy kvs k v).length<=sizeLine:=by have:=ik kvs k v;lia
  refine wpAny_setItem_heap (hsz:=hz) (tupleKind_room_in1 hu) (gU I.hok eb) dd λh' dd' hs=>h _ ?_;obtain⟨q,es,ep,hq,h2,h3,h4,_,h5⟩:=dd';refine vO I (by rw[e];exact LA) hs ⟨q,hq⟩ ⟨hl,hd,_,(rel.put k eb rv).keeps λc ys ec=>?_,q,es,ep,hq,h2,h3,h4,h5⟩
  rw[az (HD ec e λz=>nomatch z)];exact ec
end
section
variable {X:Cx}{pins:List (Addr×Obj)}{U:St}{H:Hp}{s:Shared}{a:Addr}{kvs:List (bw×V)}{k:bw}{u:Value}{A:Around}{E:Value->Shared->Prop}
theorem IV{Q:Value->Shared->Prop}(I:Inv X pins U H s)(e:Rd H a (.dK kvs))(h:∀t s',Inv X pins U H s'->Q (.int kvs.length t) s'):wpAny (model X.prog X.w) A (call (.builtin "len") [.ref a]) Q E s:=by
 obtain⟨z,hd,vs,rel,dd⟩:=lP I.hok e;refine call_len_dict hd dd (by rw[<- rel.length];rw[sizeLine_eq]at z;lia) ?_
 rw[<- rel.length];exact h _ _ (I.tok _)
end
theorem pB{X:Cx}{pins:List (Addr×Obj)}{U:St}{H:Hp}{s:Shared}{a:Addr}{y:V}{o:Option V}(I:Inv X pins U H s)(g:DGet H a y o):s.TypeIs (.ref a) "dict":=by
 rcases g with⟨kvs,k,e,_,_⟩|⟨kvs,k,b,e,_,_,_⟩
 .obtain⟨_,_,vs,_,dd⟩:=lP I.hok e
  exact dd.typeIs
 .obtain⟨_,_,xs,_,dd⟩:=qi I.hok e
  exact dd.typeIs
section
variable {X:Cx}{o i e value:Expr}{pos pos' tpos:Pos}{td ty tv:TE}
end
section
variable {X:Cx}{pos:Pos}
end
section
variable {X:Cx}{pins:List (Addr×Obj)}{U:St}{H:Hp}{s:Shared}{a:Addr}{y d:V}{u r:Value}{o:Option V}{A:Around}{E:Value->Shared->Prop}
end
section
variable {X:Cx}{o e f:Expr}{apos cpos:Pos}{td ty tx:TE}
end
section
variable {X:Cx}{pins:List (Addr×Obj)}{U:St}{H:Hp}{s:Shared}{a:Addr}{kvs:List (bw×V)}{A:Around}{E:Value->Shared->Prop}
end
section
variable {X:Cx}{pins:List (Addr×Obj)}{U:St}{H:Hp}{s:Shared}{a:Addr}{y:V}{u:Value}{A:Around}{E:Value->Shared->Prop}
end
end L2
namespace Att
open PySem PySem.W PySem.Calls PyProof.Rows
theorem iE{P:Params}{h:Heap}:∀(ns:List Int) (vs:List Value),WellAll P h vs (ns.map WData.int)->IntsAre vs ns:=by
 intro ns
 induction ns with
 |nil=>
  intro vs w;rw[OJ]at w;cases w;exact .nil
 |cons n ns ih=>
  intro vs w;rw[JO]at w;cases w with
  |cons a b=>
   cases a;exact .cons _ _ (ih _ b)
theorem xw{l:OpenLaw}{n:Nat}(hn:l.most=some n){P:Params}{h:Heap}{args:List WData}{vals:List Value}
  (hpre:l.row.toRowW.claim.pre args=true) (hwl:WellAll P h vals args):
  ∃a vs ns,vals=[Kh a]/\args=[WData.list (ns.map WData.int)]/\h.get? a=some { cls:=.type "list",data:=.seq vs.toArray }/\IntsAre vs ns/\ns.length<=n:=by
 have hsh:WShape.hasAll [] args [.list .int]=true:=(pre_splitW hpre).1;have hc:l.pre.holds [] { args:=args }=true:=(pre_splitW hpre).2;obtain⟨d,r,rfl,h1,h2⟩:=hasAllW_cons hsh;obtain rfl:=hasAllW_nil h2;obtain⟨xs,rfl,h3⟩:=hasW_list h1;obtain⟨ns,rfl⟩:=items_int h3;have hlen:ns.length<=n:=by
  unfold OpenLaw.pre at hc;have h4:(WTm.not<|.lt (.lit<|.int (n:Int))<|.len<|.arg 0).holds [] { args:=[.list (ns.map .int)] }=true:=by
   have h4:=(holds_andW hc).1;rw[hn]at h4;exact h4
  have h5:=condW_of h4 (w_not<|w_lt w_lit<|w_len_list<|w_arg rfl);rw[JK]at h5;refine LZ λq=>?_;have q':(n:Int)<((ns.length:Nat):Int):=by lia
  first
   |(rw[decide_eq_true q']at h5;exact absurd h5 (by decide))
   |(simp at h5;lia)
 cases hwl with
 |cons w1 w2=>
  cases w2;cases w1 with
  |list ho hall=>exact⟨_,_,ns,rfl,rfl,ho,iE ns _ hall,hlen⟩
theorem xC(l:OpenLaw)(args:List WData):l.row.toRowW.claim.post args (.bool true) args=true:=
 postW_of (r:=l.row.toRowW) (X:=(true==true))
  (show WShape.has [] (.bool true) .bool=true by first|rfl|decide|simp[WShape.has,WShape.arms,WShape.armsAll])
  (show (WTm.eq .res<|.lit<|.bool true).value [] { args:=args,res:=some (.bool true),after:=args }=some (.bool (true==true)) from w_eq_bool (w_res rfl) w_lit) rfl
theorem oQ{l:OpenLaw}{n:Nat}{q:Program}{loose:List Str}{XP:(Str->Option Value)->Heap->Prop}{YP:World->Heap->Prop}{d:DefRec}
  (hn:l.most=some n) (hdf:d.params.defaults=[])
  (call:∀(w:World) (s₀ s₁:Shared) (mg mb:Str->Option Value) (fa:Addr) (o:Obj) (pm cd doc:Value) (a:Addr) (vs:List Value) (ns:List Int),
   Ground q loose [] XP w s₀ mg mb s₁.heap->YP w s₁.heap->
   s₁.heap.get? fa=some o->o.data=.func (docDef d.name d.params d.body d.scope pm cd doc)->s₁.heap.CodeRec cd d.name->mg d.name=some (.ref fa)->
   s₁.heap.get? a=some { cls:=.type "list",data:=.seq vs.toArray }->IntsAre vs ns->ns.length<=n->s₁.gens=#[]->
   codeAny (model l.prog w) callerA (.call (.ref fa) ⟨[.ref a],[]⟩) (λr s'=>r=.ok (.ret<|.bool true)/\OldK s₁.heap s'.heap/\s'.os=s₁.os/\AllBare s'.gens) s₁):
  WalkO q loose XP YP l.row.toRowW d [] (λf vs=>O8 f vs):=by
 intro w s₀ s₁ mg mb G Y fa o pm cd doc dV kV ho hd hcd hD hmg hg args vals as hpre hlay hrd hwl hlo;obtain rfl:dV=.none:=Dflts.none hD hdf;obtain rfl:kV=.none:=Dflts.noKw hD;obtain⟨a,vs,ns,rfl,rfl,hobj,hints,hlen⟩:=xw hn hpre hwl;refine enter_call (codeAny_mono (call w s₀ s₁ mg mb fa o pm cd doc a vs ns G Y ho (fd_plain hd) hcd hmg hobj hints hlen hg) λr s' hq=>?_);obtain⟨rfl,h2,h3,h4⟩:=hq;exact⟨.inl ⟨.bool true,.bool true,[],rfl,λ_=>rfl,.bool true,xC l _,λ_=>⟨Nh,λ_ hm=>(nomatch hm)⟩⟩,h2,h3,h4⟩
section
variable {prog:Program}{w:World}{A:Around}{E:Value->Shared->Prop}{s:Shared}{K:Frag}
end
end Att
namespace L2
open PySem PySem.Spec PyProof.Rows
theorem lY:∀{vs:List Value} {ns:List Int},IntsAre vs ns->Vals (ns.map V.int) vs
 |_,_,.nil=>.nil
 |_,_,.cons n t h=>.cons ⟨t,rfl⟩ (lY h)
def yS(H:Hp):Prop:=∀b,H b=none\/∃o xs,H b=some (.frz o<|.lst xs)
theorem A7{P:Program}{w:World}{K:JF}{mg mb:Str->Option Value}{CX:iJ}{k:Nat}{fa a:Addr}{fd:FuncData}{x:Str}{sp:Sp}{s₁:Shared}{vs:List Value}{ns:List Int}
  (KX:K.In s₁.heap) (hns:s₁.heap.Ns mainGlobals mg) (hb:s₁.heap.Ns builtinsNs mb) (hbb:∀x:Str,x≠"__name__"->mb x=bootBuiltins x) (hlim:s₁.heap.NoLimit) (hg:s₁.gens=#[])
  (ha:s₁.heap.get? a=some { cls:=.type "list",data:=.seq vs.toArray }) (hi:IntsAre vs ns) (hl:ns.length<=sizeLine) (hr:Room k callerA)
  (F:∀base:Heap,K.In base->base.Ns mainGlobals mg->FnOk P w K mg base CX k fa fd [x] sp) (hbind:∀(s:Shared) (u:Value),BindsTo s fd ⟨[u],[]⟩ [(x,u)])
  (hsp:∀H:Hp,yS H->SqL K H a (ns.map V.int)->sp [.ref a] H (λv _=>v=.bl true) λ_ _ _=>False)
  (hCX:∀H e s',CX [] H s₁ (λ_ _ _=>False) e s'->False):
  codeAny (model P w) callerA (.call (.ref fa) ⟨[.ref a],[]⟩) (λr s'=>r=.ok (.ret<|.bool true)/\OldK s₁.heap s'.heap/\s'.os=s₁.os/\AllBare s'.gens) s₁:=by
 have rv:=lY hi;have lenV:=hi.length
 -- from an abstract heap in which nothing but the script may be tracked
 have core:∀H:Hp,yS H->SqL K H a (ns.map V.int)->HOk P w H s₁.heap->(∀b,H b≠none->b=a)->(H a≠none->K.lookup a=none)->
   codeAny (model P w) callerA (.call (.ref fa) ⟨[.ref a],[]⟩) (λr s'=>r=.ok (.ret<|.bool true)/\OldK s₁.heap s'.heap/\s'.os=s₁.os/\AllBare s'.gens) s₁:=by
  intro H hO hS hok hA hK;have base_of:∀{b:Addr} {o:Obj},s₁.heap.get? b=some o->H b=none->(oi s₁.heap H).get? b=some o:=λe n=>yL e n;have noA:∀{b:Addr} {o:Obj} {es:Array DictEntry} {ep:Nat},s₁.heap.get? b=some o->o.data=.dict es ep->H b=none:=λ{b o es ep} e d=>by
   cases q:H b with
   |none=>rfl
   |some u=>
    have e':b=a:=hA b (by rw[q];simp)
    subst e';rw[ha]at e;cases e;have d':Data.seq vs.toArray _=Data.dict es ep:=d;cases d'
  have nsK:∀{b:Addr} {m:Str->Option Value},s₁.heap.Ns b m->(oi s₁.heap H).Ns b m:=λ{b m} ⟨o,es,ep,e,d,r⟩=>⟨o,es,ep,base_of e (noA e d),d,r⟩;have hKb:K.In (oi s₁.heap H):=λb o e=>base_of (KX b o e) (by
   cases q:H b with
   |none=>rfl
   |some u=>
    have e':b=a:=hA b (by rw[q];simp)
    subst e';rw[hK (by rw[q];simp)]at e;cases e)
  have hM:Mod K mg (oi s₁.heap H):=⟨hKb,nsK hns,⟨mb,nsK hb,hbb⟩,let ⟨mc,h1,h2⟩:=hlim;⟨mc,nsK h1,h2⟩⟩;have e0:Env0 P w K mg (oi s₁.heap H) callerA [] s₁ H:=⟨rfl,hM,λb o e=>C8 e,NP (xB _ _),trivial,λb hb=>absurd (show b∈([]:List Addr) from hb) (by simp),hok,.of_eq hg⟩
  refine codeAny_mono ((F _ hKb<|nsK hns).run callerA [] s₁ H ⟨[.ref a],[]⟩ [.ref a] [.ref a] _ _ hr e0 (hbind s₁<|.ref a) (.cons rfl .nil)<|hsp H hO hS) λr s' h=>?_;cases r with
  |error e=>exact(hCX H e s' h).elim
  |ok fl=>
   cases fl with
   |next=>exact Kr h
   |brk=>exact Kr h
   |cont=>exact Kr h
   |ret u=>
    obtain⟨v,H',os,bare,un,hok',r',q⟩:=h;have q':v=.bl true:=q;subst q';obtain rfl:u=Lq true:=r';refine⟨rfl,OldK.of_keep λb o e=>?_,os,bare⟩;cases q:H b with
    |none=>exact un.keep b o e q (by intro z;exact absurd (show b∈([]:List Addr) from z) (by simp)) (by simp)
    |some u=>
     rcases hO b with z|⟨ob,xs,z⟩
     .rw[q]at z;cases z
     .have z2:=un.frzs b ob _ z
      obtain⟨e1,_⟩:=hok b _ z;obtain⟨e2,_⟩:=hok' b _ z2;rw[e]at e1;cases e1;exact e2
 cases hk:K.lookup a with
 |some o=>
  -- the script is one of the module's own objects
  have e:=KX a o hk;rw[ha]at e;cases e;refine core (λ_=>none) (λ_=>.inl rfl) (.inr ⟨_,vs.toArray,_,hk,rfl,rfl,rfl,by rw[JI,lenV];exact hl,by simpa using rv⟩) (λb u z=>by have z':(none:Option HO)=some u:=z;cases z') (λb z=>absurd rfl z) λz=>absurd rfl z
 |none=>
  refine core (λb=>if b=a then some (.frz { cls:=.type "list",data:=.seq vs.toArray }<|.lst<|ns.map V.int) else none) (λb=>?_) (.inl<|.inr ⟨{ cls:=.type "list",data:=.seq vs.toArray },if_pos rfl⟩) (λb u z=>?_) (λb z=>?_) λ_=>hk
  .by_cases hb:b=a
   .exact .inr ⟨_,_,if_pos hb⟩
   .exact .inl (if_neg hb)
  .by_cases hb:b=a
   .have z':=(if_pos hb).symm.trans z
    cases z';subst hb;exact⟨ha,by rw[JK];exact hl,vs,_,rv,ha⟩
   .have z':=(if_neg hb).symm.trans z
    cases z'
  .by_cases hb:b=a
   .exact hb
   .exact absurd (if_neg hb) z
theorem BB{l:W.OpenLaw}{n k:Nat}{q:Program}{loose:List Str}{XP:(Str->Option Value)->Heap->Prop}{YP:World->Heap->Prop}{d:DefRec}{K:Params->JF}{CX:World->iJ}{sp:World->Sp}{x:Str}
  (hn:l.most=some n) (hn2:n<=sizeLine) (hdf:d.params.defaults=[]) (hr:Room k callerA)
  (hY:∀(w:World) (h:Heap),YP w h->(K w.params).In h)
  (F:∀(w:World) (mg:Str->Option Value) (fa:Addr) (h:Heap),(K w.params).In h->h.Ns mainGlobals mg->mg d.name=some (.ref fa)->
   ∃fd:FuncData,(∀(s:Shared) (u:Value),BindsTo s fd ⟨[u],[]⟩ [(x,u)])/\
    ∀base:Heap,(K w.params).In base->base.Ns mainGlobals mg->FnOk l.prog w (K w.params) mg base (CX w) k fa fd [x] (sp w))
  (hsp:∀(w:World) (H:Hp) (a:Addr) (ns:List Int),ns.length<=n->yS H->SqL (K w.params) H a (ns.map V.int)->sp w [.ref a] H (λv _=>v=.bl true) λ_ _ _=>False)
  (hCX:∀(w:World) (H:Hp) (s:Shared) (e:Value) (s':Shared),CX w [] H s (λ_ _ _=>False) e s'->False):
  W.WalkO q loose XP YP l.row.toRowW d [] (λf vs=>O8 f vs):=by
 refine Att.oQ hn hdf λw s₀ s₁ mg mb fa o pm cd doc a vs ns G Y ho hd hcd hmg hobj hints hlen hg=>?_;have KX:=hY w _ Y;obtain⟨fd,hb,hF⟩:=F w mg fa _ KX G.T.g hmg;exact A7 KX G.T.g G.T.b G.T.builtins G.T.nolimit hg hobj hints (Ki hlen hn2) hr hF hb (λH hO hS=>hsp w H a ns hlen hO hS) λH e s'=>hCX w H s₁ e s'
def De(s:Stmt)(j:Nat):Stmt:=match s with
 |.ClassDef _ _ _ body _ _ _ _ _ _ _=>body.getD j (.Pass ⟨0,0,0,0⟩)
 |_=>.Pass ⟨0,0,0,0⟩
def dH(s:Stmt):Arguments:=match s with
 |.FunctionDef _ a _ _ _ _ _ _ _ _=>a
 |_=>{ posonlyargs:=[],args:=[],vararg:=none,kwonlyargs:=[],kw_defaults:=[],kwarg:=none,defaults:=[] }
def cm(s:Stmt):List Stmt:=match s with
 |.FunctionDef _ _ b _ _ _ _ _ _ _=>b
 |_=>[]
def aQ(s:Stmt):Scope:=match s with
 |.FunctionDef _ _ _ _ _ _ sc _ _ _=>sc
 |_=>{ kind:=.function,names:=[],isGenerator:=false,isCoroutine:=false }
abbrev CX0:iJ:=λ_ _ _ _ _ _=>False
abbrev E0:XK:=λ_ _ _=>False
structure Fun(K:JF)(x qual:Str)(st:Stmt)(f:Addr)(fd:FuncData):Prop where
 ex:∃(oc:Value) (od:Option Addr) (kV doc pm:Value) (an:Option Addr) (cdv ct:Value) (osl:Array (Option Value)),
  fd=Nj x qual (dH st) (cm st) (aQ st) .none kV doc pm an cdv ct/\K.lookup f=some ⟨oc,od,.func fd,osl⟩/\W.codeIn K cdv qual=true
 kp:Md K (.ref f)=true
section
variable {P:Program}{w:World}{K:JF}{mg:Str->Option Value}{base:Heap}
theorem Fun.binds{x qual:Str}{st:Stmt}{f:Addr}{fd:FuncData}{ps:List Str}(F:Fun K x qual st f fd)
  (h:∀(kV doc pm:Value) (an:Option Addr) (cdv ct:Value) (us:List Value),us.length=ps.length->bindArgs (Nj x qual (dH st) (cm st) (aQ st) .none kV doc pm an cdv ct) ⟨us,[]⟩=pure (ps.zip us)):Binds K fd ps []:=by
 obtain⟨oc,od,kV,doc,pm,an,cdv,ct,osl,rfl,lk,hcd⟩:=F.ex;exact .all (h kV doc pm an cdv ct)
theorem A2{x qual:Str}{st:Stmt}{f:Addr}{oc:Value}{od an:Option Addr}{osl:Array (Option Value)}{kV doc pm cdv ct:Value}(l:K.lookup f=some ⟨oc,od,.func (Nj x qual (dH st) (cm st) (aQ st) .none kV doc pm an cdv ct),osl⟩)
  (c:W.codeIn K cdv qual=true) (k:Md K (.ref f)=true):Fun K x qual st f (Nj x qual (dH st) (cm st) (aQ st) .none kV doc pm an cdv ct):=⟨⟨oc,od,kV,doc,pm,an,cdv,ct,osl,rfl,l,c⟩,k⟩
end
theorem zF{A:Around}{k:Nat}(hr:Room k A):A.units+1<cLine:=NH (Nat.add_le_add_left (by decide:1<=64) _) hr.units
section
variable {X:Cx}
theorem wL:bz X (.builtin "len") (λxs H Q=>∃a kvs,xs=[V.ref a]/\H a=some (.dK kvs)/\Q (.int kvs.length) H):=by
 intro pins s U H xs us Q I r h;obtain⟨a,kvs,rfl,ha,q⟩:=h;obtain⟨u,rfl,ru⟩:=fG r;cases ru;exact IV I (.inl ha) λt s' I'=>⟨.int kvs.length,H,I',⟨t,rfl⟩,q⟩
end
section
variable {κ:Type}[DecidableEq κ]
end
section
variable {prog:Program}{w:World}{A:Around}{R:Result->Shared->Prop}{s:Shared}
theorem oy{elt target iter:Expr}{ifs:List Expr}{scope:Scope}{pos:Pos}{it acc:Value}{env:Env}(I:Nat->Shared->Prop)
  (turn:∀n s,I n s->wpAny (model prog w) A (pyNext it) (λr s₁=>match r with
   |none=>R (.ok .next) s₁
   |some v=>wpAny (model prog w) A (letOwnedTupleGo target it v) (λ_ s₂=>wpAny (model prog w) A (assign target env v) (λ_ s₃=>
     wpAny (model prog w) A (forIn ifs true λc r=>if r=true then do let ok <- isTrue c env (eval c env);pure (MK ok) else pure (MK r)) (λok s₄=>
      if ok=true then wpAny (model prog w) A (eval elt env) (λx s₅=>
       wpAny (model prog w) A (call (.builtin "list.append") [acc,x]) (λ_ s₆=>∃m,m<n/\I m s₆) (λ_ _=>False) s₅) (λ_ _=>False) s₄
      else ∃m,m<n/\I m s₄) (λ_ _=>False) s₃) (λ_ _=>False) s₂) (λ_ _=>False) s₁) (λ_ _=>False) s)
  (n:Nat) (h:I n s):
  codeAny (model prog w) A (.compLoop (.ListComp elt [⟨target,iter,ifs,0⟩] scope pos) 0 it acc env) R s:=by
 refine codeAny_loop rfl I (λn s hI=>?_) n h;show wpAny _ A ((compTurn (.ListComp elt [⟨target,iter,ifs,0⟩] scope pos) 0 it acc env).onRaise λx=>do noteFrame x env;theTreesLotGoes x) _ _ s
 refine wpAny_noted ?_;rw[compTurn_list];refine wpAny_bind (wpAny_standAt<|wpAny_bind (wpAny_mono (turn n s hI) (λr s₁ h₁=>?_) λ_ _ z=>z.elim));cases r with
 |none=>exact wpAny_pure h₁
 |some v=>
  refine wpAny_bind (wpAny_mono h₁ (λ_ s₂ h₂=>wpAny_bind (wpAny_mono h₂ (λ_ s₃ h₃=>wpAny_bind (wpAny_mono h₃ (λok s₄ h₄=>?_) λ_ _ z=>z.elim)) λ_ _ z=>z.elim)) λ_ _ z=>z.elim);cases ok with
  |false=>exact wpAny_pure ⟨rfl,h₄⟩
  |true=>
   exact wpAny_bind (wpAny_bind (wpAny_mono h₄ (λx s₅ h₅=>wpAny_bind (wpAny_mono h₅ (λ_ s₆ h₆=>wpAny_pure (wpAny_pure ⟨rfl,h₆⟩)) λ_ _ z=>z.elim)) λ_ _ z=>z.elim))
end
def bB(X:Cx)(N:List Str)(scope:Scope)(cl:List (Str×Addr))(C:Addr)(s₀:Shared)(H₀:Hp)(fp:List Addr)(pl:List (Addr×Obj)):Cx where
 prog:=X.prog
 w:=X.w
 K:=X.K
 mg:=X.mg
 base:=X.base
 A:=X.A
 N:=N
 s₀:=s₀
 H₀:=H₀
 env:=compEnvC scope cl C X.env
 outer:=X.stack
 stack:=X.stack
 ex:=fp
 fn:=λ_=>false
 calm:=X.calm
 pn:=X.pn++pl
 xe:=λ_ _=>False
inductive Frees(X:Cx)(scope:Scope):List Str->List Nat->Prop where
 |nil:Frees X scope [] []
 |cons {x:Str} {j:Nat} {xs:List Str} {js:List Nat}:X.N[j]?=some x->(X.env.kindOf x=some .cell\/X.env.kindOf x=some .free)->
   ((relabel scope X.env).names.lookup x=some .cell\/(relabel scope X.env).names.lookup x=some .free)->Frees X scope xs js->Frees X scope (x::xs) (j::js)
theorem Frees.length{X:Cx}{scope:Scope}:∀{xs:List Str} {js:List Nat},Frees X scope xs js->xs.length=js.length
 |_,_,.nil=>rfl
 |_,_,.cons _ _ _ t=>congrArg (·+1) t.length
theorem Frees.get{X:Cx}{scope:Scope}:∀{xs:List Str} {js:List Nat},Frees X scope xs js->∀{i:Nat} {x:Str},xs[i]?=some x->∃j,js[i]?=some j/\X.N[j]?=some x/\(X.env.kindOf x=some .cell\/X.env.kindOf x=some .free)/\
   ((relabel scope X.env).names.lookup x=some .cell\/(relabel scope X.env).names.lookup x=some .free)
 |_,_,.nil,i,x,h=>by simp at h
 |_,_,.cons a b c _,0,x,h=>by simp at h;subst h;exact⟨_,rfl,a,b,c⟩
 |_,_,.cons _ _ _ t,i+1,x,h=>by
  obtain⟨j,h1,h2⟩:=t.get (i:=i) (x:=x) (by simpa using h)
  exact⟨j,by simpa using h1,h2⟩
def cI(ls:List Str)(js:List Nat)(U:St):St:=ls.map (λ_=>none)++js.map λj=>(U[j]?).join
structure CompOk(X:Cx)(scope:Scope)(cl:List (Str×Addr))(ls fs:List Str)(js:List Nat):Prop where
 kind:scope.kind=.function
 nocell:∀y∈scope.names,y.2≠.cell
 locs:∀x∈scope.names,x.2=.local->scope.names.lookup x.1=some .local
 clos:closureFor scope X.env=pure cl
 cells:∀x c,cl.lookup x=some c->X.env.cells.lookup x=some c
 has:∀x,((relabel scope X.env).names.lookup x=some .cell\/(relabel scope X.env).names.lookup x=some .free)->∃c,cl.lookup x=some c
 frees:Frees X scope fs js
theorem yQ{X:Cx}{pins:List (Addr×Obj)}{U:St}{H:Hp}{s:Shared}{scope:Scope}{cl:List (Str×Addr)}{ls fs:List Str}{js:List Nat}{fp:List Addr}{h₁:Heap}{m:Str->Option Value}{t':Nat}
  (I:Inv X pins U H s) (co:CompOk X scope cl ls fs js) (hfp:∀b∈fp,gR X pins H b/\b<s.heap.objs.size) (hns:h₁.Ns s.heap.objs.size m) (hk:∀b o,s.heap.get? b=some o->h₁.get? b=some o):
  Inv (bB X (ls++fs) scope cl s.heap.objs.size s H fp pins) [] (cI ls js U) H { s with heap:=h₁,toks:=t' }:=by
 have lk:∀b o,s.heap.get? b=some o->b≠s.heap.objs.size:=λb o e=>JS (JJ e);refine⟨⟨I.ok.mod,co.kind,I.ok.glob,I.ok.blt,JE _,λx y c h1 h2=>?_,λx hx=>co.has x hx,λx c h _=>absurd (show false=true from h) JY,I.ok.hd,I.ok.frames,.inl rfl,λb hb=>⟨JS (hfp b hb).2,λx c e=>?_⟩,
   λb o e=>I.bs b o e,Ki I.ok.bsz I.sz,λb o e hb=>?_,λb hb hf=>?_,I.stack,λb hb=>I.stkFree b hb⟩,
  rfl,I.bare,Un.kept hk,⟨m,hns,λi x v h1 h2 h3=>?_⟩,λx c e=>?_,I.hok.fresh (JE _),λx c e=>I.freeC x c (co.cells x c e),λp hp=>?_,I.hok.kept hk,?_⟩
 .exact I.ok.inj x y c (co.cells x c h1) (co.cells y c h2)
 .exact(hfp b hb).1.2.2.2.2.1 x c (co.cells x c e)
 .obtain⟨f0,f1,f2,f3,_⟩:=(hfp b hb).1
  rcases f3 with z|z
  .exact I.ok.noex b o e z
  .exact absurd (JX (JJ (I.ok.bs b o e).1) z) (KL _)
 .obtain⟨f0,f1,f2,f3,_⟩:=(hfp b hb).1
  rcases JM.mp (I.stkSub b hf) with z|z
  .exact f1 z
  .exact f2 z
 .have hi:¬i<ls.length:=λhi=>by
   have h2':(cI ls js U)[i]?=some (some v):=h2;unfold cI at h2';rw[Lo (by simpa using hi),Kf,JG hi]at h2'
   cases h2'
  have hN:fs[i-ls.length]?=some x:=by
   have h1':(ls++fs)[i]?=some x:=h1
   rwa [KS (by lia)]at h1'
  obtain⟨j,hj,hx,hc,hl⟩:=co.frees.get hN;have hσ:U[j]?=some (some v):=by
   have h2':(cI ls js U)[i]?=some (some v):=h2;unfold cI at h2';rw[KS (by simpa using hi),JK,Kf,hj]at h2'
   have q:(U[j]?).join=some v:=by simpa using h2'
   cases e:U[j]? with
   |none=>rw[e]at q;cases q
   |some o=>rw[e]at q;have q':o=some v:=q;rw[q']
  obtain⟨mX,_,hlX⟩:=I.loc;have vis:Hq X.env.scope x:=by
   rcases hc with z|z
   .exact .inr (.inl z)
   .exact .inr (.inr z)
  obtain⟨u,ru,lo⟩:=hlX j x v hx hσ vis;refine⟨u,ru,.inr ⟨hl,?_⟩⟩;obtain⟨c,ec⟩:=co.has x hl;refine⟨c,ec,?_⟩;rcases lo with⟨kl,_⟩|⟨_,c',e',z⟩
  .rcases hc with q|q<;>(rw[q]at kl;cases kl)
  .rw[co.cells x c ec]at e'
   cases e';obtain⟨o,ho,hd⟩:=z;exact⟨o,hk _ _ ho,hd⟩
 .obtain⟨v,o,ho,hd⟩:=I.cell x c (co.cells x c e)
  exact⟨v,o,hk _ _ ho,hd⟩
 .have hp':p∈X.pn++pins:=by
   have q:p∈(X.pn++pins)++[]:=hp;simpa using q
  obtain⟨e,n,ne,nf,d⟩:=I.pin p hp';refine⟨hk _ _ e,n,lk _ _ e,λhb=>?_,d⟩;rcases JM.mp (I.stkSub p.1 hb) with z|z
  .exact ne z
  .exact nf z
 .show (cI ls js U).length=(ls++fs).length
  unfold cI;rw[JD,JK,JK,JD,co.frees.length]
def Hs(X:Cx)(ifs:List Expr)(t:TT):Prop:=
 ∀(pins:List (Addr×Obj)) (s:Shared) (U:St) (H:Hp) (Q:Bool->Hp->Prop),Inv X pins U H s->t U H Q->
  wpAny (model X.prog X.w) X.A (forIn ifs true λc r=>if r=true then do let ok <- isTrue c X.env (eval c X.env);pure (MK ok) else pure (MK r)) (TP X pins U Q) X.xe s
def tAll:TT:=λ_ H Q=>Q true H
theorem Cq{X:Cx}:Hs X [] tAll:=λ_ _ _ H _ I h=>wpAny_tests_nil ⟨H,I,h⟩
theorem Co{X:Cx}{c:Expr}{t:TT}(h:PT X c t):Hs X [c] t:=λpins s U H Q I q=>wpAny_tests_one (h pins s U H Q I q)
def Et(wi:TI)(ls:List Str)(js:List Nat)(g:TG)(tt:TT)(te:TE):TE:=λU H Q=>wi U H λJ H1=>∀p,H1 p=none->∃W:Nat->Nat->St->Hp->Prop,(∃m,W 0 m (cI ls js U) (upd H1 p<|.lst []))/\∀i m σ' H',W i m σ' H'->
 (J.stop i H'/\Q (.ref p) H')\/(J.go i H'/\∃N:St->Hp->Prop,(∀σ2 H2,N σ2 H2->∃m',m'<m/\W (i+1) m' σ2 H2)/\∀x H2,J.yld i H' x H2->g x σ' H2 λσ3 H3=>tt σ3 H3 λc H4=>
  if c=true then te σ3 H4 λy H5=>∃ys,H5 p=some (.lst ys)/\ys.length<sizeLine/\N σ3 (upd H5 p<|.lst (ys++[y])) else N σ3 H4)
section
variable {X:Cx}{tg iter elt:Expr}{ifs:List Expr}{scope:Scope}{cl:List (Str×Addr)}{pos:Pos}{ls fs:List Str}{js:List Nat}{wi:TI}{g:TG}{tt:TT}{te:TE}
theorem zq{pins:List (Addr×Obj)}{U:St}{s2:Shared}{it:Addr}{fp:List Addr}{tn:Nat->Heap->Prop}{J:It}{H1:Hp}{R:Value->Addr->Result->Shared->Prop}{Q:VK}{E:Value->Shared->Prop}(hc:X.calm=true)(co:CompOk X scope cl ls fs js)
  (hY:∀(C:Addr) (s₀:Shared) (H₀:Hp) (fp:List Addr) (pl:List (Addr×Obj)),PG (bB X (ls++fs) scope cl C s₀ H₀ fp pl) tg g/\Hs (bB X (ls++fs) scope cl C s₀ H₀ fp pl) ifs tt/\PE (bB X (ls++fs) scope cl C s₀ H₀ fp pl) elt te)
  (I:Inv X pins U H1 s2) (T:Turn X.prog X.w X.K tg J fp it tn) (st:tn 0 s2.heap) (hf:∀b∈fp,gR X pins H1 b)
  (q:∀p,H1 p=none->∃W:Nat->Nat->St->Hp->Prop,(∃m,W 0 m (cI ls js U) (upd H1 p<|.lst []))/\∀i m σ' H',W i m σ' H'->
   (J.stop i H'/\Q (.ref p) H')\/(J.go i H'/\∃N:St->Hp->Prop,(∀σ2 H2,N σ2 H2->∃m',m'<m/\W (i+1) m' σ2 H2)/\∀x H2,J.yld i H' x H2->g x σ' H2 λσ3 H3=>tt σ3 H3 λc H4=>
    if c=true then te σ3 H4 λy H5=>∃ys,H5 p=some (.lst ys)/\ys.length<sizeLine/\N σ3 (upd H5 p<|.lst (ys++[y])) else N σ3 H4))
  (hR:∀(p C:Addr) (H':Hp) (s':Shared) (m:Str->Option Value),s'.heap.Ns C m->Inv X pins U H' s'->H' C=none->C≠X.env.locals->X.s₀.heap.objs.size<=C->(∀x c,X.env.cells.lookup x=some c->c≠C)->(∀pp∈X.pn++pins,pp.1≠C)->Q (.ref p) H'->R (.ref p) C (.ok .next) s'):
  wpAny (model X.prog X.w) X.A (newList []) (λacc s₃=>wpAny (model X.prog X.w) X.A (newFunctionEnv scope X.env.globals cl [] X.env.qual none .none<|some X.env) (λcenv s₄=>
   codeAny (model X.prog X.w) X.A (.compStart (.ListComp elt [⟨tg,iter,ifs,0⟩] scope pos) 0 (.ref it) acc { cenv with scope:=relabel scope X.env }) (R acc cenv.locals) s₄) E s₃) E s2:=by
 have hp0:H1 s2.heap.objs.size=none:=I.hok.fresh (JE _);obtain⟨W,⟨m0,w0⟩,turn⟩:=q s2.heap.objs.size hp0;refine wpAny_newObj_type (wpAny_newFunctionEnv co.nocell (by intro y hy;simp at hy) (λh₁ hns1 hsb1=>?_) co.kind)
 dsimp only at hns1 hsb1 ⊢;have I3:Inv X pins U (upd H1 s2.heap.objs.size<|.lst []) { s2 with heap:=s2.heap.push { cls:=.type "list",dict:=none,data:=.seq ([]:List Value).toArray } }:=
  I.lnew (its:=[]) (t':=s2.toks) .nil (KR _)
 generalize hs3:({ s2 with heap:=s2.heap.push { cls:=.type "list",dict:=none,data:=.seq ([]:List Value).toArray } }:Shared)=s3 at I3;have hh3:s2.heap.push { cls:=.type "list",dict:=none,data:=.seq ([]:List Value).toArray }=s3.heap:=by rw[<- hs3]
 rw[hh3]at hns1 hsb1 ⊢;have hsz3:s3.heap.objs.size=s2.heap.objs.size+1:=by rw[<- hh3,Ke]
 have hk3:∀b o,s2.heap.get? b=some o->s3.heap.get? b=some o:=λb o e=>by rw[<- hh3];exact JB _ e
 have hlt:∀b∈fp,b<s2.heap.objs.size:=λb hb=>by
  obtain⟨o,e,_⟩:=T.obj _ _ st b hb;exact JJ e
 have hnp:∀b∈fp,upd H1 s2.heap.objs.size (.lst []) b=none:=λb hb=>by
  rw[az (JS<|hlt b hb)];exact(hf b hb).1
 have hf3:∀b∈fp,gR X pins (upd H1 s2.heap.objs.size<|.lst []) b/\b<s3.heap.objs.size:=λb hb=>⟨⟨hnp b hb,(hf b hb).2⟩,by rw[hsz3];exact NO (hlt b hb)⟩
 have hk4:∀b o,s3.heap.get? b=some o->h₁.get? b=some o:=λb o e=>hsb1.extBut b o (JS<|JJ e) (JB _ e);have st4:tn 0 h₁:=T.keep _ _ _ st λb hb o e=>hk4 b o (hk3 b o e);have I4:=yQ (t':=s3.toks) I3 co hf3 hns1 hk4;obtain⟨hg,ht,he⟩:=hY s3.heap.objs.size s3 (upd H1 s2.heap.objs.size<|.lst []) fp pins;have stat:∀{H':Hp},(∀b∈fp,H' b=none)->∀b∈fp,gR (bB X (ls++fs) scope cl s3.heap.objs.size s3 (upd H1 s2.heap.objs.size<|.lst []) fp pins) [] H' b:=λ{H'} hn b hb=>by
  obtain⟨f0,f1,f2,f3,f4,f5⟩:=hf b hb;refine⟨hn b hb,JS (hf3 b hb).2,λz=>?_,.inl hb,λx c e=>f4 x c (co.cells x c e),λpp hp=>f5 pp ?_⟩
  .rcases JM.mp (I3.stkSub b z) with y|y
   .exact f1 y
   .exact f2 y
  .have q:pp∈(X.pn++pins)++[]:=hp
   simpa using q
 have loop:∀s₄:Shared,s₄={ s3 with heap:=h₁,toks:=s3.toks }->
   codeAny (model X.prog X.w) X.A (.compLoop (.ListComp elt [⟨tg,iter,ifs,0⟩] scope pos) 0 (.ref it) (.ref s2.heap.objs.size)<|compEnvC scope cl s3.heap.objs.size X.env) (R (.ref s2.heap.objs.size) s3.heap.objs.size) s₄:=by
  rintro s₄ rfl
  refine oy (λn s'=>∃i σ' H',Inv (bB X (ls++fs) scope cl s3.heap.objs.size s3 (upd H1 s2.heap.objs.size<|.lst []) fp pins) [] σ' H' s'/\tn i s'.heap/\(∀b∈fp,H' b=none)/\W i n σ' H') ?_ m0 ⟨0,_,_,I4,st4,hnp,w0⟩
  rintro n s5 ⟨i,σ5,H5,I5,st5,fr5,w5⟩
  rcases turn i n σ5 H5 w5 with⟨stop,qn⟩|⟨go,N,hN,step⟩
  .refine bG (T.done (bB X (ls++fs) scope cl s3.heap.objs.size s3 (upd H1 s2.heap.objs.size<|.lst []) fp pins) rfl rfl rfl hc i [] s5 σ5 H5 _ I5 (stat fr5) st5 stop) λr s6 ⟨hr,I6⟩=>?_
   subst hr;obtain⟨m6,hn6,_⟩:=I6.loc;have IX:Inv X pins U H5 s6:=I3.call' I6.os I6.base I6.hok I6.bare λb hb=>⟨(hf b hb).2.2.2.1,(hf b hb).2.1,(hf b hb).2.2.2.2.1,(hf b hb).2.2.2.2.2⟩;refine hR _ _ H5 s6 m6 hn6 IX I6.free (LY I3.lt) I3.sz (λx c e z=>?_) (λpp hp z=>?_) qn
   .obtain⟨v,zz⟩:=I3.cell x c e
    have zl:=zz.lt;rw[z]at zl;exact KL _ zl
   .have zl:=JJ (I3.pin pp hp).1
    rw[z]at zl;exact KL _ zl
  .refine bG (T.item (bB X (ls++fs) scope cl s3.heap.objs.size s3 (upd H1 s2.heap.objs.size<|.lst []) fp pins) rfl rfl rfl hc i [] s5 σ5 H5 _ I5 (stat fr5) st5 go) λr s6 ⟨u,hr,h6⟩=>?_
   subst hr;refine bG h6 λ_ s7 ⟨x,H7,I7,r7,y7,st7,fr7⟩=>?_;have I7':=I7.pinned (stat fr7) (T.obj _ _ st7);refine bG (hg _ s7 σ5 H7 x u _ I7' r7<|step x H7 y7) λ_ s8 ⟨σ8,H8,I8,q8⟩=>?_
   have again:∀{σ9:St} {H9:Hp} {s9:Shared},Inv (bB X (ls++fs) scope cl s3.heap.objs.size s3 (upd H1 s2.heap.objs.size<|.lst []) fp pins) ([]++ko fp s7.heap) σ9 H9 s9->N σ9 H9->
     ∃m,m<n/\∃i σ' H',Inv (bB X (ls++fs) scope cl s3.heap.objs.size s3 (upd H1 s2.heap.objs.size<|.lst []) fp pins) [] σ' H' s9/\tn i s9.heap/\(∀b∈fp,H' b=none)/\W i m σ' H':=λ{σ9 H9 s9} I9 n9=>by
    obtain⟨m',hm,w9⟩:=hN σ9 H9 n9;refine⟨m',hm,i+1,σ9,H9,I9.unpinned,T.keep _ _ _ st7 λb hb o e=>(I9.pin (b,o)<|Ka _<|Ka _<|dR hb e).1,λb hb=>?_,w9⟩;obtain⟨o,e,d⟩:=T.obj _ _ st7 b hb;exact(I9.pin (b,o)<|Ka _<|Ka _<|dR hb e).2.1
   refine bG (ht _ s8 σ8 H8 _ I8 q8) λok s9 ⟨H9,I9,q9⟩=>?_;cases ok with
   |false=>exact again I9 q9
   |true=>
    refine bG (he _ s9 σ8 H9 _ I9 q9) λxv s10 ⟨y,H10,I10,r10,ys,hp,hl,n10⟩=>?_;obtain⟨z,its,n',r,hl',e⟩:=I10.lstM hp;refine call_meets Nv ⟨_,e,rfl⟩ F.entry_list_append (F.args_list_append_2 _ _) (Pf s2.heap.objs.size its.toArray n' xv<|by rw[JI];lia) ⟨e,?_⟩
    refine again (I10.lset (its':=its++[xv]) hp e (by simp) (r.append<|.cons r10 .nil) ?_) n10
    rw[JD,KZ];lia
 have se:({ s2 with heap:=h₁,toks:=s2.toks+([]:List (Str×Value)).length }:Shared)={ s3 with heap:=h₁,toks:=s3.toks }:=by rw[<- hs3];rfl
 exact codeAny_compStart_list (loop _ se) (T.self _ 0 _ _ _ st4<|loop _ se)
theorem D1(hc:X.calm=true)(co:CompOk X scope cl ls fs js)(hi:PI X tg iter wi)
  (hY:∀(C:Addr) (s₀:Shared) (H₀:Hp) (fp:List Addr) (pl:List (Addr×Obj)),PG (bB X (ls++fs) scope cl C s₀ H₀ fp pl) tg g/\Hs (bB X (ls++fs) scope cl C s₀ H₀ fp pl) ifs tt/\PE (bB X (ls++fs) scope cl C s₀ H₀ fp pl) elt te)
  (hs:∀x,foldedSetIterable iter X.env x=pure x:=by intro _;rfl):PE X (.ListComp elt [⟨tg,iter,ifs,0⟩] scope pos) (Et wi ls js g tt te):=by
 intro pins s U H Q I h;rw[eval_ListComp];refine wpAny_comprehension_free (use:=none) rfl hs co.clos co.kind co.locs (bG (hi pins s U H _ I h) λxv s1 h1=>bG h1 λitv s2 h2=>?_);obtain⟨it,fp,tn,J,H2,e,I2,T,st2,f2,q⟩:=h2;subst e;refine zq (R:=λacc C=>compPost (model X.prog X.w) X.A X.xe none (EP X pins U Q) acc C) (Q:=Q) hc co hY I2 T st2 f2 q ?_;intro p C H' s' m hn IX hC hL hge hcell hpin hq;exact⟨m,hn,λh' sb=>⟨.ref p,H',IX.turned (t':=s'.toks) (λb o hb e=>sb.extBut b o hb e) hC hL (.inr hge) hcell hpin,rfl,hq⟩⟩
end
def SrcTn(b:Bool)(it a:Addr)(i:Nat)(h:Heap):Prop:=if b=true then h.IsListIter it a i else h.IsTupleIter it a i
def SrcSq(b:Bool)(h:Heap)(a:Addr)(items:Array Value):Prop:=if b=true then h.IsList a items else h.IsTuple a items
theorem SrcTn.lt{b:Bool}{it a:Addr}{i:Nat}{h:Heap}(x:SrcTn b it a i h):∃o,h.get? it=some o/\∀v,o.data≠.cell v:=by
 cases b with
 |true=>obtain⟨o,e,c,d⟩:=(show h.IsListIter it a i from x);exact⟨o,e,λv z=>by rw[d]at z;cases z⟩
 |false=>obtain⟨o,e,c,d⟩:=(show h.IsTupleIter it a i from x);exact⟨o,e,λv z=>by rw[d]at z;cases z⟩
theorem SrcTn.keep{b:Bool}{it a:Addr}{i:Nat}{h h':Heap}(x:SrcTn b it a i h)(k:∀o,h.get? it=some o->h'.get? it=some o):SrcTn b it a i h':=by
 cases b with
 |true=>obtain⟨o,e,r⟩:=(show h.IsListIter it a i from x);exact(show h'.IsListIter it a i from ⟨o,k o e,r⟩)
 |false=>obtain⟨o,e,r⟩:=(show h.IsTupleIter it a i from x);exact(show h'.IsTupleIter it a i from ⟨o,k o e,r⟩)
theorem SrcSq.keep{b:Bool}{a:Addr}{items:Array Value}{h h':Heap}(x:SrcSq b h a items)(k:∀o,h.get? a=some o->h'.get? a=some o):SrcSq b h' a items:=by
 cases b with
 |true=>obtain⟨o,e,r⟩:=(show h.IsList a items from x);exact(show h'.IsList a items from ⟨o,k o e,r⟩)
 |false=>obtain⟨o,e,r⟩:=(show h.IsTuple a items from x);exact(show h'.IsTuple a items from ⟨o,k o e,r⟩)
section
variable {prog:Program}{w:World}{A:Around}{E:Value->Shared->Prop}{s:Shared}
theorem gI{it l:Addr}{i:Nat}{items:Array Value}{x:Value}{Q:Value->Shared->Prop}(hit:s.heap.IsTupleIter it l i)(hl:s.heap.IsTuple l items)(hx:items[i]?=some x)
  (hQ:∀h',h'.IsTupleIter it l (i+1)->K0 it s.heap h'->Q x { s with heap:=h' }):wpAny (model prog w) A (JV<|.ref it) Q E s:=by
 obtain⟨o,ho,hc,hd⟩:=id hit;obtain⟨ol,hol,_,nl,hdl⟩:=hl;unfold JV
 refine wpAny_bind (wpAny_callSpecial?_slot (name:=JL "__next__") hit.typeIs LW
  (wpAny_call_entry LW hit.typeIs Ox ?_<|Oo _))
 show wpAny _ _ (field (.ref it) 0 >>= _) _ _ s;refine wpAny_bind (wpAny_field ho hd (x:=.ref l) rfl ?_);show wpAny _ _ (if (Kh l==KN)=true then _ else _) _ _ s
 rw[if_neg (show ¬((Kh l==KN)=true) from JY)];show wpAny _ _ (field (.ref it) 1 >>= _) _ _ s;refine wpAny_bind (wpAny_field ho hd (x:=.int i 0) rfl ?_);show wpAny _ _ (seqItems? (.ref l) >>= _) _ _ s;refine wpAny_bind (wpAny_seqItems hol hdl ?_);simp only[KD,hx];refine wpAny_bind (wpAny_setField ho hd (by simp)<|wpAny_pure ⟨x,rfl,wpAny_pure<|hQ _ ?_<|KQ ..⟩)
 exact⟨_,LO _ ho (Obj.isFreed_of_fields<|Obj.data_mapFields hd _),(Obj.cls_mapFields ..).trans hc,by
  rw[Obj.data_mapFields hd];simp[rawInt]⟩
theorem gS{it l:Addr}{i:Nat}{items:Array Value}{Q:Value->Shared->Prop}(hh:A.handled=none)(hit:s.heap.IsTupleIter it l i)(hl:s.heap.IsTuple l items)(hx:items[i]?=none)
  (hE:∀h' e,Heap.ExtBut it s.heap h'->(∃o,h'.get? e=some o/\o.cls=.type "StopIteration")->E (.ref e) { s with heap:=h' }):wpAny (model prog w) A (JV<|.ref it) Q E s:=by
 obtain⟨o,ho,hc,hd⟩:=id hit;obtain⟨ol,hol,_,nl,hdl⟩:=hl;unfold JV
 refine wpAny_bind (wpAny_callSpecial?_slot (name:=JL "__next__") hit.typeIs LW
  (wpAny_call_entry LW hit.typeIs Ox ?_<|Oo _))
 show wpAny _ _ (field (.ref it) 0 >>= _) _ _ s;refine wpAny_bind (wpAny_field ho hd (x:=.ref l) rfl ?_);show wpAny _ _ (if (Kh l==KN)=true then _ else _) _ _ s
 rw[if_neg (show ¬((Kh l==KN)=true) from JY)];show wpAny _ _ (field (.ref it) 1 >>= _) _ _ s;refine wpAny_bind (wpAny_field ho hd (x:=.int i 0) rfl ?_);show wpAny _ _ (seqItems? (.ref l) >>= _) _ _ s;refine wpAny_bind (wpAny_seqItems hol hdl ?_);simp only[KD,hx];refine wpAny_bind (wpAny_rule<|wpAny_bind<|wpAny_setField ho hd (by simp) ?_)
 show wpAny _ _ (newExc (.type "StopIteration") [] >>= _) _ _ _;refine wpAny_bind ?_;simp only[newExc,newTuple];refine wpAny_bind (wpAny_newObj_type ?_<|by size_fits)
 refine wpAny_bind (m:=firstArgMember _ _) (wpAny_of_eq (a:=KN) (by first|rfl|(simp only[firstArgMember];rfl)) ?_)
 refine wpAny_newObj_type ?_ (by size_fits)
 simp only[raiseNew];refine wpAny_bind (wpAny_handled ?_)
 first|rw[show A.in1.handled=none from hh]|rw[hh]
 refine wpAny_bind (wpAny_pure<|wpAny_throw ?_);exact hE _ _ (((KQ ..).extBut.push _).push _) ⟨_,JH _ rfl,rfl⟩
theorem aR{b:Bool}{it l:Addr}{i:Nat}{items:Array Value}{x:Value}{Q:Value->Shared->Prop}(hit:SrcTn b it l i s.heap)(hl:SrcSq b s.heap l items)(hx:items[i]?=some x)
  (hQ:∀h',SrcTn b it l (i+1) h'->K0 it s.heap h'->Q x { s with heap:=h' }):wpAny (model prog w) A (JV<|.ref it) Q E s:=by
 cases b with
 |true=>exact wpAny_nextOf_list_item hit hl hx hQ
 |false=>exact gI hit hl hx hQ
theorem bn{b:Bool}{it l:Addr}{i:Nat}{items:Array Value}{Q:Value->Shared->Prop}(hh:A.handled=none)(hit:SrcTn b it l i s.heap)(hl:SrcSq b s.heap l items)(hx:items[i]?=none)
  (hE:∀h' e,Heap.ExtBut it s.heap h'->(∃o,h'.get? e=some o/\o.cls=.type "StopIteration")->E (.ref e) { s with heap:=h' }):wpAny (model prog w) A (JV<|.ref it) Q E s:=by
 cases b with
 |true=>exact wpAny_nextOf_list_end hh hit hl hx hE
 |false=>exact gS hh hit hl hx hE
def ay(b:Bool):String:=if b=true then "list_iterator" else "tuple_iterator"
theorem bS{b:Bool}{l:Addr}{items:Array Value}{Q:Value->Shared->Prop}(hl:SrcSq b s.heap l items)
  (hQ:Q (.ref s.heap.objs.size) { s with heap:=s.heap.push { cls:=.type (ay b),data:=.fields #[.ref l,.int 0 0] } }):wpAny (model prog w) A (pyIter<|.ref l) Q E s:=by
 cases b with
 |true=>exact wpAny_pyIter_list hl hQ
 |false=>exact wpAny_pyIter_tuple hl hQ
theorem fo{b:Bool}{h:Heap}{it l:Addr}(e:h.get? it=some { cls:=.type (ay b),data:=.fields #[.ref l,.int 0 0] }):SrcTn b it l 0 h:=by
 cases b with
 |true=>exact(show h.IsListIter it l 0 from ⟨_,e,rfl,rfl⟩)
 |false=>exact(show h.IsTupleIter it l 0 from ⟨_,e,rfl,rfl⟩)
structure ZApart(z TI TO i1 i2:Addr):Prop where
 TIz:TI≠z
 TOz:TO≠z
 i1z:i1≠z
 i2z:i2≠z
 TITO:TI≠TO
 TIi1:TI≠i1
 TIi2:TI≠i2
 TOi1:TO≠i1
 TOi2:TO≠i2
 i12:i1≠i2
def y4(z TO i1 i2 l:Addr):Prop:=l≠z/\l≠TO/\l≠i1/\l≠i2
theorem yJ{b1 b2:Bool}{z TI TO i1 i2 l1 l2:Addr}{k1 k2:Nat}{xs ys:Array Value}{x y a b:Value}{Q:Value->Shared->Prop}(D:ZApart z TI TO i1 i2)(O1:y4 z TO i1 i2 l1)(O2:y4 z TO i1 i2 l2)
  (hz:IsZip s.heap z TI TO .none) (hTI:IsPair s.heap TI (.ref i1) (.ref i2)) (hTO:IsPair s.heap TO a b)
  (h1:SrcTn b1 i1 l1 k1 s.heap) (h2:SrcTn b2 i2 l2 k2 s.heap) (hl1:SrcSq b1 s.heap l1 xs) (hl2:SrcSq b2 s.heap l2 ys) (hx:xs[k1]?=some x) (hy:ys[k2]?=some y)
  (hQ:∀h',IsZip h' z TI TO (rawInt s.heap.objs.size)->IsPair h' TO x y->SrcTn b1 i1 l1 (k1+1) h'->SrcTn b2 i2 l2 (k2+1) h'->IsPair h' s.heap.objs.size x y->h'.objs.size=s.heap.objs.size+1->
   (∀c o,c≠z->c≠TO->c≠i1->c≠i2->s.heap.get? c=some o->h'.get? c=some o)->Q (.ref s.heap.objs.size) { s with heap:=h' }):
  wpAny (model prog w) A (Builtin.«zip.__next__» ⟨[.ref z],[]⟩) (λfin s'=>∃v,fin=.done (.ret v)/\Q v s') E s:=by
 show wpAny _ _ (field (.ref z) 2 >>= _) _ _ _;refine wpAny_bind (wpAny_field hz rfl (x:=.bool false) rfl ?_);show wpAny _ _ (field (.ref z) 3 >>= _) _ _ _;refine wpAny_bind (wpAny_field hz rfl (x:=.ref TI) rfl ?_);refine wpAny_bind (wpAny_seqItems hTI rfl ?_);show wpAny _ _ (Kd (.ref z) >>= _) _ _ _;refine wpAny_bind ?_;unfold Kd;refine wpAny_bind (wpAny_field hz rfl (x:=.none) rfl<|wpAny_pure ?_);simp only[if_true];refine wpAny_bind (wpAny_rule ?_);refine wpAny_bind (wpAny_field hz rfl (x:=.ref TO) rfl ?_);refine wpAny_bind (wpAny_setField_rec hz (by simp) λh₁ hz1 hs1=>?_)
 replace hz1:IsZip h₁ z TI TO .ellipsis:=hz1
 refine wpAny_bind ?_;simp only[Mp,Nb,Mb,MA];refine wpAny_bind (wpAny_bind<|wpAny_onRaise ?_);show wpAny _ _ (JV (.ref i1) >>= _) _ _ _;refine wpAny_bind (aR (h1.keep λo e=>hs1.extBut _ o D.i1z e) (hl1.keep λo e=>hs1.extBut _ o O1.1 e) hx λh₂ h12 hs₂=>wpAny_pure ?_);have hTO2:IsPair h₂ TO a b:=hs₂.extBut _ _ D.TOi1 (hs1.extBut _ _ D.TOz hTO);refine wpAny_bind (wpAny_seqItems hTO2 rfl ?_);refine wpAny_bind (wpAny_updateSeq_pair hTO2 λh₃ hTO3 hs₃=>?_)
 replace hTO3:IsPair h₃ TO x b:=hTO3
 refine wpAny_bind (wpAny_letGo<|wpAny_pure ?_);refine wpAny_bind (wpAny_bind<|wpAny_onRaise ?_);show wpAny _ _ (JV (.ref i2) >>= _) _ _ _
 refine wpAny_bind (aR (h2.keep λo e=>hs₃.extBut _ o D.TOi2.symm (hs₂.extBut _ o D.i12.symm<|hs1.extBut _ o D.i2z e))
  (hl2.keep λo e=>hs₃.extBut _ o O2.2.1 (hs₂.extBut _ o O2.2.2.1<|hs1.extBut _ o O2.1 e)) hy λh₄ h24 hs4=>wpAny_pure ?_)
 have hTO4:IsPair h₄ TO x b:=hs4.extBut _ _ D.TOi2 hTO3;refine wpAny_bind (wpAny_seqItems hTO4 rfl ?_);refine wpAny_bind (wpAny_updateSeq_pair hTO4 λh₅ hTO5 hs5=>?_)
 replace hTO5:IsPair h₅ TO x y:=hTO5
 refine wpAny_bind (wpAny_letGo<|wpAny_pure<|wpAny_pure ?_);refine wpAny_bind (wpAny_seqItems hTO5 rfl ?_);refine wpAny_bind (wpAny_newTuple ?_);have hsz:h₅.objs.size=s.heap.objs.size:=by rw[hs5.1,hs4.1,hs₃.1,hs₂.1,hs1.1]
 have hz5:IsZip h₅ z TI TO .ellipsis:=hs5.extBut _ _ D.TOz.symm (hs4.extBut _ _ D.i2z.symm<|hs₃.extBut _ _ D.TOz.symm<|hs₂.extBut _ _ D.i1z.symm hz1);have hk5:∀c o,c≠z->c≠TO->c≠i1->c≠i2->s.heap.get? c=some o->h₅.get? c=some o:=λc o c1 c2 c3 c4 e=>
  hs5.extBut _ _ c2 (hs4.extBut _ _ c4<|hs₃.extBut _ _ c2<|hs₂.extBut _ _ c3<|hs1.extBut _ _ c1 e)
 have h15:SrcTn b1 i1 l1 (k1+1) h₅:=h12.keep λo e=>hs5.extBut _ o D.TOi1.symm (hs4.extBut _ o D.i12<|hs₃.extBut _ o D.TOi1.symm e);have h25:SrcTn b2 i2 l2 (k2+1) h₅:=h24.keep λo e=>hs5.extBut _ o D.TOi2.symm e;have hzlt:z<h₅.objs.size:=JJ hz5;show wpAny _ _ (KW (.ref z) (.ref h₅.objs.size) >>= _) _ _ _;refine wpAny_bind ?_;unfold KW;have hz6:IsZip (h₅.push { cls:=.type "tuple",data:=.seq #[x,y] }) z TI TO .ellipsis:=JB _ hz5;refine wpAny_bind (wpAny_setField_rec hz6 (by simp) λh₇ hz7 hs7=>?_)
 replace hz7:IsZip h₇ z TI TO (rawInt h₅.objs.size):=hz7
 refine wpAny_setField_rec hz7 (by simp) λh₈ hz₈ hs8=>?_
 replace hz₈:IsZip h₈ z TI TO (rawInt h₅.objs.size):=hz₈
 have up:∀c o,c≠z->h₅.get? c=some o->h₈.get? c=some o:=λc o c1 e=>hs8.extBut _ _ c1 (hs7.extBut _ _ c1<|JB _ e);have hT8:IsPair h₈ h₅.objs.size x y:=hs8.extBut _ _ (LY hzlt) (hs7.extBut _ _ (LY hzlt)<|JH _ rfl);have hz8:h₈.objs.size=h₅.objs.size+1:=by rw[hs8.1,hs7.1,Ke]
 rw[hsz]at hz₈ hT8 hz8;refine wpAny_pure ⟨_,rfl,?_⟩;show Q (.ref h₅.objs.size) _;rw[hsz];exact hQ h₈ hz₈ (up _ _ D.TOz hTO5) (h15.keep λo e=>up _ o D.i1z e) (h25.keep λo e=>up _ o D.i2z e) hT8 hz8 λc o c1 c2 c3 c4 e=>up c o c1 (hk5 c o c1 c2 c3 c4 e)
theorem CI{b1 b2:Bool}{z TI TO i1 i2 l1 l2:Addr}{k1 k2:Nat}{xs ys:Array Value}{a b:Value}{Q:Fin->Shared->Prop}(hh:A.handled=none)(D:ZApart z TI TO i1 i2)(O1:y4 z TO i1 i2 l1)(O2:y4 z TO i1 i2 l2)
  (hz:IsZip s.heap z TI TO .none) (hTI:IsPair s.heap TI (.ref i1) (.ref i2)) (hTO:IsPair s.heap TO a b)
  (h1:SrcTn b1 i1 l1 k1 s.heap) (h2:SrcTn b2 i2 l2 k2 s.heap) (hl1:SrcSq b1 s.heap l1 xs) (hl2:SrcSq b2 s.heap l2 ys) (hend:xs[k1]?=none\/ys[k2]?=none)
  (hE:∀h' e,(∀c o,c≠z->c≠TO->c≠i1->c≠i2->s.heap.get? c=some o->h'.get? c=some o)->(∃o,h'.get? e=some o/\o.cls=.type "StopIteration")->E (.ref e) { s with heap:=h' }):
  wpAny (model prog w) A (Builtin.«zip.__next__» ⟨[.ref z],[]⟩) Q E s:=by
 show wpAny _ _ (field (.ref z) 2 >>= _) _ _ _;refine wpAny_bind (wpAny_field hz rfl (x:=.bool false) rfl ?_);show wpAny _ _ (field (.ref z) 3 >>= _) _ _ _;refine wpAny_bind (wpAny_field hz rfl (x:=.ref TI) rfl ?_);refine wpAny_bind (wpAny_seqItems hTI rfl ?_);show wpAny _ _ (Kd (.ref z) >>= _) _ _ _;refine wpAny_bind ?_;unfold Kd;refine wpAny_bind (wpAny_field hz rfl (x:=.none) rfl<|wpAny_pure ?_);simp only[if_true];refine wpAny_bind (wpAny_rule ?_);refine wpAny_bind (wpAny_field hz rfl (x:=.ref TO) rfl ?_);refine wpAny_bind (wpAny_setField_rec hz (by simp) λh₁ hz1 hs1=>?_)
 replace hz1:IsZip h₁ z TI TO .ellipsis:=hz1
 refine wpAny_bind ?_;simp only[Mp,Nb,Mb,MA];refine wpAny_bind (wpAny_bind<|wpAny_onRaise ?_);show wpAny _ _ (JV (.ref i1) >>= _) _ _ _;cases hx:xs[k1]? with
 |none=>
  refine wpAny_bind (bn hh (h1.keep λo e=>hs1.extBut _ o D.i1z e) (hl1.keep λo e=>hs1.extBut _ o O1.1 e) hx λh₂ e hs₂ he=>?_);obtain⟨oe,hoe,hce⟩:=he;have hz2:IsZip h₂ z TI TO .ellipsis:=hs₂ _ _ D.i1z.symm hz1;have hez:e≠z:=λx=>by subst x;rw[hz2]at hoe;cases hoe;simp at hce
  refine wpAny_setField_rec hz2 (by simp) λh₃ _ hs₃=>hE h₃ e (λc o c1 _ c3 _ x=>hs₃.extBut _ _ c1 (hs₂ _ _ c3<|hs1.extBut _ _ c1 x)) ⟨oe,hs₃.extBut _ _ hez hoe,hce⟩
 |some x=>
  have hy:ys[k2]?=none:=by rcases hend with h|h;rw[hx]at h;cases h;exact h
  refine wpAny_bind (aR (h1.keep λo e=>hs1.extBut _ o D.i1z e) (hl1.keep λo e=>hs1.extBut _ o O1.1 e) hx λh₂ h12 hs₂=>wpAny_pure ?_);have hTO2:IsPair h₂ TO a b:=hs₂.extBut _ _ D.TOi1 (hs1.extBut _ _ D.TOz hTO);refine wpAny_bind (wpAny_seqItems hTO2 rfl ?_);refine wpAny_bind (wpAny_updateSeq_pair hTO2 λh₃ hTO3 hs₃=>?_);refine wpAny_bind (wpAny_letGo<|wpAny_pure ?_);refine wpAny_bind (wpAny_bind<|wpAny_onRaise ?_);show wpAny _ _ (JV (.ref i2) >>= _) _ _ _
  refine wpAny_bind (bn hh (h2.keep λo e=>hs₃.extBut _ o D.TOi2.symm (hs₂.extBut _ o D.i12.symm<|hs1.extBut _ o D.i2z e))
   (hl2.keep λo e=>hs₃.extBut _ o O2.2.1 (hs₂.extBut _ o O2.2.2.1<|hs1.extBut _ o O2.1 e)) hy λh₄ e hs4 he=>?_)
  obtain⟨oe,hoe,hce⟩:=he;have hz4:IsZip h₄ z TI TO .ellipsis:=hs4 _ _ D.i2z.symm (hs₃.extBut _ _ D.TOz.symm<|hs₂.extBut _ _ D.i1z.symm hz1);have hez:e≠z:=λx=>by subst x;rw[hz4]at hoe;cases hoe;simp at hce
  refine wpAny_setField_rec hz4 (by simp) λh₅ _ hs5=>hE h₅ e (λc o c1 c2 c3 c4 x=>hs5.extBut _ _ c1 (hs4 _ _ c4<|hs₃.extBut _ _ c2<|hs₂.extBut _ _ c3<|hs1.extBut _ _ c1 x)) ⟨oe,hs5.extBut _ _ hez hoe,hce⟩
theorem iG{b1 b2:Bool}{z TI TO i1 i2 l1 l2:Addr}{k1 k2:Nat}{xs ys:Array Value}{x y a b:Value}{Q:Option Value->Shared->Prop}(D:ZApart z TI TO i1 i2)(O1:y4 z TO i1 i2 l1)(O2:y4 z TO i1 i2 l2)
  (hz:IsZip s.heap z TI TO .none) (hTI:IsPair s.heap TI (.ref i1) (.ref i2)) (hTO:IsPair s.heap TO a b)
  (h1:SrcTn b1 i1 l1 k1 s.heap) (h2:SrcTn b2 i2 l2 k2 s.heap) (hl1:SrcSq b1 s.heap l1 xs) (hl2:SrcSq b2 s.heap l2 ys) (hx:xs[k1]?=some x) (hy:ys[k2]?=some y)
  (hQ:∀h',IsZip h' z TI TO (rawInt s.heap.objs.size)->IsPair h' TO x y->SrcTn b1 i1 l1 (k1+1) h'->SrcTn b2 i2 l2 (k2+1) h'->IsPair h' s.heap.objs.size x y->h'.objs.size=s.heap.objs.size+1->
   (∀c o,c≠z->c≠TO->c≠i1->c≠i2->s.heap.get? c=some o->h'.get? c=some o)->Q (some<|.ref s.heap.objs.size) { s with heap:=h' }):
  wpAny (model prog w) A (pyNext<|.ref z) Q E s:=by
 have hT:s.TypeIs (.ref z) "zip":=⟨_,hz,rfl⟩;unfold pyNext
 exact wpAny_bind (wpAny_attempt (wpAny_callSpecial?_slot (name:=JL "__next__") hT Lr
  (wpAny_call_entry Lr hT M0 (yJ D O1 O2 hz hTI hTO h1 h2 hl1 hl2 hx hy λh' a1 a2 a3 a4 a5 a6 a7=>wpAny_pure (hQ h' a1 a2 a3 a4 a5 a6 a7))<|MN _)))
theorem kU{b1 b2:Bool}{z TI TO i1 i2 l1 l2:Addr}{k1 k2:Nat}{xs ys:Array Value}{a b:Value}{Q:Option Value->Shared->Prop}(hh:A.handled=none)(D:ZApart z TI TO i1 i2)(O1:y4 z TO i1 i2 l1)(O2:y4 z TO i1 i2 l2)
  (hz:IsZip s.heap z TI TO .none) (hTI:IsPair s.heap TI (.ref i1) (.ref i2)) (hTO:IsPair s.heap TO a b)
  (h1:SrcTn b1 i1 l1 k1 s.heap) (h2:SrcTn b2 i2 l2 k2 s.heap) (hl1:SrcSq b1 s.heap l1 xs) (hl2:SrcSq b2 s.heap l2 ys) (hend:xs[k1]?=none\/ys[k2]?=none)
  (hQ:∀h',(∀c o,c≠z->c≠TO->c≠i1->c≠i2->s.heap.get? c=some o->h'.get? c=some o)->Q none { s with heap:=h' }):wpAny (model prog w) A (pyNext<|.ref z) Q E s:=by
 have hT:s.TypeIs (.ref z) "zip":=⟨_,hz,rfl⟩;unfold pyNext
 refine wpAny_bind (wpAny_attempt (wpAny_callSpecial?_slot (name:=JL "__next__") hT Lr
  (wpAny_call_entry Lr hT M0 (CI hh D O1 O2 hz hTI hTO h1 h2 hl1 hl2 hend λh' e hk he=>?_)<|MN _)))
 obtain⟨o,ho,hc⟩:=he;refine wpAny_bind (wpAny_isInstance (T:="StopIteration") (b:=true) ⟨o,ho,hc⟩ isSubtype_stop ?_);exact wpAny_pure (hQ _ hk)
end
abbrev G6(c1:String)(h:Heap)(l1:Addr):Heap:=h.push { cls:=.type c1,data:=.fields #[.ref l1,.int 0 0] }
abbrev DZ(c1 c2:String)(h:Heap)(l1 l2:Addr):Heap:=(G6 c1 h l1).push { cls:=.type c2,data:=.fields #[.ref l2,.int 0 0] }
abbrev zH3(c1 c2:String)(h:Heap)(l1 l2:Addr):Heap:=(DZ c1 c2 h l1 l2).push { cls:=.type "tuple",data:=.seq #[.ref h.objs.size,.ref (G6 c1 h l1).objs.size] }
abbrev zH4(c1 c2:String)(h:Heap)(l1 l2:Addr):Heap:=(zH3 c1 c2 h l1 l2).push { cls:=.type "tuple",data:=.seq #[.none,.none] }
abbrev Hf(c1 c2:String)(h:Heap)(l1 l2:Addr):Heap:=(zH4 c1 c2 h l1 l2).push { cls:=.type "zip",data:=.fields #[.none,.bool false,.bool false,.ref (DZ c1 c2 h l1 l2).objs.size,.ref (zH3 c1 c2 h l1 l2).objs.size] }
theorem wH(b1 b2:Bool)(l1 l2:Addr)(xs ys:Array Value):
  Meets (Builtin.«zip.__new__» ⟨[.type "zip",.ref l1,.ref l2],[]⟩) (λ_ R s=>SrcSq b1 s.heap l1 xs/\SrcSq b2 s.heap l2 ys/\
   R (.ok<|.ret<|.ref (zH4 (ay b1) (ay b2) s.heap l1 l2).objs.size) { s with heap:=Hf (ay b1) (ay b2) s.heap l1 l2 }):=
 .of_wp λprog w A R s h=>by
  obtain⟨hp,g,d,tk,os⟩:=s;obtain⟨hl1,hl2,h⟩:=h;have hsub:=sub_zip;have hL1:SrcSq b1 (MC ⟨hp,g,d,tk,os⟩) l1 xs:=hl1;have hL2:SrcSq b2 (MC ⟨hp.push { cls:=.type (ay b1),data:=.fields #[.ref l1,.int 0 0] },g,d,tk,os⟩) l2 ys:=SrcSq.keep hl2 λo e=>JB _ e
  wp_walk using bS hL1,bS hL2
  exact⟨_,rfl,h⟩
section
variable {prog:Program}{w:World}{A:Around}{E:Value->Shared->Prop}{s:Shared}
theorem A8{b1 b2:Bool}{l1 l2:Addr}{xs ys:Array Value}{Q:Value->Shared->Prop}(hl1:SrcSq b1 s.heap l1 xs)(hl2:SrcSq b2 s.heap l2 ys)
  (h:∀h',IsZip h' (s.heap.objs.size+4) (s.heap.objs.size+2) (s.heap.objs.size+3) .none->IsPair h' (s.heap.objs.size+2) (.ref s.heap.objs.size) (.ref (s.heap.objs.size+1))->
   IsPair h' (s.heap.objs.size+3) .none .none->SrcTn b1 s.heap.objs.size l1 0 h'->SrcTn b2 (s.heap.objs.size+1) l2 0 h'->h'.objs.size=s.heap.objs.size+5->
   (∀c o,s.heap.get? c=some o->h'.get? c=some o)->Q (.ref (s.heap.objs.size+4)) { s with heap:=h' }):
  wpAny (model prog w) A (call (.type "zip") [.ref l1,.ref l2]) Q E s:=by
 refine callType_new F.called_zip (by decide) (F.typeCall_zip_2 _ _) (F.newCall_zip_2 _ _) (λobj=>F.args_object_init_3 obj _ _) F.entry_zip_new (wH b1 b2 l1 l2 xs ys) ⟨hl1,hl2,?_⟩
 have z1:(G6 (ay b1) s.heap l1).objs.size=s.heap.objs.size+1:=Ke ..;have z2:(DZ (ay b1) (ay b2) s.heap l1 l2).objs.size=s.heap.objs.size+2:=by rw[Ke,z1]
 have z3:(zH3 (ay b1) (ay b2) s.heap l1 l2).objs.size=s.heap.objs.size+3:=by rw[Ke,z2]
 have z4:(zH4 (ay b1) (ay b2) s.heap l1 l2).objs.size=s.heap.objs.size+4:=by rw[Ke,z3]
 have z5:(Hf (ay b1) (ay b2) s.heap l1 l2).objs.size=s.heap.objs.size+5:=by rw[Ke,z4]
 have g5:(Hf (ay b1) (ay b2) s.heap l1 l2).get? (zH4 (ay b1) (ay b2) s.heap l1 l2).objs.size=some _:=JH _ rfl;have g4:(Hf (ay b1) (ay b2) s.heap l1 l2).get? (zH3 (ay b1) (ay b2) s.heap l1 l2).objs.size=some _:=JB _ (JH _ rfl);have g3:(Hf (ay b1) (ay b2) s.heap l1 l2).get? (DZ (ay b1) (ay b2) s.heap l1 l2).objs.size=some _:=JB _ (JB _<|JH _ rfl);have g2:(Hf (ay b1) (ay b2) s.heap l1 l2).get? (G6 (ay b1) s.heap l1).objs.size=some _:=JB _ (JB _<|JB _<|JH _ rfl);have g1:(Hf (ay b1) (ay b2) s.heap l1 l2).get? s.heap.objs.size=some _:=JB _ (JB _<|JB _<|JB _<|JH _ rfl);show _/\_;rw[z2,z3,z4]at g5;rw[z1,z2]at g3;rw[z3]at g4;rw[z1]at g2;rw[z4];exact⟨⟨_,g5,rfl⟩,h _ g5 g3 g4 (fo g1) (fo g2) z5 λc o x=>
  JB _ (JB _<|JB _<|JB _<|JB _ x)⟩
end
def fW(K:JF)(b:Bool)(H:Hp)(a:Addr)(xs:List V):Prop:=if b=true then SqL K H a xs else gL K H a xs
section
variable {X:Cx}{pins:List (Addr×Obj)}{U:St}{H:Hp}{s:Shared}{a:Addr}{xs ys:List V}{b:Bool}
theorem Inv.src(I:Inv X pins U H s)(h:fW X.K b H a xs):∃its:List Value,Vals xs its/\SrcSq b s.heap a its.toArray/\xs.length<=sizeLine:=by
 cases b with
 |true=>obtain⟨its,r,p,z⟩:=I.list (show SqL X.K H a xs from h);exact⟨its,r,p.isList,z⟩
 |false=>obtain⟨its,r,p,z⟩:=I.tuple (show gL X.K H a xs from h);exact⟨its,r,p,z⟩
theorem Inv.src_inj(I:Inv X pins U H s)(h:fW X.K b H a xs)(h':fW X.K b H a ys):xs=ys:=by
 cases b with
 |true=>exact I.list_inj (show SqL X.K H a xs from h) h'
 |false=>exact I.tuple_inj (show gL X.K H a xs from h) h'
theorem Inv.src_ne(I:Inv X pins U H s)(h:fW X.K b H a xs){it:Addr}(f:gR X pins H it):a≠it:=by
 obtain⟨f0,f1,f2,f3,f4,f5⟩:=f;intro e;subst e;have kne:∀o,X.K.lookup a=some o->False:=λo hk=>by
  have hb:=I.ok.mod.kin a o hk;rcases f3 with z|z
  .exact I.ok.noex a o hb z
  .exact absurd (JX (JJ (I.ok.bs a o hb).1) z) (KL _)
 cases b with
 |true=>
  rcases (show SqL X.K H a xs from h) with (z|⟨o,z⟩)|⟨o,_,_,hk,_⟩
  .rw[f0]at z;cases z
  .rw[f0]at z;cases z
  .exact kne o hk
 |false=>
  rcases (show gL X.K H a xs from h) with (z|⟨o,z⟩)|⟨o,_,_,hk,_⟩
  .rw[f0]at z;cases z
  .rw[f0]at z;cases z
  .exact kne o hk
end
def Itz(K:JF)(b1 b2:Bool)(l1 l2:Addr):It:=
 ⟨λi H=>∃xs ys x y,fW K b1 H l1 xs/\fW K b2 H l2 ys/\xs[i]?=some x/\ys[i]?=some y,
  λi H v H'=>∃T x y,H T=none/\v=.ref T/\H'=upd H T (.tup [x,y])/\(∀xs,fW K b1 H l1 xs->xs[i]?=some x)/\(∀ys,fW K b2 H l2 ys->ys[i]?=some y),
  λi H=>∃xs ys,fW K b1 H l1 xs/\fW K b2 H l2 ys/\(xs.length<=i\/ys.length<=i)⟩
theorem Inv.turned4{X:Cx}{pins:List (Addr×Obj)}{U:St}{H:Hp}{s:Shared}{h':Heap}{t':Nat}{fp:List Addr}(I:Inv X pins U H s)(hf:∀b∈fp,gR X pins H b)
  (k:∀b o,b∉fp->s.heap.get? b=some o->h'.get? b=some o):Inv X pins U H { s with heap:=h',toks:=t' }:=by
 have nfp:∀b u,H b=some u->b∉fp:=λb u e z=>by have:=(hf b z).1;rw[e]at this;cases this
 refine I.step (g':=s.gens) (d':=s.drawn) (ch:=fp) (λb hb=>?_) (λb o _ _ hc e _=>k b o hc e) (λb o _ _ hc e _=>⟨o.slots,k b o hc e⟩) (λ_ _ _ _ n=>n)
  (λb o hc e=>⟨o,k b o hc e⟩) (λ_ _ e=>e) (λ_ _ _ e=>e) (λb ps e=>⟨#[],by rw[e];simp⟩) (λm hm=>?_) (λb u e=>?_) I.bare
 .obtain⟨f0,f1,f2,f3,f4,f5⟩:=hf b hb
  exact⟨f3,f1,f4,f5⟩
 .obtain⟨o,es,ep,ho,r⟩:=hm
  exact⟨o,es,ep,k _ o (λz=>(hf _ z).2.1 rfl) ho,r⟩
 .refine (I.hok b u e).stay (λc v hc q=>k c v ?_ q) (λ_ q=>q) λ_ _ q=>q
  rcases hc with z|z
  .rw[z];exact nfp b u e
  .exact nfp c _ z
theorem Inv.turnedNew{X:Cx}{pins:List (Addr×Obj)}{U:St}{H:Hp}{s:Shared}{h':Heap}{t':Nat}{fp:List Addr}{zs:List V}{us:List Value}{o':Obj}(I:Inv X pins U H s)(hf:∀b∈fp,gR X pins H b)
  (k:∀b o,b∉fp->s.heap.get? b=some o->h'.get? b=some o) (hlt:∀b∈fp,∃o,s.heap.get? b=some o) (hlv:∀b∈fp,∃o,h'.get? b=some o) (hT:h'.get? s.heap.objs.size=some o') (hoc:o'.cls=.type "tuple") (hod:∃n,o'.data=.seq us.toArray n)
  (r:Vals zs us) (hdn:o'.dict=none) (hz:zs.length<=sizeLine):Inv X pins U (upd H s.heap.objs.size<|.tup zs) { s with heap:=h',toks:=t' }:=by
 have hTn:H s.heap.objs.size=none:=I.hok.fresh (JE _);have nfp:∀b u,H b=some u->b∉fp:=λb u e z=>by have:=(hf b z).1;rw[e]at this;cases this
 refine I.step (g':=s.gens) (d':=s.drawn) (ch:=fp) (λb hb=>?_) (λb o _ _ hc e _=>k b o hc e) (λb o _ _ hc e _=>⟨o.slots,k b o hc e⟩) (λb o _ e n=>by rw[az (JS<|JJ e)];exact n)
  (λb o hc e=>⟨o,k b o hc e⟩) (λb zs' e=>by rw[az (aT e hTn)];exact e) (λb o u e=>by rw[az (aT e hTn)];exact e) (λb ps e=>⟨#[],by rw[az (aT e hTn),e];simp⟩) (λm hm=>?_) (λb u e=>?_) I.bare
 .obtain⟨f0,f1,f2,f3,f4,f5⟩:=hf b hb
  exact⟨f3,f1,f4,f5⟩
 .obtain⟨o,es,ep,ho,r⟩:=hm
  exact⟨o,es,ep,k _ o (λz=>(hf _ z).2.1 rfl) ho,r⟩
 .by_cases hb:b=s.heap.objs.size
  .subst hb
   rw[upd_same]at e;cases e;obtain⟨n,hd⟩:=hod;exact⟨hz,us,r,⟨o',hT,⟨hoc,n,hd⟩,hdn⟩⟩
  .rw[az hb]at e
   refine (I.hok b u e).stay (λc v hc q=>k c v ?_ q) (λc q=>by rw[az (aT q hTn)];exact q) λc zs' q=>by rw[az (aT q hTn)];exact q
   rcases hc with z|z
   .rw[z];exact nfp b u e
   .exact nfp c _ z
theorem zt{P:Program}{w:World}{K:JF}{elts:List Expr}{x1:Nat}{tp:Pos}(b1 b2:Bool)(l1 l2 z TI TO i1 i2:Addr)(D:ZApart z TI TO i1 i2):
  Turn P w K (.Tuple elts x1 tp) (Itz K b1 b2 l1 l2) [z,TI,TO,i1,i2] z (λi h=>IsZip h z TI TO .none/\IsPair h TI (.ref i1) (.ref i2)/\(∃a b,IsPair h TO a b)/\SrcTn b1 i1 l1 i h/\SrcTn b2 i2 l2 i h) where
 mem:=by simp
 obj:=λi h st b hb=>by
  obtain⟨hz,hTI,⟨a,c,hTO⟩,h1,h2⟩:=st;have hb':b=z\/b=TI\/b=TO\/b=i1\/b=i2:=by simpa using hb
  rcases hb' with e|e|e|e|e<;>subst e
  .exact⟨_,hz,λv q=>nomatch q⟩
  .exact⟨_,hTI,λv q=>nomatch q⟩
  .exact⟨_,hTO,λv q=>nomatch q⟩
  .exact h1.lt
  .exact h2.lt
 keep:=λi h h' st k=>by
  obtain⟨hz,hTI,⟨a,c,hTO⟩,h1,h2⟩:=st;exact⟨k z (by simp) _ hz,k TI (by simp) _ hTI,⟨a,c,k TO (by simp) _ hTO⟩,h1.keep λo e=>k i1 (by simp) o e,h2.keep λo e=>k i2 (by simp) o e⟩
 item:=by
  intro X hP hw hK hc i pins s U H E I hf st hg;subst hP hw hK;obtain⟨xs,ys,x,y,q1,q2,hx,hy⟩:=hg;obtain⟨hz,hTI,⟨a,c,hTO⟩,h1,h2⟩:=st;obtain⟨its1,r1,s1,z1⟩:=I.src q1;obtain⟨its2,r2,s2,z2⟩:=I.src q2;obtain⟨u,hu,ru⟩:=r1.get hx;obtain⟨v,hv,rv⟩:=r2.get hy;have O1:y4 z TO i1 i2 l1:=⟨I.src_ne q1 (hf z<|by simp),I.src_ne q1 (hf TO<|by simp),I.src_ne q1 (hf i1<|by simp),I.src_ne q1<|hf i2<|by simp⟩
  have O2:y4 z TO i1 i2 l2:=⟨I.src_ne q2 (hf z<|by simp),I.src_ne q2 (hf TO<|by simp),I.src_ne q2 (hf i1<|by simp),I.src_ne q2<|hf i2<|by simp⟩
  refine iG D O1 O2 hz hTI hTO h1 h2 s1 s2 (x:=u) (y:=v) (by simpa using hu) (by simpa using hv) λh' a1 a2 a3 a4 a5 a6 hk=>?_
  refine⟨_,rfl,wpAny_letOwnedTupleGo_zip a1 λh'' hz'' hs''=>?_⟩;have hzs:z≠s.heap.objs.size:=JS (JJ hz);have kk:∀b o,b∉[z,TI,TO,i1,i2]->s.heap.get? b=some o->h''.get? b=some o:=λb o hb e=>
   hs''.extBut b o (λq=>hb (by simp[q])) (hk b o (λq=>hb (by simp[q])) (λq=>hb (by simp[q])) (λq=>hb (by simp[q])) (λq=>hb (by simp[q])) e)
  have hT:h''.get? s.heap.objs.size=some { cls:=.type "tuple",data:=.seq #[u,v] }:=hs''.extBut _ _ hzs.symm a5;have lv:∀b∈[z,TI,TO,i1,i2],∃o,s.heap.get? b=some o:=λb hb=>by
   have hb':b=z\/b=TI\/b=TO\/b=i1\/b=i2:=by simpa using hb
   rcases hb' with e|e|e|e|e<;>subst e
   .exact⟨_,hz⟩
   .exact⟨_,hTI⟩
   .exact⟨_,hTO⟩
   .obtain⟨o,e,_⟩:=h1.lt;exact⟨o,e⟩
   .obtain⟨o,e,_⟩:=h2.lt;exact⟨o,e⟩
  have n1:SrcTn b1 i1 l1 (i+1) h'':=a3.keep λo e=>hs''.extBut _ o D.i1z e;have n2:SrcTn b2 i2 l2 (i+1) h'':=a4.keep λo e=>hs''.extBut _ o D.i2z e;have nTI:IsPair h'' TI (.ref i1) (.ref i2):=hs''.extBut _ _ D.TIz (hk _ _ D.TIz D.TITO D.TIi1 D.TIi2 hTI);have nTO:IsPair h'' TO u v:=hs''.extBut _ _ D.TOz a2;have lv':∀b∈[z,TI,TO,i1,i2],∃o,h''.get? b=some o:=λb hb=>by
   have hb':b=z\/b=TI\/b=TO\/b=i1\/b=i2:=by simpa using hb
   rcases hb' with e|e|e|e|e<;>subst e
   .exact⟨_,hz''⟩
   .exact⟨_,nTI⟩
   .exact⟨_,nTO⟩
   .obtain⟨o,e,_⟩:=n1.lt;exact⟨o,e⟩
   .obtain⟨o,e,_⟩:=n2.lt;exact⟨o,e⟩
  have hTn:H s.heap.objs.size=none:=I.hok.fresh (JE _);refine⟨.ref s.heap.objs.size,_,I.turnedNew (s:=s) (h':=h'') (t':=s.toks) (zs:=[x,y]) (us:=[u,v]) hf kk lv lv' hT rfl ⟨_,rfl⟩ (.cons ru<|.cons rv .nil) rfl (by show 2<=sizeLine;decide),rfl,⟨_,x,y,hTn,rfl,rfl,λzs hzs'=>?_,λzs hzs'=>?_⟩,⟨hz'',nTI,⟨_,_,nTO⟩,n1,n2⟩,λb hb=>?_⟩
  .rw[I.src_inj hzs' q1];exact hx
  .rw[I.src_inj hzs' q2];exact hy
  .obtain⟨o,e⟩:=lv b hb
   rw[az (JS<|JJ e)];exact(hf b hb).1
 done:=by
  intro X hP hw hK hc i pins s U H E I hf st hg;subst hP hw hK;obtain⟨xs,ys,q1,q2,hx⟩:=hg;obtain⟨hz,hTI,⟨a,c,hTO⟩,h1,h2⟩:=st;obtain⟨its1,r1,s1,z1⟩:=I.src q1;obtain⟨its2,r2,s2,z2⟩:=I.src q2;have l1':=r1.length;have l2':=r2.length;have O1:y4 z TO i1 i2 l1:=⟨I.src_ne q1 (hf z<|by simp),I.src_ne q1 (hf TO<|by simp),I.src_ne q1 (hf i1<|by simp),I.src_ne q1<|hf i2<|by simp⟩
  have O2:y4 z TO i1 i2 l2:=⟨I.src_ne q2 (hf z<|by simp),I.src_ne q2 (hf TO<|by simp),I.src_ne q2 (hf i1<|by simp),I.src_ne q2<|hf i2<|by simp⟩
  refine kU (I.ok.hd hc) D O1 O2 hz hTI hTO h1 h2 s1 s2 ?_ λh' hk=>⟨rfl,I.turned4 (t':=s.toks) hf λb o hb e=>hk b o (λq=>hb (by simp[q])) (λq=>hb (by simp[q])) (λq=>hb (by simp[q])) (λq=>hb (by simp[q])) e⟩
  rcases hx with hx|hx
  .exact .inl (by simp;lia)
  .exact .inr (by simp;lia)
 self:=λ_ _ _ _ _ st h=>wpAny_pyIter_zip st.1 h
section
variable {X:Cx}
def Ite(K:JF)(b:Bool)(l:Addr):It:=
 ⟨λi H=>∃xs x,fW K b H l xs/\xs[i]?=some x,
  λi H v H'=>∃T x,H T=none/\v=.ref T/\H'=upd H T (.tup [.int i,x])/\(∀xs,fW K b H l xs->xs[i]?=some x),
  λi H=>∃xs,fW K b H l xs/\xs.length<=i⟩
end
section
variable {prog:Program}{w:World}{A:Around}{E:Value->Shared->Prop}{s:Shared}
theorem Draws.src(hh:A.handled=none)(b:Bool)(it l:Addr)(hne:l≠it)(items:Array Value):
  Draws prog w A it [it,l] items.size (λi v=>items[i]?=some v) (λi h=>SrcTn b it l i h/\SrcSq b h l items) where
 live:=λ_ _ st=>let ⟨o,ho,_⟩:=st.1.lt;⟨o,ho⟩
 frame:=λ_ _ _ st hk=>⟨st.1.keep λo e=>hk it (by simp) o e,st.2.keep λo e=>hk l (by simp) o e⟩
 item:=λi s Q E hi st hQ=>by
  refine aR st.1 st.2 (x:=items[i]) (by simp[hi]) λh' hit' hs'=>?_
  exact hQ _ h' s.toks (by simp[hi]) ⟨hit',st.2.keep λo e=>hs'.extBut _ o hne e⟩ hs'
 done:=λs Q E st hE=>bn hh st.1 st.2 (by simp) hE
theorem qT(b:Bool)(l:Addr)(items:Array Value):
  Meets (Builtin.«enumerate.__new__» ⟨[.type "enumerate",.ref l],[]⟩) (λ_ R s=>SrcSq b s.heap l items/\
   R (.ok<|.ret<|.ref (s.heap.push { cls:=.type (ay b),data:=.fields #[.ref l,.int 0 0] }).objs.size)
    { s with heap:=(s.heap.push { cls:=.type (ay b),data:=.fields #[.ref l,.int 0 0] }).push { cls:=.type "enumerate",data:=.fields #[.none,.bool false,.ref s.heap.objs.size,rawInt 0,.none,.none] } }):=
 .of_wp λprog w A R s h=>by
  obtain⟨hp,g,d,tk,os⟩:=s;obtain⟨hl,h⟩:=h;have hsub:=sub_enumerate;have hL:SrcSq b (MC ⟨hp,g,d,tk,os⟩) l items:=hl
  wp_walk
  refine wpAny_stack_any λst=>wpAny_pure ?_
  split
  .rename_i c _ _ _ _ _
   cases (c==Lp "enumerate")
   .wp_walk using bS hL
    exact⟨_,rfl,h⟩
   .wp_walk using bS hL
    exact⟨_,rfl,h⟩
  .wp_walk using bS hL
   exact⟨_,rfl,h⟩
theorem xG{b:Bool}{l:Addr}{items:Array Value}{Q:Value->Shared->Prop}(hL:SrcSq b s.heap l items)
  (h:∀h',IsEnum h' (s.heap.objs.size+1) s.heap.objs.size 0 .none->SrcTn b s.heap.objs.size l 0 h'->h'.objs.size=s.heap.objs.size+2->
   (∀b o,s.heap.get? b=some o->h'.get? b=some o)->Q (.ref (s.heap.objs.size+1)) { s with heap:=h' }):
  wpAny (model prog w) A (call (.type "enumerate") [.ref l]) Q E s:=by
 refine callType_new F.called_enumerate (by decide) (F.typeCall_enumerate_1 _) (F.newCall_enumerate_1 _) (λobj=>F.args_object_init_2 obj _) F.entry_enumerate_new (qT b l items) ⟨hL,?_⟩
 have hz:(s.heap.push { cls:=.type (ay b),data:=.fields #[.ref l,.int 0 0] }).objs.size=s.heap.objs.size+1:=Ke ..;show _/\_;rw[hz]
 have he:IsEnum ((s.heap.push { cls:=.type (ay b),data:=.fields #[.ref l,.int 0 0] }).push
   { cls:=.type "enumerate",data:=.fields #[.none,.bool false,.ref s.heap.objs.size,rawInt 0,.none,.none] }) (s.heap.objs.size+1) s.heap.objs.size 0 .none:=by
  have:=JH (s.heap.push { cls:=.type (ay b),data:=.fields #[.ref l,.int 0 0] })
   (o:={ cls:=.type "enumerate",data:=.fields #[.none,.bool false,.ref s.heap.objs.size,rawInt 0,.none,.none] }) rfl
  rw[hz]at this;exact this
 refine⟨⟨_,he,rfl⟩,h _ he (fo<|JB _<|JH _ rfl) (by rw[Ke,hz]) λb o x=>JB _ (JB _ x)⟩
end
theorem xT{P:Program}{w:World}{K:JF}{elts:List Expr}{x1:Nat}{tp:Pos}(b:Bool)(l e it:Addr)(hei:e≠it):
  Turn P w K (.Tuple elts x1 tp) (Ite K b l) [e,it] e (λi h=>(∃old,IsEnum h e it i old)/\SrcTn b it l i h) where
 mem:=by simp
 obj:=λi h st c hc=>by
  obtain⟨⟨old,he⟩,h1⟩:=st;have hc':c=e\/c=it:=by simpa using hc
  rcases hc' with q|q<;>subst q
  .exact⟨_,he,λv z=>nomatch z⟩
  .exact h1.lt
 keep:=λi h h' st k=>by
  obtain⟨⟨old,he⟩,h1⟩:=st;exact⟨⟨old,k e (by simp) _ he⟩,h1.keep λo q=>k it (by simp) o q⟩
 item:=by
  intro X hP hw hK hc i pins s U H E I hf st hg;subst hP hw hK;obtain⟨xs,x,q1,hx⟩:=hg;obtain⟨⟨old,he⟩,h1⟩:=st;obtain⟨its,r,sq,z1⟩:=I.src q1;obtain⟨u,hu,ru⟩:=r.get hx;have hle:l≠e:=I.src_ne q1 (hf e<|by simp)
  have hli:l≠it:=I.src_ne q1 (hf it<|by simp)
  have hil:i<its.toArray.size:=by
   rw[JI,<- r.length];exact(Kv.mp hx).1
  have D:Draws X.prog X.w X.A.in1 it [it,l] its.toArray.size (λi v=>its.toArray[i]?=some v) (λi h=>SrcTn b it l i h/\SrcSq b h l its.toArray):=Draws.src (A:=X.A.in1) (I.ok.hd hc) b it l hli its.toArray;refine wpAny_pyNext_enum_itemD D he ⟨h1,sq⟩ hil hei (by simp[hei,Kw hle]) λv h' tk hv ho hs' hT hsz hk=>?_
  have ev:v=u:=by
   have hu':its.toArray[i]?=some u:=by simpa using hu
   rw[hu']at hv;exact(Kl hv).symm
  subst ev;refine⟨_,rfl,wpAny_letOwnedTupleGo_enum ho λh'' he'' hs''=>?_⟩;have hes:e≠s.heap.objs.size:=JS (JJ he);have n1:SrcTn b it l (i+1) h'':=hs'.1.keep λo q=>hs''.extBut _ o hei.symm q;have kk:∀c o,c∉[e,it]->s.heap.get? c=some o->h''.get? c=some o:=λc o hc q=>
   hs''.extBut c o (λz=>hc (by simp[z])) (hk c o (λz=>hc (by simp[z])) (λz=>hc (by simp[z])) q)
  have hT':h''.get? s.heap.objs.size=some { cls:=.type "tuple",data:=.seq #[.int i tk,v] }:=hs''.extBut _ _ hes.symm hT;have lv:∀c∈[e,it],∃o,s.heap.get? c=some o:=λc hc=>by
   have hc':c=e\/c=it:=by simpa using hc
   rcases hc' with q|q<;>subst q
   .exact⟨_,he⟩
   .obtain⟨o,q,_⟩:=h1.lt;exact⟨o,q⟩
  have lv':∀c∈[e,it],∃o,h''.get? c=some o:=λc hc=>by
   have hc':c=e\/c=it:=by simpa using hc
   rcases hc' with q|q<;>subst q
   .exact⟨_,he''⟩
   .obtain⟨o,q,_⟩:=n1.lt;exact⟨o,q⟩
  have hTn:H s.heap.objs.size=none:=I.hok.fresh (JE _);refine⟨.ref s.heap.objs.size,_,I.turnedNew (s:=s) (h':=h'') (t':=tk+1) (zs:=[.int i,x]) (us:=[.int i tk,v]) hf kk lv lv' hT' rfl ⟨_,rfl⟩ (.cons ⟨tk,rfl⟩<|.cons ru .nil) rfl (by show 2<=sizeLine;decide),rfl,⟨_,x,hTn,rfl,rfl,λzs hzs'=>?_⟩,⟨⟨v,by simpa using he''⟩,n1⟩,λc hc=>?_⟩
  .rw[I.src_inj hzs' q1];exact hx
  .obtain⟨o,q⟩:=lv c hc
   rw[az (JS<|JJ q)];exact(hf c hc).1
 done:=by
  intro X hP hw hK hc i pins s U H E I hf st hg;subst hP hw hK;obtain⟨xs,q1,hx⟩:=hg;obtain⟨⟨old,he⟩,h1⟩:=st;obtain⟨its,r,sq,z1⟩:=I.src q1;have hli:l≠it:=I.src_ne q1 (hf it<|by simp)
  have hT:s.TypeIs (.ref e) "enumerate":=⟨_,he,rfl⟩;have hl:=r.length;unfold pyNext
  refine wpAny_bind (wpAny_attempt (wpAny_callSpecial?_slot (name:=JL "__next__") hT Pk
   (wpAny_call_entry Pk hT F.entry_enumerate_next ?_<|F.args_enumerate_next_1 _)))
  show wpAny _ _ (field (.ref e) 2 >>= _) _ _ _;refine wpAny_bind (wpAny_field he rfl (x:=.ref it) rfl ?_);refine wpAny_bind (bn (I.ok.hd hc) h1 sq (by simp;lia) λh' x he' hx'=>?_)
  obtain⟨o,ho,hcl⟩:=hx';refine wpAny_bind (wpAny_isInstance (T:="StopIteration") (b:=true) ⟨o,ho,hcl⟩ isSubtype_stop ?_);exact wpAny_pure ⟨rfl,I.turned4 (t':=s.toks) hf λc o' hc' q=>he' c o' (λz=>hc' (by simp[z])) q⟩
 self:=λ_ _ _ _ _ st h=>let ⟨⟨_,he⟩,_⟩:=st;wpAny_pyIter_enum he h
section
variable {X:Cx}
theorem pK:bz X (.builtin "isinstance") (λxs H Q=>∃x T t b,xs=[x,.ty T]/\TyOf X.K H x t/\Mv X.K t (.type T)=some b/\Q (.bl b) H):=by
 intro pins s U H xs us Q I r h;obtain⟨x,T,t,b,rfl,ty,e,q⟩:=h;obtain⟨u,c,rfl,rx,rc⟩:=r.two;obtain rfl:c=Lp T:=rc;exact xZ I rx ty e λtk=>⟨.bl b,H,I.tok tk,rfl,q⟩
theorem yj(hc:X.calm=true):bz X (.builtin "all") (λxs H Q=>∃(l:Addr) (bs:List Bool),xs=[.ref l]/\SqL X.K H l (bs.map V.bl)/\Q (.bl<|bs.all id) H):=by
 intro pins s U H xs us Q I r h;obtain⟨l,bs,rfl,hq,q⟩:=h;obtain⟨u,rfl,ru⟩:=r.one;cases ru;obtain⟨its,rv,p,hz⟩:=I.list hq;have hl:=rv.length;have hli:l<s.heap.objs.size:=by obtain⟨o,e,_⟩:=p.isList;exact JJ e
 have hne:l≠s.heap.objs.size:=JS hli;have val:∀(i:Nat) (v:Value),its.toArray[i]?=some v->∃c,bs[i]?=some c/\v=.bool c:=λi v hv=>by
  have hv':its[i]?=some v:=by simpa using hv
  have hi:i<bs.length:=by
   have:=(Kv.mp hv').1;rw[JK]at hl;lia
  obtain⟨w',h1,h2⟩:=rv.get (i:=i) (x:=.bl bs[i]) (by rw[Kf,JG hi];rfl)
  rw[hv']at h1;cases h1;exact⟨bs[i],JG hi,h2⟩
 have hsz:its.toArray.size=bs.length:=by rw[JI,<- hl,JK]
 refine call_all_walk (wpAny_pyIter_list p.isList ⟨s.heap.objs.size,_,_,_,_,_,λi=>bs.getD i false,rfl,Walks.list (A:=X.A.in1) (I.ok.hd hc) s.heap.objs.size l hne its.toArray,⟨⟨_,JH _ rfl,rfl,rfl⟩,p.isList.push _⟩,λi v s' Q' E' hv hq'=>?_,λh' tk hk=>?_⟩)
 .obtain⟨c,h1,rfl⟩:=val i v hv
  refine wpAny_truthy_bool ?_;have eb:bs.getD i false=c:=by rw[Ll,h1];rfl
  have hq2:Q' (bs.getD i false) s':=hq';rw[eb]at hq2;exact hq2
 .have e:(LC its.toArray.size).all (λi=>bs.getD i false)=bs.all id:=by
   rw[hsz,Bool.eq_iff_iff,MR,MR];constructor
   .intro h b hb
    obtain⟨i,hi,rfl⟩:=O6.mp hb;have:=h i (Lv.mpr hi)
    rwa [Ll,JG hi]at this
   .intro h i hi
    have hi':=Lv.mp hi;rw[Ll,JG hi'];exact h _ (Mq hi')
  rw[e];refine⟨.bl (bs.all id),H,?_,rfl,q⟩;exact I.kept (t':=tk) λb o hb=>hk b o (by simp;exact JS (JJ hb)) (JB _ hb)
end
theorem c_:entryFor table "dict.update.loop"=some Builtin.«dict.update.loop»:=entryFor_of_fast (by kernel_rfl)
theorem bL:plainId "dict.update.loop"=true:=by decide +kernel
section
variable {prog:Program}{w:World}{A:Around}{E:Value->Shared->Prop}{s:Shared}
end
section
variable {prog:Program}{w:World}{A:Around}{E:Value->Shared->Prop}{s:Shared}
end
namespace F
theorem mro_dict:mroOf (.type "dict")=pure [.type "dict",.type "object"]:=by rw[mroOf_type];kernel_rfl
theorem iA:typeLookup (.type "dict") "__new__"=pure (some<|.builtin "dict.__new__"):=by rw[typeLookup_type,builtinLookup_eq_fast];kernel_rfl
theorem called_dict:TypeCalled "dict" "dict.__new__" "dict.__init__":=
 ⟨by decide +kernel,by decide +kernel,⟨_,_,mro_dict⟩,madeBy_type mro_dict iA (by decide +kernel),by decide +kernel,by rw[isSubtype_type];kernel_rfl,PySem.F.slot_dict_init⟩
theorem typeCall_dict_1(a:Value):checkTypeCall "dict" ⟨[a],[]⟩=pure ():=by kernel_rfl
theorem newCall_dict_1(a:Value):checkBuiltinCall "dict.__new__" ⟨[.type "dict",a],[]⟩=pure ():=by kernel_rfl
theorem entry_dict_new:entryFor table "dict.__new__"=some Builtin.«dict.__new__»:=entryFor_of_tree (by kernel_rfl)
theorem plain_dict_new:plainId "dict.__new__"=true:=by decide +kernel
theorem sub_dict:isSubtype (.type "dict") (.type "dict")=pure true:=by rw[isSubtype_type];kernel_rfl
end F
section
variable {prog:Program}{w:World}{K:Type}[DecidableEq K]{knd:KeyKind prog w K}{A:Around}{E:Value->Shared->Prop}{s:Shared}
theorem lB(a:Value){Q₁:Value->Shared->Prop}(h:Q₁ (.ref s.heap.objs.size) { s with heap:=s.heap.push { cls:=.type "dict",data:=.dict #[] } }):
  codeAny (model prog w) A (.call (.builtin "dict.__new__") ⟨[.type "dict",a],[]⟩) (wants Q₁ E) s:=by
 refine codeAny_call_builtin F.plain_dict_new F.entry_dict_new (wpAny_of_eq (F.newCall_dict_1 a) ?_);have hsub:=F.sub_dict;have hmro:=F.mro_dict;obtain⟨hp,g,d,tk,os⟩:=s;unfold Builtin.«dict.__new__»
 wp_walk
 exact h
end
theorem gO:fillsNumberSlot (.type "tuple") "mul"=pure false:=
 PySem.fillsNumberSlot_seq (id:="tuple.__mul__") (r:=some (.builtin "tuple.__rmul__")) Lw.lookup (by decide +kernel) Oh.lookup (by decide +kernel)
theorem my:seqRepeat? (.type "tuple")=pure (some<|.builtin "tuple.__mul__"):=by
 unfold seqRepeat?;rw[PySem.seqSlot_of (T:="tuple") (name:="__mul__") (id:="tuple.__mul__") Lw.lookup (by decide +kernel),PySem.seqSlot_of (T:="tuple") (name:="__rmul__") (id:="tuple.__rmul__") Oh.lookup (by decide +kernel)]
 rfl
theorem kJ(a:Int)(t:Tok)(l:Addr)(items:Array Value)(n:Nat)(dd:Option Addr)(sl:Array (Option Value)):
  Meets (Builtin.«int.__rmul__» ⟨[.int a t,.ref l],[]⟩) (λ_ R s=>s.heap.get? l=some { cls:=.type "tuple",dict:=dd,data:=.seq items n,slots:=sl }/\R (.ok<|.ret Value.notImplemented) s):=
 .of_wp λprog w A R s h=>by obtain⟨hp,g,d,tk,os⟩:=s;obtain⟨hl,h⟩:=h;wp_walk;exact⟨_,rfl,h⟩
theorem kS(l:Addr)(items:Array Value)(n:Nat)(dd:Option Addr)(sl:Array (Option Value))(x:Int)(u:Tok)(hx:1<x)(hx2:x<=1000)(hi:items.size<=1000)(h0:items.isEmpty=false):
  Meets (Builtin.«tuple.__mul__» ⟨[.ref l,.int x u],[]⟩) (λ_ R s=>s.heap.get? l=some { cls:=.type "tuple",dict:=dd,data:=.seq items n,slots:=sl }/\
   R (.ok<|.ret<|.ref s.heap.objs.size) { s with heap:=s.heap.push { cls:=.type "tuple",data:=.seq ((JN x.toNat items).foldl (·++·) #[]) } }):=
 .of_wp λprog w A R s h=>by
  obtain⟨hp,g,d,tk,os⟩:=s;obtain⟨hl,h⟩:=h;have f1:=ND;have f2:=Mz;have g1:(decide (x < -(2 ^ 63))||decide (x>=2 ^ 63))=false:=by simp;lia
  have g2:(items.isEmpty||x==1)=false:=by rw[h0];simp;lia
  have g3:(decide (x<=0)||items.isEmpty)=false:=by rw[h0];simp;lia
  have hm:(items.size:Int)*x<=1000000:=by
   have a1:(items.size:Int)*x<=1000*x:=Int.mul_le_mul_of_nonneg_right (by lia) (by lia)
   lia
  have hm2:¬((items.size:Int)*x>(2 ^ 63-1) / 8):=by lia
  have hm3:Nx ((items.size:Int)*x)=false:=by
   unfold Nx;have:(1000000:Int)<=(sizeLine:Int):=by decide
   exact decide_eq_false (by lia)
  wp_walk using wpAny_loadPart' hl
  try simp only[g1,JQ,if_false]
  wp_walk using wpAny_loadPart' hl
  try simp only[g2,JQ,if_false]
  wp_walk using wpAny_loadPart' hl
  try simp only[g3,JQ,if_false]
  wp_walk using wpAny_loadPart' hl
  rw[if_neg hm2];simp only[hm3,JQ,if_false];unfold Lk;have hlen:((JN x.toNat items).foldl (·++·) #[]).toList.length<=sizeLine:=by
   have e:∀(k:Nat) (acc:Array Value),((JN k items).foldl (·++·) acc).size=acc.size+k*items.size:=by
    intro k
    induction k with
    |zero=>intro acc;simp
    |succ k ih=>intro acc;rw[Kg,Lf,ih,Array.size_append,Nat.succ_mul];lia
   rw[Kk,e];have:x.toNat*items.size<=1000*1000:=Nat.mul_le_mul (by lia) hi
   have h2:(1000*1000:Nat)<=sizeLine:=by decide
   simp only[JI,JT]at *;lia
  refine wpAny_bind (wpAny_newTuple (wpAny_pure ⟨_,rfl,?_⟩) hlen);simpa using h
theorem lA(l:Addr)(items:Array Value)(n:Nat)(dd:Option Addr)(sl:Array (Option Value))(u:Tok):
  Meets (Builtin.«tuple.__mul__» ⟨[.ref l,.int 1 u],[]⟩) (λ_ R s=>s.heap.get? l=some { cls:=.type "tuple",dict:=dd,data:=.seq items n,slots:=sl }/\R (.ok<|.ret<|.ref l) s):=
 .of_wp λprog w A R s h=>by
  obtain⟨hp,g,d,tk,os⟩:=s;obtain⟨hl,h⟩:=h;have f1:=ND;have f2:=Mz;have g1:(decide ((1:Int) < -(2 ^ 63))||decide ((1:Int)>=2 ^ 63))=false:=by decide
  have g2:(items.isEmpty||(1:Int)==1)=true:=by simp
  wp_walk using wpAny_loadPart' hl
  try simp only[g1,JQ,if_false]
  wp_walk using wpAny_loadPart' hl
  try simp only[g2,if_true]
  wp_walk using wpAny_loadPart' hl
  all_goals first|exact⟨_,rfl,h⟩|skip
theorem kK(l:Addr)(items:Array Value)(n:Nat)(dd:Option Addr)(sl:Array (Option Value))(x:Int)(u:Tok)(hx:x<=0)(hx2:-1000<=x)(h0:items.isEmpty=false):
  Meets (Builtin.«tuple.__mul__» ⟨[.ref l,.int x u],[]⟩) (λ_ R s=>s.heap.get? l=some { cls:=.type "tuple",dict:=dd,data:=.seq items n,slots:=sl }/\
   R (.ok<|.ret<|.ref s.heap.objs.size) { s with heap:=s.heap.push { cls:=.type "tuple",data:=.seq #[] } }):=
 .of_wp λprog w A R s h=>by
  obtain⟨hp,g,d,tk,os⟩:=s;obtain⟨hl,h⟩:=h;have f1:=ND;have f2:=Mz;have g1:(decide (x < -(2 ^ 63))||decide (x>=2 ^ 63))=false:=by simp;lia
  have g2:(items.isEmpty||x==1)=false:=by rw[h0];simp;lia
  have g3:(decide (x<=0)||items.isEmpty)=true:=by simp[hx]
  wp_walk using wpAny_loadPart' hl
  try simp only[g1,JQ,if_false]
  wp_walk using wpAny_loadPart' hl
  try simp only[g2,JQ,if_false]
  wp_walk using wpAny_loadPart' hl
  try simp only[g3,if_true]
  all_goals exact⟨_,rfl,h⟩
section
variable {prog:Program}{w:World}{A:Around}{E:Value->Shared->Prop}{s:Shared}
theorem wV{l:Addr}{its:List Value}{k:Int}{u:Tok}{Q:Value->Shared->Prop}(ht:s.heap.IsTuple l its.toArray)(h0:its≠[])(hk0:0<=k)(hk:k<=1000)(hi:its.length<=1000)
  (h1:k=1->Q (.ref l) s) (h2:k≠1->Q (.ref s.heap.objs.size) { s with heap:=s.heap.push { cls:=.type "tuple",data:=.seq (JN k.toNat its).flatten.toArray } }):
  wpAny (model prog w) A (binaryOp .Mult (.ref l)<|.int k u) Q E s:=by
 obtain⟨⟨cls,dd,data,sl⟩,e,hc,n,hd⟩:=ht;simp only at hc hd;subst hc hd;have he:its.toArray.isEmpty=false:=by cases its with|nil=>exact absurd rfl h0|cons a r=>rfl
 refine wpAny_binaryOp_repeat_ref (T:="tuple") (U:="int") (by decide) ⟨_,e,rfl⟩ (λs'=>typeIs_int s' k u) gO PySem.F.fills_int_mul Ov my PySem.F.slot_int_index.lookup
  (call_meets Ov (typeIs_int s k u) PySem.F.entry_int_rmul (PySem.F.args_int_rmul_2 _ _) (kJ k u l its.toArray n dd sl) ⟨e,rfl,⟨_,e,rfl⟩,?_⟩)
 by_cases hk1:k=1
 .subst hk1
  exact call_meets Lw ⟨_,e,rfl⟩ MH (MD _ _) (lA l its.toArray n dd sl u) ⟨e,h1 rfl⟩
 .have h2':=h2 hk1
  by_cases hk2:k<=0
  .refine call_meets Lw ⟨_,e,rfl⟩ MH (MD _ _) (kK l its.toArray n dd sl k u hk2 (by lia) he) ⟨e,?_⟩
   have ek:k.toNat=0:=by lia
   rw[ek]at h2';exact h2'
  .refine call_meets Lw ⟨_,e,rfl⟩ MH (MD _ _) (kS l its.toArray n dd sl k u (by lia) hk (by rw[JI];exact hi) he) ⟨e,?_⟩
   have ef:∀(m:Nat) (acc:List Value),List.foldl (λx1 x2=>x1++x2) acc.toArray (JN m its.toArray)=(acc++(JN m its).flatten).toArray:=by
    intro m
    induction m with
    |zero=>intro acc;simp
    |succ m ih=>
     intro acc;have e1:acc.toArray++its.toArray=(acc++its).toArray:=by simp
     rw[Kg,Lf,e1,ih,Kg,LQ,Ko]
   have e0:=ef k.toNat [];rw[LK]at e0;rw[e0];exact h2'
end
section
variable {X:Cx}
theorem zU:ce X (binaryOp .Add) (λx y H Q=>∃a b ys,x=.ref a/\y=.ref b/\gL X.K H a []/\gL X.K H b ys/\Q (.ref b) H):=by
 intro pins s U H x y v u Q I rx ry h;obtain⟨a,b,ys,rfl,rfl,ha,hb,q⟩:=h;cases rx;cases ry;obtain⟨its,r1,p1,_⟩:=I.tuple ha;obtain⟨its2,r2,p2,_⟩:=I.tuple hb;obtain rfl:its=[]:=r1.zero;obtain⟨⟨cls,dd,data,sl⟩,ho,hc,n,hd⟩:=id p1;obtain⟨⟨cls2,dd2,data2,sl2⟩,ho2,hc2,n2,hd2⟩:=id p2;simp only at hc hd hc2 hd2;subst hc hd hc2 hd2
 exact concat_meets ⟨_,ho,rfl⟩ ⟨_,ho2,rfl⟩ noFill_tuple_add seq_tuple_add ML MI (ME _ _)
  (tuple_addW0 a b #[] its2.toArray n n2 dd dd2 sl sl2 rfl) ⟨ho,ho2,⟨.ref b,H,I,rfl,q⟩⟩
theorem Ae{n:Nat}(hn:n.log2<2000)(hn0:0<n):ce X (binaryOp .FloorDiv) (rI (λ_ j=>j=(n:Int)) λi j=>.int (i / j)):=opI λi j _ _ _ _ _ hc q=>by
 subst hc;refine floordiv_int (by lia) ?_ (.inl<|PyProof.noPylong_of_log2<|by simpa using NN hn (by decide))
 rw[Int.fdiv_eq_ediv_of_nonneg _ (by lia)]
 exact q
end
end L2
namespace Tw
open PySem L2
end Tw
namespace L2
open PySem PySem.Spec PyProof.Rows
section
variable {X:Cx}
end
theorem eI{h base:Heap}{S:List Addr}:∀{l:List Env},h.FunFrames base l->(∀b∈fk l,b∈S)->h.FunFrames (Oa h S) l
 |[],_,_=>trivial
 |env::r,hl,hs=>by
  obtain⟨hk,⟨L,o,hf,hn,ho,hd⟩,hr⟩:=hl;have hL:L∈S:=hs L (by unfold fk;rw[Lu,hf];exact KP)
  exact⟨hk,⟨L,o,hf,W.hideAll_none S hL,ho,hd⟩,eI hr λb hb=>hs b (by unfold fk;rw[Lu,hf];exact JZ _ hb)⟩
def qA(P:Program)(w:World)(C:Addr):iJ:=λouter H s E e s'=>∃(ea:Addr) (H':Hp) (B:Heap) (a0:Value),e=.ref ea/\s'.os=s.os/\AllBare s'.gens/\Un (fk outer) [] H H' s.heap s'.heap/\HOk P w H' s'.heap/\
 Heap.FlyingW B outer ea (.ref C) a0 s'.heap/\(∀b u,H' b=some u->∃o,B.get? b=some o)/\(∀b o,s.heap.get? b=some o->b∉fk outer->∃o',B.get? b=some o')/\E (.ref C) none H'
theorem o9{P:Program}{w:World}{H:Hp}{h h' B:Heap}(hok:HOk P w H h)(k:B.StaysIn h)(k':B.StaysIn h')(sT:∀b u,H b=some u->∃o,B.get? b=some o):HOk P w H h':=λa o e=>
 (hok a o e).stay (λb u hb q=>by
  obtain⟨v,hv⟩:∃v,B.get? b=some v:=by
   rcases hb with rfl|z
   .exact sT _ _ e
   .exact sT _ _ z
  have:=k b v hv;rw[q]at this;cases this;exact k' b _ hv) (λ_ q=>q) λ_ _ q=>q
theorem qQ{fs:List Addr}{H H':Hp}{h h1 h2 B:Heap}(un:Un fs [] H H' h h1)(k1:B.StaysIn h1)(k2:B.StaysIn h2)(up:h1.UpToSlots h2)(sA:∀b o,h.get? b=some o->b∉fs->∃o',B.get? b=some o')
  (nf:∀b∈fs,∀o,h.get? b=some o->∀vs,o.data≠.fields vs) (fr:∀b∈fs,H b=none):Un fs [] H H' h h2 where
 keep:=λb o q n hb hx=>by
  have q1:=un.keep b o q n hb hx;obtain⟨o',ho'⟩:=sA b o q hb;have:=k1 b o' ho';rw[q1]at this;cases this;exact k2 b _ ho'
 slot:=λb o q n hb hx=>by
  obtain⟨sl,q1⟩:=un.slot b o q n hb hx;obtain⟨sl2,q2⟩:=up b _ q1 (nf b hb o q);exact⟨sl2,q2⟩
 free:=un.free
 there:=λb o q hx=>by
  by_cases hb:b∈fs
  .obtain⟨sl,q1⟩:=un.slot b o q (fr b hb) hb hx
   obtain⟨sl2,q2⟩:=up b _ q1 (nf b hb o q);exact⟨_,q2⟩
  .obtain⟨o',ho'⟩:=sA b o q hb
   exact⟨o',k2 b o' ho'⟩
 tups:=un.tups
 frzs:=un.frzs
 tbls:=un.tbls
section
variable {P:Program}{w:World}{K:JF}{mg:Str->Option Value}{base:Heap}{N:List Str}{qual:Str}{scope:Scope}{f C:Addr}{cd:Value}{A:Around}{outer:List Env}{s0:Shared}{H0:Hp}{E:XK}
theorem pi{env:Env}{L:Addr}{l:List Env}(h:env.frame=some L):fk (env::l)=L::fk l:=by unfold fk;rw[Lu,h]
theorem IM:cy (qA P w C) (dh (qA P w C) P w K mg base N qual scope f cd A outer s0 H0 E) E:=by
 intro pins U H s e s' I hx;obtain⟨ea,H',B,a0,rfl,hos,hb,un,hok,hfl,sT,sA,hE⟩:=hx;have hsk:(dh (qA P w C) P w K mg base N qual scope f cd A outer s0 H0 E).stack=envOfC qual scope s0.heap.objs.size f cd::outer:=rfl;have hfr:(envOfC qual scope s0.heap.objs.size f cd).frame=some s0.heap.objs.size:=rfl;have hfs:fk (envOfC qual scope s0.heap.objs.size f cd::outer)=s0.heap.objs.size::fk outer:=pi hfr;rw[hsk]at un hfl sA;show wpAny (model P w) (A.deeper<|envOfC qual scope s0.heap.objs.size f cd) (leaving (envOfC qual scope s0.heap.objs.size f cd)<|.ref ea) (λ_ s''=>qA P w C outer H0 s0 E (.ref ea) s'') (λe' s''=>qA P w C outer H0 s0 E e' s'') s';refine wpAny_leaves_onW I.ok.frames hfr hfl λh' hfl' hup=>?_;have u1:Un (fk outer) [] H0 H s0.heap s.heap:=I.base;have nofr:∀{b:Addr} {o:Obj},s0.heap.get? b=some o->b∉fk outer->b∉fk (envOfC qual scope s0.heap.objs.size f cd::outer):=λ{b o} q hb z=>by
  rw[hfs]at z;rcases JM.mp z with e|z
  .exact KL _ (e▸JJ q)
  .exact hb z
 have un2:Un (fk (envOfC qual scope s0.heap.objs.size f cd::outer)) [] H H' s.heap h':=by
  refine qQ un hfl.1 hfl'.1 hup sA (λb hb o q vs=>?_) λb hb=>?_
  .obtain⟨_,o',ho',hd⟩:=I.stack.mem (show b∈_ from hb)
   rw[q]at ho';cases ho';exact hd vs
  .exact I.stkFree b hb
 refine⟨ea,H',B,a0,rfl,hos.trans I.os,hb,?_,o9 hok hfl.1 hfl'.1 sT,hfl',sT,λb o q hb=>?_,hE⟩
 .refine⟨λb o q n hb hx=>?_,λb o q n hb hx=>?_,λb o q n hx=>?_,λb o q hx=>?_,λb xs q=>un2.tups b xs (u1.tups b xs q),λb o u q=>un2.frzs b o u (u1.frzs b o u q),λb ps q=>?_⟩
  .exact un2.keep b o (u1.keep b o q n hb hx) (u1.free b o q n hx) (nofr q hb) hx
  .obtain⟨sl,q1⟩:=u1.slot b o q n hb hx
   obtain⟨sl2,q2⟩:=un2.slot b _ q1 (u1.free b o q n hx) (by rw[hfs];exact JZ _ hb) hx
   exact⟨sl2,q2⟩
  .obtain⟨o1,q1⟩:=u1.there b o q hx
   exact un2.free b o1 q1 (u1.free b o q n hx) hx
  .obtain⟨o1,q1⟩:=u1.there b o q hx
   exact un2.there b o1 q1 hx
  .obtain⟨m1,e1⟩:=u1.tbls b ps q
   obtain⟨m2,e2⟩:=un2.tbls b _ e1;exact⟨m1++m2,by rw[e2,NC]⟩
 .obtain⟨o1,q1⟩:=u1.there b o q (by simp)
  exact sA b o1 q1 (nofr q hb)
structure ExcAt(K:JF)(C:Addr):Prop where
 at_:∃(nm q:Str) (Nn:Addr) (bs bm bmB:List Value) (hdct:Bool) (sn:List Str) (sub:List Value) (ab:Bool) (col:Option Bool) (dd:Option Addr) (k0 k1 k2 k3 k5:Option Value) (newId initId Bs:String) (mN:Str->Option Value),
  (∀h:Heap,K.In h->h.get? C=some (excClassObj nm q C Nn bs bm hdct sn sub ab col dd k0 k1 k2 k3 k5 newId)/\h.Ns Nn mN/\OwnTail h bmB bm)/\mN "__init__"=none/\ExcBaseFacts Bs newId initId bmB/\bmB.contains (.type Bs)=true/\bm.contains (.type "BaseException")=true
theorem ObjOk.obj{P:Program}{w:World}{H:Hp}{h:Heap}{a:Addr}{o:HO}(x:ObjOk P w H h a o):∃v,h.get? a=some v:=by
 cases o with
 |lst xs=>obtain⟨_,_,_,_,e⟩:=x;exact⟨_,e⟩
 |tup xs=>obtain⟨_,_,_,_,e,_⟩:=x;exact⟨_,e⟩
 |dK kvs=>obtain⟨_,_,_,_,o,_,_,e,_⟩:=x;exact⟨_,e⟩
 |dT kvs=>obtain⟨_,_,_,_,o,_,_,e,_⟩:=x;exact⟨_,e⟩
 |set S n=>obtain⟨o,_,_,_,e,_⟩:=x;exact⟨_,e⟩
 |ins C dx fs=>obtain⟨_,_,_,e,_⟩:=x;exact⟨_,e⟩
 |own y=>obtain⟨_,e⟩:=x;exact⟨_,e⟩
 |xd fs=>obtain⟨_,⟨_,_,_,e,_⟩,_⟩:=x;exact⟨_,e⟩
 |rng lo hi=>obtain⟨_,_,_,e⟩:=x;exact⟨_,e⟩
 |frz ob u=>obtain⟨e,_⟩:=x;exact⟨_,e⟩
 |tbl ps=>exact⟨_,(show h.get? a=some _ from x)⟩
 |met f y=>exact⟨_,(show h.get? a=some _ from x)⟩
 |ext φ=>obtain⟨_,⟨_,e⟩,_⟩:=x;exact⟨_,e⟩
theorem BX{fs:List Addr}{L:Addr}{H0 H H':Hp}{h0 h h':Heap}(u1:Un fs [] H0 H h0 h)(un2:Un (L::fs) [] H H' h h')(hL:h0.objs.size<=L):Un fs [] H0 H' h0 h':=by
 have nofr:∀{b:Addr} {o:Obj},h0.get? b=some o->b∉fs->b∉L::fs:=λ{b o} q hb z=>by
  rcases JM.mp z with e|z
  .exact KL _ (JX (e▸JJ q) hL)
  .exact hb z
 refine⟨λb o q n hb hx=>un2.keep b o (u1.keep b o q n hb hx) (u1.free b o q n hx) (nofr q hb) hx,λb o q n hb hx=>?_,λb o q n hx=>?_,λb o q hx=>?_,λb xs q=>un2.tups b xs (u1.tups b xs q),λb o u q=>un2.frzs b o u (u1.frzs b o u q),λb ps q=>?_⟩
 .obtain⟨sl,q1⟩:=u1.slot b o q n hb hx
  obtain⟨sl2,q2⟩:=un2.slot b _ q1 (u1.free b o q n hx) (JZ _ hb) hx;exact⟨sl2,q2⟩
 .obtain⟨o1,q1⟩:=u1.there b o q hx
  exact un2.free b o1 q1 (u1.free b o q n hx) hx
 .obtain⟨o1,q1⟩:=u1.there b o q hx
  exact un2.there b o1 q1 hx
 .obtain⟨m1,e1⟩:=u1.tbls b ps q
  obtain⟨m2,e2⟩:=un2.tbls b _ e1;exact⟨m1++m2,by rw[e2,NC]⟩
def qR(E:XK)(C:Addr):TS:=λ_ _ H=>E (.ref C) none H
theorem zE{x msg:Str}{np cpos pos apos:Pos}{jj}(X:ExcAt K C)(hm:mg x=some (.ref C))(hg:Gl (dh (qA P w C) P w K mg base N qual scope f cd A outer s0 H0 E) x)
  (hd:(x==("__debug__":Str))=false:=by decide)
  (hs:starEach [.Constant (.str msg) jj apos] (dh (qA P w C) P w K mg base N qual scope f cd A outer s0 H0 E).env=[(false,eval (.Constant (.str msg) jj apos) (dh (qA P w C) P w K mg base N qual scope f cd A outer s0 H0 E).env)]:=by rfl):
  PS (dh (qA P w C) P w K mg base N qual scope f cd A outer s0 H0 E) (.Raise (some<|.Call (.Name x np) [.Constant (.str msg) jj apos] [] cpos) none pos) (qR E C):=by
 intro pins s U H D I h;obtain⟨nm,q,Nn,bs,bm,bmB,hdct,sn,sub,ab,col,dd,k0,k1,k2,k3,k5,newId,initId,Bs,mN,hX,hni,FB,hBs,hbase⟩:=X.at_
 refine wpAny_Raise_call_subU (C:=C) (nm:=nm) (q:=q) (N:=Nn) (bs:=bs) (bm:=bm) (hdct:=hdct) (sn:=sn) (sub:=sub) (ab:=ab) (col:=col) (dd:=dd) (k0:=k0) (k1:=k1) (k2:=k2) (k3:=k3) (k5:=k5) FB hBs FB (mN:=mN) hbase (I.ok.hd rfl) (by rw[hs];rfl) hni
  (dO I hg hm ⟨rfl,?_⟩ hd)
 have hA:=(mV As rn hs) cpos pins s U H (λxs H1=>xs.length=1/\E (.ref C) none H1) I ⟨rfl,h⟩;rw[hs]at hA ⊢;refine OT (wpAny_mono hA (λvs s₂ h₂=>?_) λ_ _ y=>y);obtain⟨vv,H1,I1,r,hlen,hE⟩:=h₂;obtain⟨hC,hN,T⟩:=hX s₂.heap I1.kIn;refine⟨rfl,?_,hC,hN,T,λh' e hx=>?_⟩
 .show vs.length<=sizeLine
  rw[<- r.length,hlen]
  decide
 have hfr:(envOfC qual scope s0.heap.objs.size f cd).frame=some s0.heap.objs.size:=rfl;have hfs:fk (envOfC qual scope s0.heap.objs.size f cd::outer)=s0.heap.objs.size::fk outer:=pi hfr;have kB:(Oa s₂.heap<|fk (envOfC qual scope s0.heap.objs.size f cd::outer)).StaysIn s₂.heap:=λb o e=>W.of_hideAll _ e;show wpAny (model P w) (A.deeper<|envOfC qual scope s0.heap.objs.size f cd) (leaving (envOfC qual scope s0.heap.objs.size f cd)<|.ref e) (λ_ s''=>qA P w C outer H0 s0 E (.ref e) s'') (λe' s''=>qA P w C outer H0 s0 E e' s'') _;refine wpAny_leaves_madeW I1.ok.frames hfr kB (eI I1.stack λb hb=>hb) hx λh'' t hfl _ _ hup=>?_;have up2:s₂.heap.UpToSlots h'':=(Heap.UpToSlots.of_keeps hx.keeps).trans hup;have inB:∀{b:Addr} {o:Obj},s₂.heap.get? b=some o->b∉fk (envOfC qual scope s0.heap.objs.size f cd::outer)->(Oa s₂.heap<|fk (envOfC qual scope s0.heap.objs.size f cd::outer)).get? b=some o:=λe n=>W.hideAll_get _ e n;have sT:∀b u,H1 b=some u->∃o,(Oa s₂.heap<|fk (envOfC qual scope s0.heap.objs.size f cd::outer)).get? b=some o:=λb u e=>by
  obtain⟨v,hv⟩:=ObjOk.obj (I1.hok b u e);exact⟨v,inB hv λz=>by rw[I1.stkFree b z]at e;cases e⟩
 have un2:Un (fk (envOfC qual scope s0.heap.objs.size f cd::outer)) [] H1 H1 s₂.heap h'':=by
  refine qQ Un.refl kB hfl.1 up2 (λb o q hb=>⟨o,inB q hb⟩) (λb hb o q vs=>?_) λb hb=>I1.stkFree b hb;obtain⟨_,o',ho',hd'⟩:=I1.stack.mem (show b∈_ from hb);rw[q]at ho';cases ho';exact hd' vs
 rw[hfs]at un2;refine⟨e,H1,_,.ref t,rfl,I1.os,I1.bare,BX I1.base un2 (JE _),o9 I1.hok kB hfl.1 sT,hfl,sT,λb o q hb=>?_,hE⟩;obtain⟨o1,q1⟩:=I1.base.there b o q (λz=>absurd (show b∈([]:List Addr) from z) (by simp))
 refine⟨o1,inB q1 λz=>?_⟩;rw[hfs]at z;rcases JM.mp z with e'|z
 .exact KL _ (e'▸JJ q)
 .exact hb z
end
abbrev Cx.marked(X:Cx)(e:Value):Cx:={ X with A:=X.A.mark (some e),calm:=false,xe:=λ_ _=>False }
section
variable {X:Cx}{pins:List (Addr×Obj)}{U:St}{H:Hp}{s:Shared}{e:Value}
theorem Cx.Ok.mark(ok:X.Ok)(e:Value):(X.marked e).Ok:=
 ⟨ok.mod,ok.kind,ok.glob,ok.blt,ok.above,ok.inj,ok.has,ok.cab,λz=>(NW z),ok.frames,ok.stk,ok.exf,ok.bs,ok.bsz,ok.noex,ok.exfs,ok.funs,ok.frf⟩
theorem Inv.mark(I:Inv X pins U H s)(e:Value):Inv (X.marked e) pins U H s:=⟨I.ok.mark e,I.os,I.bare,I.base,I.loc,I.cell,I.free,I.freeC,I.pin,I.hok,I.len⟩
theorem Inv.unmark(ok:X.Ok)(I:Inv (X.marked e) pins U H s):Inv X pins U H s:=⟨ok,I.os,I.bare,I.base,I.loc,I.cell,I.free,I.freeC,I.pin,I.hok,I.len⟩
end
end L2
namespace L3
open PySem L2
inductive D where
 |non|bl (b:Bool)|int (i:Int)|str (x:Str)|ty (n:String)|ref (a:Addr)|tup (xs:List D)|lst (xs:List D)|mt (xs:List D)|ml (xs:List D)
def TpD(_:JF)(H:Hp)(p:Addr)(vs:List V):Prop:=H p=some (.tup vs)
def TpM(K:JF)(p:Addr)(vs:List V):Prop:=∃(o:Obj) (its:Array Value) (n:Nat),K.lookup p=some o/\o.cls=.type "tuple"/\o.data=.seq its n/\its.size<=sizeLine/\Vals vs its.toList
def FzD(K:JF)(H:Hp)(p:Addr)(vs:List V):Prop:=
 ∃o,H p=some (.frz o<|.lst vs)
def FzK(K:JF)(H:Hp)(p:Addr)(vs:List V):Prop:=(∃o,H p=some (.frz o<|.lst vs))\/∃(o:Obj) (its:Array Value) (n:Nat),K.lookup p=some o/\o.cls=.type "list"/\o.dict=none/\o.data=.seq its n/\its.size<=sizeLine/\Vals vs its.toList
theorem FzK.sq{K:JF}{H:Hp}{p:Addr}{vs:List V}(h:FzK K H p vs):SqL K H p vs:=h.imp (λ⟨o,e⟩=>.inr ⟨o,e⟩) λx=>x
theorem TpD.sq{K:JF}{H:Hp}{p:Addr}{vs:List V}(h:TpD K H p vs):gL K H p vs:=.inl (.inl h)
theorem TpM.sq{K:JF}{H:Hp}{p:Addr}{vs:List V}(h:TpM K p vs):gL K H p vs:=.inr h
theorem FzD.sq{K:JF}{H:Hp}{p:Addr}{vs:List V}(h:FzD K H p vs):SqL K H p vs:=by
 obtain⟨o,h⟩:=h;exact .inl (.inr ⟨o,h⟩)
mutual
def Rp(K:JF)(H:Hp):D->V->Prop
 |.non,v=>v=.non
 |.bl b,v=>v=.bl b
 |.int i,v=>v=.int i
 |.str x,v=>v=.str x
 |.ty n,v=>v=.ty n
 |.ref a,v=>v=.ref a
 |.tup xs,v=>∃p vs,v=.ref p/\TpD K H p vs/\Rps K H xs vs
 |.lst xs,v=>∃p vs,v=.ref p/\FzD K H p vs/\Rps K H xs vs
 |.mt xs,v=>∃p vs,v=.ref p/\TpM K p vs/\Rps K H xs vs
 |.ml xs,v=>∃p vs,v=.ref p/\FzK K H p vs/\Rps K H xs vs
def Rps(K:JF)(H:Hp):List D->List V->Prop
 |[],vs=>vs=[]
 |x::xs,vs=>∃v r,vs=v::r/\Rp K H x v/\Rps K H xs r
end
structure Imm(H H':Hp):Prop where
 tup:∀p vs,H p=some (.tup vs)->H' p=some (.tup vs)
 frz:∀p o u,H p=some (.frz o u)->H' p=some (.frz o u)
theorem Imm.refl{H:Hp}:Imm H H:=⟨λ_ _ e=>e,λ_ _ _ e=>e⟩
theorem TpD.mono{K:JF}{H H':Hp}{p:Addr}{vs:List V}(i:Imm H H')(h:TpD K H p vs):TpD K H' p vs:=i.tup _ _ h
theorem FzK.mono{K:JF}{H H':Hp}{p:Addr}{vs:List V}(i:Imm H H')(h:FzK K H p vs):FzK K H' p vs:=h.imp (λ⟨o,e⟩=>⟨o,i.frz _ _ _ e⟩) λx=>x
theorem FzD.mono{K:JF}{H H':Hp}{p:Addr}{vs:List V}(i:Imm H H')(h:FzD K H p vs):FzD K H' p vs:=let ⟨o,e⟩:=h;⟨o,i.frz _ _ _ e⟩
mutual
theorem Rp.mono{K:JF}{H H':Hp}(i:Imm H H'):∀{d:D} {v:V},Rp K H d v->Rp K H' d v
 |.non,_,h=>h
 |.bl _,_,h=>h
 |.int _,_,h=>h
 |.str _,_,h=>h
 |.ty _,_,h=>h
 |.ref _,_,h=>h
 |.tup _,_,h=>by
  obtain⟨p,vs,e,t,r⟩:=h;exact⟨p,vs,e,t.mono i,Rps.mono i r⟩
 |.lst _,_,h=>by
  obtain⟨p,vs,e,t,r⟩:=h;exact⟨p,vs,e,t.mono i,Rps.mono i r⟩
 |.mt _,_,h=>by
  obtain⟨p,vs,e,t,r⟩:=h;exact⟨p,vs,e,t,Rps.mono i r⟩
 |.ml _,_,h=>by
  obtain⟨p,vs,e,t,r⟩:=h;exact⟨p,vs,e,t.mono i,Rps.mono i r⟩
theorem Rps.mono{K:JF}{H H':Hp}(i:Imm H H'):∀{ds:List D} {vs:List V},Rps K H ds vs->Rps K H' ds vs
 |[],_,h=>h
 |_::_,_,h=>by
  obtain⟨v,r,e,a,b⟩:=h;exact⟨v,r,e,Rp.mono i a,Rps.mono i b⟩
end
section
variable {K:JF}{H H':Hp}
theorem Rps.nil:Rps K H [] []:=rfl
theorem Rps.cons{d:D}{v:V}{ds:List D}{vs:List V}(a:Rp K H d v)(b:Rps K H ds vs):Rps K H (d::ds) (v::vs):=⟨v,vs,rfl,a,b⟩
theorem Rps.length:∀{ds:List D} {vs:List V},Rps K H ds vs->ds.length=vs.length
 |[],_,h=>by cases h;rfl
 |_::_,_,h=>by obtain⟨v,r,rfl,_,b⟩:=h;simp[b.length]
theorem Rps.get:∀{ds:List D} {vs:List V},Rps K H ds vs->∀{i:Nat} {d:D},ds[i]?=some d->∃v,vs[i]?=some v/\Rp K H d v
 |[],_,_,i,d,e=>by simp at e
 |x::xs,_,h,i,d,e=>by
  obtain⟨v,r,rfl,a,b⟩:=h;cases i with
  |zero=>simp at e;subst e;exact⟨v,by simp,a⟩
  |succ i=>simpa using b.get (by simpa using e)
theorem Rps.append:∀{ds es:List D} {vs ws:List V},Rps K H ds vs->Rps K H es ws->Rps K H (ds++es) (vs++ws)
 |[],_,_,_,h,g=>by cases h;exact g
 |_::_,_,_,_,h,g=>by
  obtain⟨v,r,rfl,a,b⟩:=h;exact⟨v,_,rfl,a,b.append g⟩
theorem Rps.take:∀{ds:List D} {vs:List V} (n:Nat),Rps K H ds vs->Rps K H (ds.take n) (vs.take n)
 |[],_,n,h=>by cases h;simp[Rps]
 |_::_,_,0,h=>rfl
 |_::_,_,n+1,h=>by
  obtain⟨v,r,rfl,a,b⟩:=h;exact⟨v,_,rfl,a,b.take n⟩
theorem Rps.drop:∀{ds:List D} {vs:List V} (n:Nat),Rps K H ds vs->Rps K H (ds.drop n) (vs.drop n)
 |[],_,n,h=>by cases h;simp[Rps]
 |_::_,_,0,h=>h
 |_::_,_,n+1,h=>by
  obtain⟨v,r,rfl,a,b⟩:=h;exact b.drop n
theorem Rps.set{d:D}{v:V}(a:Rp K H d v):∀{ds:List D} {vs:List V} (i:Nat),Rps K H ds vs->Rps K H (ds.set i d) (vs.set i v)
 |[],_,_,h=>by cases h;rfl
 |_::_,_,0,h=>by obtain⟨w,r,rfl,_,b⟩:=h;exact⟨v,r,rfl,a,b⟩
 |_::_,_,i+1,h=>by obtain⟨w,r,rfl,c,b⟩:=h;exact⟨w,_,rfl,c,b.set a i⟩
theorem Rps.dropLast{ds:List D}{vs:List V}(h:Rps K H ds vs):Rps K H ds.dropLast vs.dropLast:=by
 rw[OX,OX,h.length];exact h.take _
theorem Rps.eraseIdx:∀{ds:List D} {vs:List V} (i:Nat),Rps K H ds vs->Rps K H (ds.eraseIdx i) (vs.eraseIdx i)
 |[],_,_,h=>by cases h;rfl
 |_::_,_,0,h=>by obtain⟨w,r,rfl,_,b⟩:=h;exact b
 |_::_,_,i+1,h=>by obtain⟨w,r,rfl,c,b⟩:=h;exact⟨w,_,rfl,c,b.eraseIdx i⟩
theorem qt:∀{is:List Int} {vs:List V},vs=is.map V.int->Rps K H (is.map D.int) vs
 |[],_,e=>e
 |i::is,_,e=>by subst e;exact⟨_,_,rfl,rfl,qt rfl⟩
end
inductive MO where
 |lst (xs:List D)
 |dK (kvs:List (bw×D))
 |dT (kvs:List (List bw×D))
 |ins (C:Addr) (fs:List (Str×D))
abbrev Mem:=Addr->Option MO
def Mem.upd(M:Mem)(a:Addr)(o:MO):Mem:=λb=>if b=a then some o else M b
def Mem.del(M:Mem)(a:Addr):Mem:=λb=>if b=a then none else M b
def Rkv{κ:Type}(K:JF)(H:Hp):List (κ×D)->List (κ×V)->Prop:=Paired λp q=>p.1=q.1/\Rp K H p.2 q.2
def RepO(K:JF)(H:Hp)(a:Addr):MO->Prop
 |.lst xs=>∃vs,H a=some (.lst vs)/\Rps K H xs vs
 |.dK kvs=>∃ws,H a=some (.dK ws)/\Rkv K H kvs ws
 |.dT kvs=>∃ws,H a=some (.dT ws)/\Rkv K H kvs ws
 |.ins C fs=>∃dx ws,H a=some (.ins C dx ws)/\Rkv K H fs ws
def RepH(K:JF)(H:Hp)(M:Mem):Prop:=∀a o,M a=some o->RepO K H a o
section
variable {K:JF}{H H':Hp}{M:Mem}{a b:Addr}{o:MO}{u:HO}
@[simp] theorem Mem.upd_same:(M.upd a o) a=some o:=by simp[Mem.upd]
theorem ah(h:b≠a):(M.upd a o) b=M b:=by simp[Mem.upd,h]
@[simp] theorem Mem.upd_upd {o':MO}:(M.upd a o).upd a o'=M.upd a o':=by funext c;simp[Mem.upd];split<;>rfl
@[simp] theorem Mem.upd_del:(M.upd a o).del a=M.del a:=by funext c;simp[Mem.upd,Mem.del];split<;>rfl
theorem am(h:M a=none):M.del a=M:=by
 funext c;simp only[Mem.del];split
 .rename_i e;rw[e,h]
 .rfl
theorem Mem.ne{o:MO}(h:M a=some o)(h':M b=none):a≠b:=by intro e;subst e;rw[h]at h';cases h'
theorem Rkv.mono{κ:Type}{kvs:List (κ×D)}{ws:List (κ×V)}(i:Imm H H')(h:Rkv K H kvs ws):Rkv K H' kvs ws:=de h λ_ _ z=>⟨z.1,z.2.mono i⟩
theorem RepO.obj(r:RepO K H a o):∃u,H a=some u:=by
 cases o with
 |lst xs=>obtain⟨vs,e,_⟩:=r;exact⟨_,e⟩
 |dK xs=>obtain⟨vs,e,_⟩:=r;exact⟨_,e⟩
 |dT xs=>obtain⟨vs,e,_⟩:=r;exact⟨_,e⟩
 |ins C fs=>obtain⟨dx,vs,e,_⟩:=r;exact⟨_,e⟩
theorem RepO.keep(r:RepO K H a o)(i:Imm H H')(e:H' a=H a):RepO K H' a o:=by
 cases o with
 |lst xs=>obtain⟨vs,q,z⟩:=r;exact⟨vs,e.trans q,z.mono i⟩
 |dK xs=>obtain⟨vs,q,z⟩:=r;exact⟨vs,e.trans q,z.mono i⟩
 |dT xs=>obtain⟨vs,q,z⟩:=r;exact⟨vs,e.trans q,z.mono i⟩
 |ins C fs=>obtain⟨dx,vs,q,z⟩:=r;exact⟨dx,vs,e.trans q,z.mono i⟩
theorem RepH.fresh(r:RepH K H M)(h:H a=none):M a=none:=by
 cases e:M a with
 |none=>rfl
 |some o=>obtain⟨u,q⟩:=(r a o e).obj;rw[h]at q;cases q
def tJ:Option HO->Prop
 |some (.tup _)=>False
 |some (.frz _ _)=>False
 |_=>True
theorem Imm.upd(h:tJ (H a)):Imm H (upd H a u):=by
 refine⟨λp vs e=>?_,λp o v e=>?_⟩
 .rw[az];exact e
  rintro rfl;rw[e]at h;exact h
 .rw[az];exact e
  rintro rfl;rw[e]at h;exact h
theorem Imm.new(h:H a=none):Imm H (L2.upd H a u):=Imm.upd (by rw[h];trivial)
theorem RepO.loose(r:RepO K H a o):tJ (H a):=by
 cases o with
 |lst xs=>obtain⟨vs,e,_⟩:=r;rw[e];trivial
 |dK xs=>obtain⟨vs,e,_⟩:=r;rw[e];trivial
 |dT xs=>obtain⟨vs,e,_⟩:=r;rw[e];trivial
 |ins C fs=>obtain⟨dx,vs,e,_⟩:=r;rw[e];trivial
theorem RepH.new(r:RepH K H M)(h:H a=none):RepH K (L2.upd H a u) M:=λb o e=>by
 obtain⟨v,q⟩:=(r b o e).obj;exact(r b o e).keep (Imm.new h) (az<|aT q h)
theorem RepH.put(r:RepH K H M)(h:tJ (H a))(n:RepO K (L2.upd H a u) a o):RepH K (L2.upd H a u) (M.upd a o):=λb p e=>by
 by_cases hb:b=a
 .subst hb;rw[Mem.upd_same]at e;cases e;exact n
 .rw[ah hb]at e
  exact(r b p e).keep (Imm.upd h) (az hb)
theorem RepH.keep(r:RepH K H M)(i:Imm H H')(e:∀b o,M b=some o->H' b=H b):RepH K H' M:=λb o q=>(r b o q).keep i (e b o q)
structure Frm(M:Mem)(H:Hp)(M':Mem)(H':Hp):Prop where
 keep:∀b u,H b=some u->M b=none->H' b=some u/\M' b=none
variable {M':Mem}
theorem Frm.refl:Frm M H M H:=⟨λ_ _ e n=>⟨e,n⟩⟩
theorem Frm.trans{M1 M2:Mem}{H1 H2:Hp}(x:Frm M H M1 H1)(y:Frm M1 H1 M2 H2):Frm M H M2 H2:=⟨λb u e n=>let ⟨e1,n1⟩:=x.keep b u e n;y.keep b u e1 n1⟩
theorem Frm.imm(f:Frm M H M' H')(r:RepH K H M):Imm H H':=by
 have key:∀b u,H b=some u->¬tJ (some u)->H' b=some u:=λb u e n=>(f.keep b u e (by
  cases q:M b with
  |none=>rfl
  |some o=>exact absurd (by rw[<- e];exact(r b o q).loose) n)).1
 exact⟨λp vs e=>key p _ e (λz=>z),λp o u e=>key p _ e (λz=>z)⟩
theorem Frm.new(h:H a=none):Frm M H M (L2.upd H a u):=⟨λb v e n=>⟨by rw[az (aT e h)];exact e,n⟩⟩
theorem Frm.put(h:H a=none\/∃o,M a=some o):Frm M H (M.upd a o) (L2.upd H a u):=⟨λb v e n=>by
 have hb:b≠a:=by
  rintro rfl
  rcases h with h|⟨o,h⟩
  .rw[h]at e;cases e
  .rw[h]at n;cases n
 exact⟨by rw[L2.az hb];exact e,by rw[ah hb];exact n⟩⟩
theorem Frm.del(h:∃o,M a=some o):Frm M H (M.del a) (L2.upd H a u):=⟨λb v e n=>by
 have hb:b≠a:=by
  rintro rfl
  obtain⟨o,h⟩:=h;rw[h]at n;cases n
 refine⟨by rw[L2.az hb];exact e,?_⟩
 unfold Mem.del;rw[if_neg hb];exact n⟩
theorem Rp.mf{d:D}{v:V}(x:Rp K H d v)(r:RepH K H M)(f:Frm M H M' H'):Rp K H' d v:=x.mono (f.imm r)
theorem Rps.mf{d:List D}{v:List V}(x:Rps K H d v)(r:RepH K H M)(f:Frm M H M' H'):Rps K H' d v:=x.mono (f.imm r)
end
abbrev Dl:=List (Option D)
abbrev DK:=D->Mem->Prop
abbrev bg:=Dl->Mem->DK->Prop
abbrev eG:=Dl->Mem->(Bool->Mem->Prop)->Prop
abbrev dZ:=Dl->Mem->(List D->Mem->Prop)->Prop
structure RepS(K:JF)(H:Hp)(Y:Dl)(U:St):Prop where
 len:Y.length=U.length
 get:∀(i:Nat) (d:D),Y[i]?=some (some d)->∃v,U[i]?=some (some v)/\Rp K H d v
theorem RepS.mono{K:JF}{H H':Hp}{Y:Dl}{U:St}(r:RepS K H Y U)(i:Imm H H'):RepS K H' Y U:=
 ⟨r.len,λj d e=>by obtain⟨v,h1,h2⟩:=r.get j d e;exact⟨v,h1,h2.mono i⟩⟩
theorem RepS.set{K:JF}{H:Hp}{Y:Dl}{U:St}{i:Nat}{d:D}{v:V}(r:RepS K H Y U)(h:Rp K H d v):RepS K H (Y.set i<|some d) (U.set i<|some v):=by
 refine⟨by simp[r.len],λj e q=>?_⟩
 rw[List.getElem?_set]at q ⊢
 by_cases hij:i=j
 .rw[if_pos hij]at q ⊢
  by_cases hl:i<Y.length
  .rw[if_pos (by rw[<- r.len];exact hij▸hl)]
   rw[if_pos (hij▸hl)]at q;cases q;exact⟨v,rfl,h⟩
  .rw[if_neg (hij▸hl)]at q;cases q
 .rw[if_neg hij]at q ⊢
  exact r.get j e q
structure Bd where
 p:Mem->Hp->Prop
 go:∀{M M':Mem} {H H':Hp},p M H->Frm M H M' H'->p M' H'
def Bd.of(M:Mem)(H:Hp):Bd:=⟨λM' H'=>Frm M H M' H',λa b=>a.trans b⟩
structure SR(X:Cx)(B:Bd)(Y:Dl)(M:Mem)(U:St)(H:Hp):Prop where
 i0:B.p M H
 rh:RepH X.K H M
 rs:RepS X.K H Y U
theorem SR.go{X:Cx}{B:Bd}{Y:Dl}{M M':Mem}{U:St}{H H':Hp}(s:SR X B Y M U H)(rh:RepH X.K H' M')(i:Frm M H M' H'):SR X B Y M' U H':=⟨B.go s.i0 i,rh,s.rs.mono<|i.imm s.rh⟩
def Up(K:JF)(M:Mem)(H:Hp)(QQ:DK)(Q:VK):Prop:=∀d M',QQ d M'->∀v H',RepH K H' M'->Frm M H M' H'->Rp K H' d v->Q v H'
def UpT(K:JF)(M:Mem)(H:Hp)(QQ:Bool->Mem->Prop)(Q:Bool->Hp->Prop):Prop:=∀b M',QQ b M'->∀H',RepH K H' M'->Frm M H M' H'->Q b H'
def UpA(K:JF)(M:Mem)(H:Hp)(QQ:List D->Mem->Prop)(Q:List V->Hp->Prop):Prop:=∀ds M',QQ ds M'->∀vs H',RepH K H' M'->Frm M H M' H'->Rps K H' ds vs->Q vs H'
theorem Up.go{K:JF}{M M1:Mem}{H H1:Hp}{QQ:DK}{Q:VK}(u:Up K M H QQ Q)(i:Frm M H M1 H1):Up K M1 H1 QQ Q:=λd M' q v H' a b c=>u d M' q v H' a (i.trans b) c
theorem UpT.go{K:JF}{M M1:Mem}{H H1:Hp}{QQ:Bool->Mem->Prop}{Q:Bool->Hp->Prop}(u:UpT K M H QQ Q)(i:Frm M H M1 H1):UpT K M1 H1 QQ Q:=λd M' q H' a b=>u d M' q H' a (i.trans b)
inductive liftE(X:Cx)(B:Bd)(T:bg)(U:St)(H:Hp)(Q:VK):Prop
 |mk (Y:Dl) (M:Mem) (QQ:DK) (s:SR X B Y M U H) (h:T Y M QQ) (u:Up X.K M H QQ Q):liftE X B T U H Q
inductive liftT(X:Cx)(B:Bd)(T:eG)(U:St)(H:Hp)(Q:Bool->Hp->Prop):Prop
 |mk (Y:Dl) (M:Mem) (QQ:Bool->Mem->Prop) (s:SR X B Y M U H) (h:T Y M QQ) (u:UpT X.K M H QQ Q):liftT X B T U H Q
inductive liftA(X:Cx)(B:Bd)(T:dZ)(U:St)(H:Hp)(Q:List V->Hp->Prop):Prop
 |mk (Y:Dl) (M:Mem) (QQ:List D->Mem->Prop) (s:SR X B Y M U H) (h:T Y M QQ) (u:UpA X.K M H QQ Q):liftA X B T U H Q
def DE(X:Cx)(B:Bd)(e:Expr)(T:bg):Prop:=PE X e (liftE X B T)
def DT(X:Cx)(B:Bd)(e:Expr)(T:eG):Prop:=PT X e (liftT X B T)
def DA(X:Cx)(B:Bd)(es:List Expr)(T:dZ):Prop:=PA X es (liftA X B T)
theorem aZ{X:Cx}{e:Expr}{t t':TE}(h:PE X e t)(w:∀U H Q,t' U H Q->t U H Q):PE X e t':=λpins s U H Q I q=>h pins s U H Q I (w U H Q q)
theorem iL{X:Cx}{e:Expr}{t t':TT}(h:PT X e t)(w:∀U H Q,t' U H Q->t U H Q):PT X e t':=λpins s U H Q I q=>h pins s U H Q I (w U H Q q)
theorem ve{X:Cx}{e:List Expr}{t t':TA}(h:PA X e t)(w:∀U H Q,t' U H Q->t U H Q):PA X e t':=λpos pins s U H Q I q=>h pos pins s U H Q I (w U H Q q)
theorem ck{X:Cx}{e:Stmt}{t t':TS}(h:PS X e t)(w:∀D U H,t' D U H->t D U H):PS X e t':=λpins s U H D I q=>h pins s U H D I (w D U H q)
theorem oU{X:Cx}{e:List Stmt}{t t':TS}(h:rK X e t)(w:∀D U H,t' D U H->t D U H):rK X e t':=λpins s U H D I q=>h pins s U H D I (w D U H q)
def ac(i:Nat):bg:=λY M Q=>match Y[i]? with
 |some (some d)=>Q d M
 |_=>False
def dC(d:D):bg:=λ_ M Q=>Q d M
section
variable {X:Cx}{B:Bd}{a b c:Expr}{ta tb tc:bg}{pos:Pos}
theorem Hc{i:Nat}{x:Str}{pos:Pos}(hN:X.N[i]?=some x)(hv:Hq X.env.scope x)(hd:(x==("__debug__":Str))=false:=by decide)(hcd:(x==("__classdict__":Str))=false:=by decide):DE X B (.Name x pos) (ac i):=by
 refine aZ (zT hN hv hd hcd) ?_
 rintro U H Q ⟨Y,M,QQ,s,h,u⟩
 unfold ac at h
 split at h
 .rename_i d e
  obtain⟨v,h1,h2⟩:=s.rs.get i d e;exact⟨v,h1,u d M h v H s.rh Frm.refl h2⟩
 .exact h.elim
theorem xq{e:Expr}{v:V}{d:D}(h:PE X e (tC v))(r:∀H,Rp X.K H d v):DE X B e (dC d):=by
 refine aZ h ?_
 rintro U H Q ⟨Y,M,QQ,s,h,u⟩
 exact u d M h v H s.rh Frm.refl (r H)
theorem GR{i j pos}:DE X B (.Constant (.int i) j pos) (dC<|.int i):=xq EN λ_=>rfl
theorem Jv{i j pos}:DE X B (.Constant (.bool i) j pos) (dC<|.bl i):=xq Ii λ_=>rfl
theorem EC{j pos}:DE X B (.Constant .none j pos) (dC .non):=xq EQ λ_=>rfl
theorem Fj{i j pos}:DE X B (.Constant (.str i) j pos) (dC<|.str i):=xq As λ_=>rfl
theorem nO{x:Str}{v:V}{d:D}{u:Value}{pos:Pos}(hg:Gl X x)(hm:X.mg x=some u)(r:RelV v u)(q:∀H,Rp X.K H d v)(hd:(x==("__debug__":Str))=false:=by decide):DE X B (.Name x pos) (dC d):=xq (Da hg hm r hd) q
abbrev dq:=D->D->Mem->DK->Prop
inductive liftR2(X:Cx)(r:dq)(x y:V)(H:Hp)(Q:VK):Prop
 |mk (d1 d2:D) (M:Mem) (QQ:DK) (rh:RepH X.K H M) (r1:Rp X.K H d1 x) (r2:Rp X.K H d2 y) (h:r d1 d2 M QQ) (u:Up X.K M H QQ Q):liftR2 X r x y H Q
def al(r:dq)(ta tb:bg):bg:=λY M Q=>ta Y M λx M1=>tb Y M1 λy M2=>r x y M2 Q
theorem jf{r:dq}{U:St}{H:Hp}{Q:VK}(h:liftE X B (al r ta tb) U H Q):Jc (liftR2 X r) (liftE X B ta) (liftE X B tb) U H Q:=by
 obtain⟨Y,M,QQ,s,h,u⟩:=h;refine⟨Y,M,_,s,h,λx M1 h1 v1 H1 rh1 i1 r1=>?_⟩;refine⟨Y,M1,_,s.go rh1 i1,h1,λy M2 h2 v2 H2 rh2 i2 r2=>?_⟩;exact⟨x,y,M2,QQ,rh2,r1.mf rh1 i2,r2,h2,u.go<|i1.trans i2⟩
theorem kN{op:Operator}{r:dq}(ho:ce X (binaryOp op) (liftR2 X r))(ha:DE X B a ta)(hb:DE X B b tb):DE X B (.BinOp a op b pos) (al r ta tb):=aZ (Ig ho ha hb) λ_ _ _ h=>jf h
theorem nN{op:CmpOp}{r:dq}(ho:ce X (compareOp op) (liftR2 X r))(ha:DE X B a ta)(hb:DE X B b tb)(hm:behindInMarks op b=false):DE X B (.Compare a [op] [b] pos) (al r ta tb):=aZ (CY ho ha hb hm) λ_ _ _ h=>jf h
theorem Eg{r:dq}(hr:IxR X (liftR2 X r))(ha:DE X B a ta)(hb:DE X B b tb)(hs:mH b):DE X B (.Subscript a b pos) (al r ta tb):=aZ (Ji hr ha hb hs) λ_ _ _ h=>jf h
def ao(t:bg):eG:=λY M Q=>t Y M λd M'=>match d with
 |.bl k=>Q k M'
 |_=>False
theorem dj{op:CmpOp}{r:dq}(ho:ce X (compareOp op) (liftR2 X r))(ha:DE X B a ta)(hb:DE X B b tb)(hm:behindInMarks op b=false):DT X B (.Compare a [op] [b] pos) (ao<|al r ta tb):=by
 refine iL (BY ho ha hb hm) ?_
 rintro U H Q ⟨Y,M,QQ,s,h,u⟩
 have h':liftE X B (al r ta tb) U H (λx H'=>∃k,x=.bl k/\Q k H'):=by
  refine⟨Y,M,_,s,h,λd M' q v H' rh i rp=>?_⟩;cases d with
  |bl k=>exact⟨k,rp,u k M' q H' rh i⟩
  |_=>exact(show False from q).elim
 exact jf h'
def yD(M:Mem):D->Option Bool
 |.non=>some false
 |.bl b=>some b
 |.int i=>some (i != 0)
 |.str y=>if y.length<=sizeLine then some ((y.length:Int) != 0) else none
 |.tup xs=>some (!xs.isEmpty)
 |.lst xs=>some (!xs.isEmpty)
 |.ref a=>match M a with
  |some (.lst xs)=>some (!xs.isEmpty)
  |some (.dK xs)=>some (!xs.isEmpty)
  |_=>none
 |_=>none
def bR(t:bg):eG:=λY M Q=>t Y M λd M'=>match yD M' d with
 |some k=>Q k M'
 |none=>False
theorem eO{K:JF}{H:Hp}{ds:List D}{vs:List V}(r:Rps K H ds vs):vs.isEmpty=ds.isEmpty:=by
 have:=r.length;cases ds<;>cases vs<;>simp_all
theorem Fi{K:JF}{H:Hp}{M:Mem}{d:D}{v:V}{k:Bool}(rh:RepH K H M)(r:Rp K H d v)(e:yD M d=some k):G5 K v H k:=by
 cases d with
 |non=>cases r;cases e;rfl
 |bl b=>cases r;cases e;rfl
 |int i=>cases r;cases e;rfl
 |str y=>
  cases r;simp only[yD]at e
  split at e
  .cases e;exact⟨by assumption,rfl⟩
  .cases e
 |ty n=>cases e
 |tup xs=>
  obtain⟨p,vs,rfl,t,r⟩:=r;cases e;exact .inr (.inl ⟨vs,t.sq,by rw[eO r]⟩)
 |mt xs=>cases e
 |ml xs=>cases e
 |lst xs=>
  obtain⟨p,vs,rfl,t,r⟩:=r;cases e;exact .inl ⟨vs,t.sq,by rw[eO r]⟩
 |ref a=>
  cases r;simp only[yD]at e
  split at e
  .rename_i xs q
   obtain⟨vs,h1,h2⟩:=rh _ _ q;cases e;exact .inl ⟨vs,SqL.of h1,by rw[eO h2]⟩
  .rename_i xs q
   obtain⟨vs,h1,h2⟩:=rh _ _ q;cases e;refine .inr (.inr ⟨vs,h1,?_⟩);cases h2<;>rfl
  .cases e
theorem GX{e:Expr}(h:DE X B e ta)(he:∀whole,isTrue e X.env whole=(do let v <- whole;standAt e.pos;holding [v] (truthy v)):=by intro _;rfl):DT X B e (bR ta):=by
 refine iL (yH h he) ?_
 rintro U H Q ⟨Y,M,QQ,s,h,u⟩
 refine⟨Y,M,_,s,h,λd M' q v H' rh i rp=>?_⟩
 split at q
 .rename_i k e
  exact⟨k,Fi rh rp e,u k M' q H' rh i⟩
 .exact q.elim
def di(t:eG):eG:=λY M Q=>t Y M λc M1=>Q (!c) M1
theorem G7{tA:eG}(ha:DT X B a tA):DT X B (.UnaryOp .Not a pos) (di tA):=by
 refine iL (FR ha) ?_
 rintro U H Q ⟨Y,M,QQ,s,h,u⟩
 exact⟨Y,M,_,s,h,λc M' q H' rh i=>u _ M' q H' rh i⟩
end
section
variable {X:Cx}{B:Bd}{a b c:Expr}{ta tb tc:bg}{tA tB':eG}{rest:List Expr}{pos:Pos}
def DW(X:Cx)(B:Bd)(e:Expr)(T:eG):Prop:=PW X e (liftT X B T)
theorem Jz{e:Expr}{T:eG}(h:DW X B e T):DT X B e T:=Jx h
theorem ue{X:Cx}{e:Expr}{t t':TT}(h:PW X e t)(w:∀U H Q,t' U H Q->t U H Q):PW X e t':=λwh pins s U H Q I q=>h wh pins s U H Q I (w U H Q q)
def h9(t u:eG):eG:=λY M Q=>t Y M λc M1=>if c=true then u Y M1 Q else Q false M1
def iT(t u:eG):eG:=λY M Q=>t Y M λc M1=>if c=true then Q true M1 else u Y M1 Q
theorem BW(ha:DT X B a tA):DW X B (.BoolOp .And [a] pos) tA:=Cw ha
theorem Gq(ha:DT X B a tA):DW X B (.BoolOp .Or [a] pos) tA:=F7 ha
theorem EM(ha:DT X B a tA)(hb:DW X B (.BoolOp .And (b::rest) pos) tB'):DW X B (.BoolOp .And (a::b::rest) pos) (h9 tA tB'):=by
 refine ue (GQ ha hb) ?_
 rintro U H Q ⟨Y,M,QQ,s,h,u⟩
 refine⟨Y,M,_,s,h,λc M' q H' rh i=>?_⟩;cases c with
 |true=>rw[if_pos rfl]at q ⊢;exact⟨Y,M',QQ,s.go rh i,q,u.go i⟩
 |false=>rw[if_neg JY]at q ⊢;exact u _ M' q H' rh i
theorem J8(ha:DT X B a tA)(hb:DW X B (.BoolOp .Or (b::rest) pos) tB'):DW X B (.BoolOp .Or (a::b::rest) pos) (iT tA tB'):=by
 refine ue (J4 ha hb) ?_
 rintro U H Q ⟨Y,M,QQ,s,h,u⟩
 refine⟨Y,M,_,s,h,λc M' q H' rh i=>?_⟩;cases c with
 |false=>rw[if_neg JY]at q ⊢;exact⟨Y,M',QQ,s.go rh i,q,u.go i⟩
 |true=>rw[if_pos rfl]at q ⊢;exact u _ M' q H' rh i
def eD(ta tb:bg):bg:=λY M Q=>ta Y M λx M1=>match x with
 |.bl true=>tb Y M1 Q
 |.bl false=>Q (.bl false) M1
 |_=>False
def Ea(ta:bg):bg:=λY M Q=>ta Y M λx M1=>match x with
 |.bl c=>Q (.bl<|!c) M1
 |_=>False
theorem Fm{op}{t:bg}(h:DE X B a t):DE X B (.BoolOp op [a] pos) t:=Gi h
theorem GW(ha:DE X B a ta)(hb:DE X B (.BoolOp .And (b::rest) pos) tb):DE X B (.BoolOp .And (a::b::rest) pos) (eD ta tb):=by
 refine aZ (Gf ha hb) ?_
 rintro U H Q ⟨Y,M,QQ,s,h,u⟩
 refine⟨Y,M,_,s,h,λd M' q v H' rh i r=>?_⟩;cases d with
 |bl c=>
  cases c with
  |true=>exact⟨true,r,by rw[if_pos rfl];exact⟨Y,M',QQ,s.go rh i,q,u.go i⟩⟩
  |false=>exact⟨false,r,by rw[if_neg JY];exact u _ M' q _ H' rh i rfl⟩
 |_=>exact(show False from q).elim
theorem EZ(ha:DE X B a ta):DE X B (.UnaryOp .Not a pos) (Ea ta):=by
 refine aZ (F0 ha) ?_
 rintro U H Q ⟨Y,M,QQ,s,h,u⟩
 refine⟨Y,M,_,s,h,λd M' q v H' rh i r=>?_⟩;cases d with
 |bl c=>exact⟨c,r,u _ M' q _ H' rh i rfl⟩
 |_=>exact(show False from q).elim
def zN(t:eG)(ta tb:bg):bg:=λY M Q=>t Y M λc M1=>if c=true then ta Y M1 Q else tb Y M1 Q
theorem zw{c:Expr}(hc:DT X B c tA)(ha:DE X B a ta)(hb:DE X B b tb):DE X B (.IfExp c a b pos) (zN tA ta tb):=by
 refine aZ (A3 hc ha hb) ?_
 rintro U H Q ⟨Y,M,QQ,s,h,u⟩
 refine⟨Y,M,_,s,h,λc M' q H' rh i=>?_⟩;cases c with
 |true=>rw[if_pos rfl]at q ⊢;exact⟨Y,M',QQ,s.go rh i,q,u.go i⟩
 |false=>rw[if_neg JY]at q ⊢;exact⟨Y,M',QQ,s.go rh i,q,u.go i⟩
def dg(r r':dq)(ta tb tc:bg):bg:=λY M Q=>ta Y M λx M1=>tb Y M1 λy M2=>r x y M2 λz M3=>match z with
 |.bl true=>tc Y M3 λw M4=>r' y w M4 Q
 |.bl false=>Q (.bl false) M3
 |_=>False
variable {e:Expr}{es:List Expr}{te:bg}{t:dZ}
def ae:dZ:=λ_ M Q=>Q [] M
def aa(ta:bg)(tr:dZ):dZ:=λY M Q=>ta Y M λx M1=>tr Y M1 λxs M2=>Q (x::xs) M2
theorem EY:DA X B [] ae:=by
 refine ve rn ?_
 rintro U H Q ⟨Y,M,QQ,s,h,u⟩
 exact u [] M h [] H s.rh Frm.refl .nil
theorem Bz(ha:DE X B e te)(hr:DA X B es t)(hs:starEach (e::es) X.env=(false,eval e X.env)::starEach es X.env:=by rfl):DA X B (e::es) (aa te t):=by
 refine ve (mV ha hr hs) ?_
 rintro U H Q ⟨Y,M,QQ,s,h,u⟩
 refine⟨Y,M,_,s,h,λx M1 h1 v1 H1 rh1 i1 r1=>?_⟩;refine⟨Y,M1,_,s.go rh1 i1,h1,λxs M2 h2 v2 H2 rh2 i2 r2=>?_⟩;exact u _ M2 h2 _ H2 rh2 (i1.trans i2) (.cons (r1.mf rh1 i2) r2)
def av(t:dZ):bg:=λY M Q=>t Y M λxs M1=>xs.length<=sizeLine/\Q (.tup xs) M1
def aX(t:dZ):bg:=λY M Q=>t Y M λxs M1=>xs.length<=sizeLine/\∀p,M1 p=none->Q (.ref p) (M1.upd p<|.lst xs)
theorem F3{x1}(h:DA X B es t):DE X B (.Tuple es x1 pos) (av t):=by
 refine aZ (FV h) ?_
 rintro U H Q ⟨Y,M,QQ,s,h,u⟩
 refine⟨Y,M,_,s,h,λxs M1 h1 v1 H1 rh1 i1 r1=>⟨by rw[<- r1.length];exact h1.1,λp hp=>?_⟩⟩
 exact u _ M1 h1.2 _ _ (rh1.new hp) (i1.trans<|Frm.new hp) ⟨p,v1,rfl,upd_same,r1.mono<|Imm.new hp⟩
theorem GE(h:DA X B es t):DE X B (.List es pos) (aX t):=by
 refine aZ (Ft h) ?_
 rintro U H Q ⟨Y,M,QQ,s,h,u⟩
 refine⟨Y,M,_,s,h,λxs M1 h1 v1 H1 rh1 i1 r1=>⟨by rw[<- r1.length];exact h1.1,λp hp=>?_⟩⟩
 exact u _ _ (h1.2 p<|rh1.fresh hp) _ _ (rh1.put (by rw[hp];trivial) ⟨v1,upd_same,r1.mono<|Imm.new hp⟩) (i1.trans<|Frm.put<|.inl hp) rfl
theorem Inv.freeze{pins:List (Addr×Obj)}{U:L2.St}{H:Hp}{s:Shared}{p:Addr}{vs:List V}(I:Inv X pins U H s)(h:H p=some (.lst vs)):∃o,Inv X pins U (upd H p<|.frz o<|.lst vs) s:=by
 obtain⟨its,n,r,e,z⟩:=I.lst h;have ne:∀{b:Addr} {u:Option HO},H b=u->u≠some (.lst vs)->b≠p:=λ{b u} q hu z=>by subst z;rw[h]at q;exact hu q.symm
 refine⟨{ cls:=.type "list",data:=.seq its.toArray n },I.ok,I.os,I.bare,⟨I.base.keep,I.base.slot,λb o q hn hx=>?_,I.base.there,λb xs q=>?_,λb o u q=>?_,λb ps q=>?_⟩,I.loc,I.cell,?_,λx c q=>?_,λpp hp=>?_,λb o q=>?_,I.len⟩
 .have q':=I.base.free b o q hn hx
  rw[az (ne q'<|by simp)];exact q'
 .have q':=I.base.tups b xs q
  rw[az (ne q'<|by simp)];exact q'
 .have q':=I.base.frzs b o u q
  rw[az (ne q'<|by simp)];exact q'
 .obtain⟨more,q'⟩:=I.base.tbls b ps q
  exact⟨more,by rw[az (ne q'<|by simp)];exact q'⟩
 .rw[az (ne I.free<|by simp)];exact I.free
 .have q':=I.freeC x c q
  rw[az (ne q'<|by simp)];exact q'
 .obtain⟨h1,h2,h3⟩:=I.pin pp hp
  exact⟨h1,by rw[az (ne h2<|by simp)];exact h2,h3⟩
 .by_cases hb:b=p
  .subst hb
   rw[upd_same]at q;cases q;refine⟨e,?_⟩;exact⟨z,its,n,r,e⟩
  .rw[az hb]at q
   refine (I.hok b o q).stay (λ_ _ _ y=>y) (λc y=>?_) λc xs y=>?_
   .rw[az (ne y<|by simp)];exact y
   .rw[az (ne y<|by simp)];exact y
def frz(d:D)(M:Mem)(Q:DK):Prop:=match d with
 |.ref a=>match M a with
  |some (.lst xs)=>Q (.lst xs) (M.del a)
  |_=>Q d M
 |_=>Q d M
def aj(t:bg):bg:=λY M Q=>t Y M λd M'=>frz d M' Q
theorem RepH.freeze{K:JF}{H:Hp}{M:Mem}{p:Addr}{vs:List V}{o:Obj}(r:RepH K H M)(h:H p=some (.lst vs)):RepH K (upd H p<|.frz o<|.lst vs) (M.del p):=λb u e=>by
 unfold Mem.del at e
 split at e
 .cases e
 .rename_i hb
  exact(r b u e).keep (Imm.upd<|by rw[h];trivial) (az hb)
theorem GH(h:DE X B e te):DE X B e (aj te):=by
 intro pins s U H Q I hq;obtain⟨Y,M,QQ,sr,hT,u⟩:=hq;refine bG (h pins s U H (λv H'=>∃d M',RepH X.K H' M'/\Frm M H M' H'/\Rp X.K H' d v/\frz d M' QQ) I ⟨Y,M,_,sr,hT,λd M' q v H' rh i r=>⟨d,M',rh,i,r,q⟩⟩) ?_
 rintro w s' ⟨v,H',I',rv,d,M',rh,i,r,q⟩
 unfold frz at q
 split at q
 .rename_i a
  split at q
  .rename_i xs e
   obtain⟨vs,h1,h2⟩:=rh _ _ e;obtain⟨o,I2⟩:=Inv.freeze I' h1;refine⟨v,_,I2,rv,u _ _ q v _ (rh.freeze h1) (i.trans<|Frm.del ⟨_,e⟩) ?_⟩;exact⟨a,vs,r,⟨o,upd_same⟩,h2.mono<|Imm.upd<|by rw[h1];trivial⟩
  .exact⟨v,H',I',rv,u _ _ q v H' rh i r⟩
 .exact⟨v,H',I',rv,u _ _ q v H' rh i r⟩
end
def cz(M:Mem):D->Option (List D)
 |.lst xs=>some xs
 |.ref a=>match M a with
  |some (.lst xs)=>some xs
  |_=>none
 |_=>none
def aH(M:Mem):D->Option (List D)
 |.tup xs=>some xs
 |.lst xs=>some xs
 |.mt xs=>some xs
 |.ml xs=>some xs
 |.ref a=>match M a with
  |some (.lst xs)=>some xs
  |_=>none
 |_=>none
section
variable {X:Cx}{B:Bd}{K:JF}{H:Hp}{M:Mem}{d:D}{v:V}{xs:List D}
theorem cO(rh:RepH K H M)(r:Rp K H d v)(e:cz M d=some xs):∃p vs,v=.ref p/\Rd H p (.lst vs)/\Rps K H xs vs:=by
 cases d with
 |lst ys=>
  cases e;obtain⟨p,vs,rfl,⟨o,h⟩,r⟩:=r;exact⟨p,vs,rfl,.inr ⟨o,h⟩,r⟩
 |ref a=>
  simp only[cz]at e
  split at e
  .rename_i ys q
   cases e;obtain⟨vs,h1,h2⟩:=rh _ _ q;exact⟨a,vs,r,.inl h1,h2⟩
  .cases e
 |_=>cases e
theorem gJ(rh:RepH K H M)(r:Rp K H d v)(e:aH M d=some xs):∃p vs,v=.ref p/\(SqL K H p vs\/gL K H p vs)/\Rps K H xs vs:=by
 cases d with
 |tup ys=>
  cases e;obtain⟨p,vs,rfl,h,r⟩:=r;exact⟨p,vs,rfl,.inr h.sq,r⟩
 |lst ys=>
  cases e;obtain⟨p,vs,rfl,h,r⟩:=r;exact⟨p,vs,rfl,.inl h.sq,r⟩
 |mt ys=>
  cases e;obtain⟨p,vs,rfl,h,r⟩:=r;exact⟨p,vs,rfl,.inr h.sq,r⟩
 |ml ys=>
  cases e;obtain⟨p,vs,rfl,h,r⟩:=r;exact⟨p,vs,rfl,.inl h.sq,r⟩
 |ref a=>
  simp only[aH]at e
  split at e
  .rename_i ys q
   cases e;obtain⟨vs,h1,h2⟩:=rh _ _ q;exact⟨a,vs,r,.inl (SqL.of h1),h2⟩
  .cases e
 |_=>cases e
theorem Ba:ce X (binaryOp .Add) (λx y H Q=>∃l b xs zs,x=.ref l/\y=.ref b/\Rd H l (.lst xs)/\Rd H b (.lst zs)/\xs.length+zs.length<=sizeLine/\∀p,H p=none->Q (.ref p) (upd H p<|.lst (xs++zs))):=by
 intro pins s U H x y v u Q I rx ry h;obtain⟨l,b,xs,zs,rfl,rfl,hH,hB,hz,q⟩:=h;cases rx;cases ry;obtain⟨z,its,n,r,e⟩:=hH.ok I.hok;obtain⟨z2,its2,n2,r2,e2⟩:=hB.ok I.hok;have hl:=r.length;have hl2:=r2.length;refine PySem.P.add_list e e2 ?_ (by rw[JI,JI];lia)
 have ea:its.toArray++its2.toArray=(its++its2).toArray:=by simp
 rw[ea];exact⟨.ref _,_,I.lnew (t':=s.toks) (r.append r2) (by rw[JD];lia),rfl,q _ I.fresh⟩
def aF:dq:=λx y M Q=>match x,y with
 |.int i,.int j=>Q (.int (i+j)) M
 |.str a,.str b=>a.length+b.length<=sizeLine/\Q (.str (a++b)) M
 |.tup xs,.tup ys=>xs.length+ys.length<=sizeLine/\Q (.tup (xs++ys)) M
 |x,y=>match cz M x,cz M y with
  |some xs,some ys=>xs.length+ys.length<=sizeLine/\∀p,M p=none->Q (.ref p) (M.upd p<|.lst (xs++ys))
  |_,_=>False
theorem AC:ce X (binaryOp .Add) (liftR2 X aF):=by
 intro pins s U H x y v u Q I rx ry h;obtain⟨d1,d2,M,QQ,rh,r1,r2,h,up⟩:=h;unfold aF at h
 split at h
 .cases r1;cases r2
  exact Gp pins s U H _ _ v u Q I rx ry ⟨_,_,rfl,rfl,up _ M h _ H rh Frm.refl rfl⟩
 .cases r1;cases r2
  exact sk pins s U H _ _ v u Q I rx ry ⟨_,_,rfl,rfl,h.1,up _ M h.2 _ H rh Frm.refl rfl⟩
 .obtain⟨p,vs,rfl,t1,r1⟩:=r1
  obtain⟨p',vs',rfl,t2,r2⟩:=r2;have l1:=r1.length;have l2:=r2.length;have r12:=r1.append r2
  by_cases hx:vs=[]
  .subst hx
   have hu:=up _ M h.2 (.ref p') H rh Frm.refl ⟨p',vs',rfl,t2,r12⟩;exact zU pins s U H _ _ v u Q I rx ry ⟨p,p',vs',rfl,rfl,t1.sq,t2.sq,hu⟩
  .refine CL pins s U H _ _ v u Q I rx ry ⟨p,p',vs,vs',rfl,rfl,t1.sq,t2.sq,hx,by lia,λe=>?_,λ_ q hq=>?_⟩
   .subst e
    rw[JR]at r12;exact up _ M h.2 (.ref p) H rh Frm.refl ⟨p,vs,rfl,t1,r12⟩
   .exact up _ M h.2 _ _ (rh.new hq) (Frm.new hq) ⟨q,_,rfl,upd_same,r12.mono<|Imm.new hq⟩
 .split at h
  .rename_i xs ys e1 e2
   obtain⟨p,vs,rfl,t1,r1⟩:=cO rh r1 e1;obtain⟨p',vs',rfl,t2,r2⟩:=cO rh r2 e2;have l1:=r1.length;have l2:=r2.length;refine Ba pins s U H _ _ v u Q I rx ry ⟨p,p',vs,vs',rfl,rfl,t1,t2,by lia,λq hq=>?_⟩
   exact up _ _ (h.2 q<|rh.fresh hq) _ _ (rh.put (by rw[hq];trivial) ⟨_,upd_same,(r1.append r2).mono<|Imm.new hq⟩) (Frm.put<|.inl hq) rfl
  .exact h.elim
def oI(C:Int->Int->Prop)(g:Int->Int->D):dq:=λx y M Q=>match x,y with
 |.int i,.int j=>C i j/\Q (g i j) M
 |_,_=>False
theorem GS{f:Value->Value->Sem Value}{C:Int->Int->Prop}{g:Int->Int->V}{g':Int->Int->D}(h:ce X f (rI C g))(e:∀i j K H,Rp K H (g' i j) (g i j)):ce X f (liftR2 X<|oI C g'):=by
 intro pins s U H x y v u Q I rx ry hq;obtain⟨d1,d2,M,QQ,rh,r1,r2,hq,up⟩:=hq;unfold oI at hq
 split at hq
 .cases r1;cases r2
  exact h pins s U H _ _ v u Q I rx ry ⟨_,_,rfl,rfl,hq.1,up _ M hq.2 _ H rh Frm.refl<|e _ _ _ _⟩
 .exact hq.elim
def vw(g:Int->Int->D):dq:=λx y M Q=>match x,y with
 |.int i,.int j=>Q (g i j) M
 |_,_=>False
theorem oZ{f:Value->Value->Sem Value}{g:Int->Int->V}{g':Int->Int->D}(h:ce X f (Ck g))(e:∀i j K H,Rp K H (g' i j) (g i j)):ce X f (liftR2 X<|vw g'):=by
 intro pins s U H x y v u Q I rx ry hq;obtain⟨d1,d2,M,QQ,rh,r1,r2,hq,up⟩:=hq;unfold vw at hq
 split at hq
 .cases r1;cases r2
  exact h pins s U H _ _ v u Q I rx ry ⟨_,_,rfl,rfl,up _ M hq _ H rh Frm.refl<|e _ _ _ _⟩
 .exact hq.elim
abbrev gP:dq:=vw λi j=>.int (i-j)
theorem B0:ce X (binaryOp .Sub) (liftR2 X gP):=oZ Gv λ_ _ _ _=>rfl
abbrev iD:dq:=oI (λ_ j=>0<j) λi j=>.int (i % j)
theorem Bi:ce X (binaryOp .Mod) (liftR2 X iD):=GS EI λ_ _ _ _=>rfl
def Eb(_ j:Int):Prop:=0<j/\j<2 ^ 200
theorem Ak:ce X (binaryOp .FloorDiv) (rI Eb λi j=>.int (i / j)):=by
 intro pins s U H x y v u Q I rx ry h;obtain⟨i,j,rfl,rfl,hc,q⟩:=h;obtain⟨h0,h1⟩:=hc;have hj:((j.toNat:Nat):Int)=j:=by lia
 refine Ae (n:=j.toNat) ?_ (by lia) pins s U H _ _ v u Q I rx ry ⟨i,j,rfl,rfl,hj.symm,q⟩
 have hlt:j.toNat<2 ^ 200:=by
  have:((j.toNat:Nat):Int)<((2 ^ 200:Nat):Int):=by rw[hj,Int.natCast_pow];exact h1
  exact Int.ofNat_lt.mp this
 have:=(Nat.log2_lt (n:=j.toNat) (k:=200)<|by lia).mpr hlt
 lia
abbrev lL:dq:=oI Eb λi j=>.int (i / j)
theorem yC:ce X (binaryOp .FloorDiv) (liftR2 X lL):=GS Ak λ_ _ _ _=>rfl
abbrev Fx:dq:=oI Ju λi j=>.int (i ^ j.toNat)
theorem AK:ce X (binaryOp .Pow) (liftR2 X Fx):=GS G2 λ_ _ _ _=>rfl
abbrev HN:dq:=vw λi j=>.int (Builtin.bitXor i j)
theorem B4:ce X (binaryOp .BitXor) (liftR2 X HN):=oZ Fc λ_ _ _ _=>rfl
abbrev DC:dq:=vw λi j=>.bl (decide (i<j))
theorem Fa:ce X (compareOp .Lt) (liftR2 X DC):=oZ HI λ_ _ _ _=>rfl
abbrev Al:dq:=vw λi j=>.bl (decide (i<=j))
theorem kM:ce X (compareOp .LtE) (liftR2 X Al):=oZ IA λ_ _ _ _=>rfl
abbrev zV:dq:=vw λi j=>.bl (decide (j<i))
theorem G9:ce X (compareOp .Gt) (liftR2 X zV):=oZ HC λ_ _ _ _=>rfl
theorem An{c:Nat}:∀(k:Nat) (acc:Array Nat),(JN k #[c]).foldl (·++·) acc=acc++LH k c
 |0,acc=>by simp
 |k+1,acc=>by
  rw[Kg,Lf,An k (acc++#[c])];apply Array.ext';simp[Kg]
theorem y8:ce X (binaryOp .Mult) (λx y H Q=>∃c k,x=.str ⟨#[c]⟩/\y=.int k/\1<=k/\k<=1000/\Q (.str ⟨LH k.toNat c⟩) H):=by
 intro pins s U H x y v u Q I rx ry h;obtain⟨c,k,rfl,rfl,h1,h2,q⟩:=h;obtain⟨t,rfl⟩:=rx;obtain⟨t',rfl⟩:=ry;have hlen:(⟨#[c]⟩:Str).length=1:=rfl;have hsl:sizeLine=16777216:=rfl;refine PySem.P.mul_str ?_ ?_ ?_ ?_
 .rw[decide_eq_false (by lia),decide_eq_false (by lia)];rfl
 .intro _ _ hc
  rw[hlen]at hc;have:(1:Int)<=(2 ^ 63-1) / k:=Int.le_ediv_of_mul_le (by lia) (by lia)
  lia
 .intro _ _
  rw[hlen];unfold PySem.Builtin.Str.tooLong;exact decide_eq_false (by lia)
 .rw[if_neg (by lia)]
  by_cases hk:k=1
  .rw[if_pos (by rw[hk];rfl)]
   subst hk;exact⟨.str ⟨#[c]⟩,H,I,⟨_,rfl⟩,q⟩
  .rw[if_neg (by simp[hlen,hk])]
   have he:(JN k.toNat #[c]).foldl (·++·) #[]=LH k.toNat c:=by rw[An];simp
   refine⟨?_,.str ⟨(JN k.toNat #[c]).foldl (·++·) #[]⟩,H,I.tok _,⟨_,rfl⟩,by rw[he];exact q⟩
   show ((JN k.toNat #[c]).foldl (·++·) #[]).size<=sizeLine;rw[he];simp;lia
def gT:dq:=λx y M Q=>match x,y with
 |.int i,.int j=>CMul i j/\Q (.int (i*j)) M
 |.str z,.int k=>match z.cps.toList with
  |[c]=>1<=k/\k<=1000/\Q (.str ⟨LH k.toNat c⟩) M
  |_=>False
 |.tup xs,.int k=>xs≠[]/\0<=k/\k<=1000/\xs.length<=1000/\Q (.tup (JN k.toNat xs).flatten) M
 |_,_=>False
theorem Rps.rep{ds:List D}{vs:List V}(h:Rps K H ds vs):∀k:Nat,Rps K H (JN k ds).flatten (JN k vs).flatten
 |0=>rfl
 |k+1=>by
  rw[Kg,Kg,LQ,LQ];exact h.append (Rps.rep h k)
theorem Cu:ce X (binaryOp .Mult) (liftR2 X gT):=by
 intro pins s U H x y v u Q I rx ry h;obtain⟨d1,d2,M,QQ,rh,r1,r2,h,up⟩:=h;cases d1 with
 |int i=>
  cases d2 with
  |int j=>
   cases r1;cases r2;exact ER pins s U H _ _ v u Q I rx ry ⟨_,_,rfl,rfl,h.1,up _ M h.2 _ H rh Frm.refl rfl⟩
  |_=>exact(show False from h).elim
 |str z=>
  cases d2 with
  |int k=>
   cases r1;cases r2;simp only[gT]at h
   split at h
   .rename_i c e
    have ez:z=⟨#[c]⟩:=by
     obtain⟨⟨l⟩⟩:=z;have e':l=[c]:=e;rw[e']
    subst ez;exact y8 pins s U H _ _ v u Q I rx ry ⟨_,_,rfl,rfl,h.1,h.2.1,up _ M h.2.2 _ H rh Frm.refl rfl⟩
   .exact h.elim
  |_=>exact(show False from h).elim
 |tup xs=>
  cases d2 with
  |int k=>
   obtain⟨p,vs,rfl,t1,r1⟩:=r1;cases r2;obtain⟨h1,h2,h3,h4,h5⟩:=h;have l1:=r1.length;obtain⟨t,rfl⟩:=ry;cases rx;obtain⟨its,r,pt,_⟩:=I.tuple t1.sq;have hl:=r.length;refine wV pt (λz=>h1 ?_) h2 h3 (by lia) (λe=>?_) λe=>?_
   .have hz:its.length=0:=congrArg Km z
    exact Ms (by lia)
   .subst e
    refine⟨.ref p,H,I,rfl,up _ M h5 _ H rh Frm.refl ⟨p,vs,rfl,t1,?_⟩⟩;simpa using r1
   .have hf:H s.heap.objs.size=none:=I.hok.fresh (JE _)
    have hz:(JN k.toNat vs).flatten.length<=sizeLine:=by
     rw[Bo];have h1:k.toNat*vs.length<=1000*1000:=Nat.mul_le_mul (by lia) (by lia)
     exact Ki h1 (by decide)
    have i2:Imm H (upd H s.heap.objs.size<|.tup (JN k.toNat vs).flatten):=Imm.new hf;exact⟨.ref s.heap.objs.size,_,I.laid (t':=s.toks) (o:=.tup (JN k.toNat vs).flatten) (λb ob z=>JB _ z) (JE _) ⟨hz,_,r.rep k.toNat,⟨_,JH _ rfl,⟨rfl,_,rfl⟩,rfl⟩⟩,rfl,
     up _ M h5 _ _ (rh.new hf) (Frm.new hf) ⟨_,_,rfl,upd_same,(r1.rep _).mono i2⟩⟩
  |_=>exact(show False from h).elim
 |_=>exact(show False from h).elim
def t6:D->Bool
 |.non=>true
 |_=>false
def BR:dq:=λx y M Q=>match y with
 |.non=>Q (.bl<|t6 x) M
 |_=>False
def vF:dq:=λx y M Q=>match y with
 |.non=>Q (.bl<|!t6 x) M
 |_=>False
theorem A9(r:Rp K H d v):decide (v=V.non)=t6 d:=by
 cases d with
 |non=>cases r;rfl
 |tup xs=>obtain⟨p,vs,rfl,_⟩:=r;rfl
 |lst xs=>obtain⟨p,vs,rfl,_⟩:=r;rfl
 |mt xs=>obtain⟨p,vs,rfl,_⟩:=r;rfl
 |ml xs=>obtain⟨p,vs,rfl,_⟩:=r;rfl
 |_=>cases r;rfl
theorem wo:ce X (compareOp .Is) (liftR2 X BR):=by
 intro pins s U H x y v u Q I rx ry h;obtain⟨d1,d2,M,QQ,rh,r1,r2,h,up⟩:=h;unfold BR at h
 split at h
 .cases r2
  exact FU pins s U H _ _ v u Q I rx ry ⟨rfl,by rw[A9 r1];exact up _ M h _ H rh Frm.refl rfl⟩
 .exact h.elim
theorem zC:ce X (compareOp .IsNot) (liftR2 X vF):=by
 intro pins s U H x y v u Q I rx ry h;obtain⟨d1,d2,M,QQ,rh,r1,r2,h,up⟩:=h;unfold vF at h
 split at h
 .cases r2
  refine CS pins s U H _ _ v u Q I rx ry ⟨rfl,up _ M h _ H rh Frm.refl ?_⟩;show _=V.bl _;rw[A9 r1]
 .exact h.elim
end
section
variable {κ:Type}[DecidableEq κ]
def mW(kvs:List (κ×D))(k:κ):Option D:=(kvs.find? λkv=>decide (kv.1=k)).map (·.2)
def lm(kvs:List (κ×D))(k:κ)(v:D):List (κ×D):=
 if (kvs.any λkv=>decide (kv.1=k))=true then kvs.map (λkv=>if kv.1=k then (kv.1,v) else kv) else kvs++[(k,v)]
variable {K:JF}{H:Hp}
theorem Rkv.val{kvs:List (κ×D)}{ws:List (κ×V)}(h:Rkv K H kvs ws)(k:κ):(mW kvs k=none/\fu ws k=none)\/∃d v,mW kvs k=some d/\fu ws k=some v/\Rp K H d v:=by
 induction h with
 |nil=>exact .inl ⟨rfl,rfl⟩
 |@cons p q ps qs r t ih=>
  obtain⟨k1,d⟩:=p;obtain⟨k2,v⟩:=q;obtain⟨e,r⟩:=r;dsimp only at e r;subst e
  by_cases hk:k1=k
  .exact .inr ⟨d,v,by simp[mW,hk],by simp[fu,hk],r⟩
  .simpa [mW,fu,hk] using ih
theorem Rkv.any{kvs:List (κ×D)}{ws:List (κ×V)}(h:Rkv K H kvs ws)(k:κ):(kvs.any λkv=>decide (kv.1=k))=(ws.any λkv=>decide (kv.1=k)):=by
 induction h with
 |nil=>rfl
 |cons r t ih=>rw[Ls,Ls,ih,r.1]
theorem Rkv.put{kvs:List (κ×D)}{ws:List (κ×V)}(h:Rkv K H kvs ws)(k:κ){d:D}{v:V}(r:Rp K H d v):Rkv K H (lm kvs k d) (dy ws k v):=by
 unfold lm dy;rw[h.any k]
 split
 .rename_i q;clear q
  induction h with
  |nil=>exact .nil
  |@cons p q ps qs rr t ih=>
   obtain⟨k1,d'⟩:=p;obtain⟨k2,v'⟩:=q;obtain⟨e,r'⟩:=rr;dsimp only at e r';subst e;rw[JO,JO];refine .cons ?_ ih
   by_cases hk:k1=k
   .rw[if_pos hk,if_pos hk];exact⟨rfl,r⟩
   .rw[if_neg hk,if_neg hk];exact⟨rfl,r'⟩
 .rename_i q;clear q
  induction h with
  |nil=>exact .cons ⟨rfl,r⟩ .nil
  |cons rr t ih=>exact .cons rr ih
theorem Rkv.length{kvs:List (κ×D)}{ws:List (κ×V)}(h:Rkv K H kvs ws):kvs.length=ws.length:=LF h
end
def pA:D->Option bw
 |.int i=>some (.inl i)
 |.str x=>some (.inr x)
 |_=>none
def hZ:List D->Option (List bw)
 |[]=>some []
 |d::ds=>match pA d,hZ ds with
  |some k,some ks=>some (k::ks)
  |_,_=>none
def At:D->Option (List bw)
 |.tup xs=>hZ xs
 |_=>none
section
variable {X:Cx}{K:JF}{H:Hp}{M:Mem}
theorem nv{d:D}{v:V}{k:bw}(r:Rp K H d v)(e:pA d=some k):v=kV k:=by
 cases d with
 |int i=>cases e;exact r
 |str x=>cases e;exact r
 |_=>cases e
theorem pw:∀{ds:List D} {vs:List V} {ks:List bw},Rps K H ds vs->hZ ds=some ks->vs=ks.map kV
 |[],vs,ks,r,e=>by cases e;exact r
 |d::ds,vs,ks,r,e=>by
  obtain⟨v,r',rfl,a,b⟩:=r;simp only[hZ]at e
  split at e
  .rename_i k ks' e1 e2
   cases e;rw[nv a e1,pw b e2];rfl
  .cases e
def xu(M:Mem)(a:Addr)(y:D):Option (Option D):=match M a with
 |some (.dK kvs)=>match pA y with
  |some k=>some (mW kvs k)
  |none=>none
 |some (.dT kvs)=>match At y with
  |some k=>some (mW kvs k)
  |none=>none
 |_=>none
theorem kE{d:D}{v:V}{ks:List bw}(r:Rp K H d v)(e:At d=some ks):∃b,v=.ref b/\H b=some (.tup<|ks.map kV):=by
 cases d with
 |tup xs=>
  obtain⟨p,vs,rfl,t,r⟩:=r;exact⟨p,rfl,by rw[<- pw r e];exact t⟩
 |_=>cases e
theorem m_{a:Addr}{y:D}{v:V}{o:Option D}(rh:RepH K H M)(r:Rp K H y v)(e:xu M a y=some o):
  (o=none/\DGet H a v none)\/∃d w,o=some d/\DGet H a v (some w)/\Rp K H d w:=by
 unfold xu at e
 split at e
 .rename_i kvs hM
  obtain⟨ws,h1,h2⟩:=rh _ _ hM
  split at e
  .rename_i k ek
   cases e;have ev:=nv r ek;subst ev;rcases h2.val k with⟨e1,e2⟩|⟨d,w,e1,e2,r'⟩
   .exact .inl ⟨e1,by rw[<- e2];exact DGet.k h1⟩
   .exact .inr ⟨d,w,e1,by rw[<- e2];exact DGet.k h1,r'⟩
  .cases e
 .rename_i kvs hM
  obtain⟨ws,h1,h2⟩:=rh _ _ hM
  split at e
  .rename_i k ek
   cases e;obtain⟨b,rfl,hb⟩:=kE r ek;rcases h2.val k with⟨e1,e2⟩|⟨d,w,e1,e2,r'⟩
   .exact .inl ⟨e1,by rw[<- e2];exact DGet.t h1 hb⟩
   .exact .inr ⟨d,w,e1,by rw[<- e2];exact DGet.t h1 hb,r'⟩
  .cases e
 .cases e
end
end L3
namespace HT
open PySem PyProof.Rows
section
variable {prog:Program}{w:World}{A:Around}{E:Value->Shared->Prop}{s:Shared}
theorem fB{t sl:Addr}{items:Array Value}{vl vu:Value}{lo hi:Option Int}{Q:Value->Shared->Prop}(ht:IsTup s.heap t items)(hs:s.heap.IsSliceOf sl vl vu .none)(pl:IsPart vl lo)(pu:IsPart vu hi)
  (hw:sIx items.size 0 lo=0/\sIx items.size items.size hi=items.size) (h:Q (.ref t) s):wpAny (model prog w) A (getItem (.ref t)<|.ref sl) Q E s:=by
 obtain⟨os,hos,hcs,hds⟩:=id hs;have hTs:s.TypeIs (.ref sl) "slice":=⟨os,hos,hcs⟩;unfold getItem
 try with_reducible refine wpAny_holding ?_
 first|refine wpAny_bind (wpAny_pure ?_)|skip
 refine wpAny_bind (wpAny_sequenceKey ht.typeIs (by decide) ?_)
 refine wpAny_bind (wpAny_callSpecial?_slot (name:=JL "__getitem__") ht.typeIs KA
  (wpAny_call_entry KA ht.typeIs entry_tuple_getitem ?_<|args_tuple_getitem _ _))
 show wpAny _ _ (Ny (.ref t) >>= _) _ _ s;refine wpAny_bind (tupleItemsOf_ ht ?_);refine wpAny_bind (wpAny_typeOf hTs ?_);rw[if_pos (by decide)]
 refine wpAny_bind (dz hs pl pu ?_);have hyes:((((sIx items.size 0 lo:Nat):Int)==0&&(1:Int)==1&&(sIx items.size items.size hi-sIx items.size 0 lo)==items.size)=true):=by
  rw[hw.1,hw.2];simp
 show wpAny _ _ (if (((sIx items.size 0 lo:Nat):Int)==0&&(1:Int)==1&&(sIx items.size items.size hi-sIx items.size 0 lo)==items.size)=true then _ else _) _ _ s
 rw[if_pos hyes];refine wpAny_bind (m:=Builtin.Tuple.tupleIsExact _) (wpAny_bind<|wpAny_typeOf ht.typeIs<|wpAny_pure ?_);rw[if_pos (by decide)]
 first
  |exact wpAny_bind (wpAny_rule<|wpAny_bind<|wpAny_pure<|wpAny_pure ⟨_,rfl,wpAny_pure h⟩)
  |exact wpAny_bind (wpAny_rule<|wpAny_pure ⟨_,rfl,wpAny_pure h⟩)
  |exact wpAny_bind (wpAny_rule<|wpAny_bind<|wpAny_pure ⟨_,rfl,wpAny_pure h⟩)
  |trace_state
end
end HT
namespace L3
open PySem L2
section
variable {X:Cx}{B:Bd}{K:JF}{H:Hp}{M:Mem}{a b c:Expr}{ta tb tc:bg}{pos:Pos}
def aD:dq:=λx y M Q=>match aH M x,y with
 |some xs,.int i=>match atI xs i with
  |some d=>Q d M
  |none=>False
 |some _,_=>False
 |none,y=>match x,y with
  |.str z,.int i=>z.length<=sizeLine/\match atI z.cps.toList i with
   |some c=>Q (.str ⟨#[c]⟩) M
   |none=>False
  |.ref a,y=>match xu M a y with
   |some (some d)=>Q d M
   |_=>False
  |_,_=>False
theorem Rps.atI{ds:List D}{vs:List V}{i:Int}{d:D}(r:Rps K H ds vs)(e:atI ds i=some d):∃v,L2.atI vs i=some v/\Rp K H d v:=by
 unfold L2.atI at e ⊢;rw[<- r.length];cases q:uY ds.length i with
 |none=>rw[q]at e;cases e
 |some j=>
  rw[q]at e;exact r.get (i:=j) e
theorem Bm(hu:X.A.units+1<cLine):IxR X (λx y H Q=>∃a v,x=.ref a/\DGet H a y (some v)/\Q v H):=by
 intro value slice pins s U H x y v u Q I rx ry h hs;obtain⟨a,w,rfl,g,q⟩:=h;cases rx;exact NY (pB I g) N3.lookup (xP hu I g ry λw' s3 I3 rw'=>⟨w,H,I3,rw',q⟩) hs
theorem EB(hu:X.A.units+1<cLine):IxR X (liftR2 X aD):=by
 intro value slice pins s U H x y v u Q I rx ry h hs;obtain⟨d1,d2,M,QQ,rh,r1,r2,h,up⟩:=h;unfold aD at h
 split at h
 .rename_i xs i e
  split at h
  .rename_i d ed
   cases r2;obtain⟨p,vs,rfl,hq,r⟩:=gJ rh r1 e;obtain⟨w,ew,rw'⟩:=r.atI ed;refine Hd value slice pins s U H _ _ v u Q I rx ry ?_ hs;have hu':=up _ M h _ H rh Frm.refl rw';rcases hq with hq|hq
   .exact .inl ⟨p,vs,i,w,rfl,rfl,hq,ew,hu'⟩
   .exact .inr (.inl ⟨p,vs,i,w,rfl,rfl,hq,ew,hu'⟩)
  .exact h.elim
 .exact h.elim
 .split at h
  .obtain⟨hz,h⟩:=h
   split at h
   .rename_i ch ec
    cases r1;cases r2;exact yP value slice pins s U H _ _ v u Q I rx ry ⟨_,_,ch,rfl,rfl,hz,ec,up _ M h _ H rh Frm.refl rfl⟩ hs
   .exact h.elim
  .split at h
   .rename_i d ed
    cases r1;rcases m_ rh r2 ed with⟨z,_⟩|⟨d',w,z,g,rw'⟩
    .cases z
    .cases z
     exact Bm hu value slice pins s U H _ _ v u Q I rx ry ⟨_,w,rfl,g,up _ M h _ H rh Frm.refl rw'⟩ hs
   .exact h.elim
  .exact h.elim
abbrev DU:=Dl->Mem->(Option Int->Mem->Prop)->Prop
inductive liftO(X:Cx)(B:Bd)(T:DU)(U:St)(H:Hp)(Q:Option Int->Hp->Prop):Prop
 |mk (Y:Dl) (M:Mem) (QQ:Option Int->Mem->Prop) (s:SR X B Y M U H) (h:T Y M QQ) (u:∀o M',QQ o M'->∀H',RepH X.K H' M'->Frm M H M' H'->Q o H'):liftO X B T U H Q
def DO(X:Cx)(B:Bd)(e:Option Expr)(T:DU):Prop:=PO X e (liftO X B T)
theorem vI{X:Cx}{e:Option Expr}{t t':TO}(h:PO X e t)(w:∀U H Q,t' U H Q->t U H Q):PO X e t':=λpins s U H Q I q=>h pins s U H Q I (w U H Q q)
def aB:DU:=λ_ M Q=>Q none M
def ba(t:bg):DU:=λY M Q=>t Y M λx M1=>match x with
 |.int i=>Q (some i) M1
 |_=>False
theorem CW:DO X B none aB:=vI AJ λU H Q ⟨Y,M,QQ,s,h,u⟩=>u none M h H s.rh Frm.refl
theorem Cn{e:Expr}{te:bg}(h:DE X B e te):DO X B (some e) (ba te):=by
 refine vI (BG h) ?_
 rintro U H Q ⟨Y,M,QQ,s,h,u⟩
 refine⟨Y,M,_,s,h,λd M' q v H' rh i r=>?_⟩;cases d with
 |int j=>exact⟨j,r,u _ M' q H' rh i⟩
 |_=>exact(show False from q).elim
def df(xs:List D)(lo hi:Option Int):List D:=(xs.drop<|HT.sIx xs.length 0 lo).take (HT.sIx xs.length xs.length hi-HT.sIx xs.length 0 lo)
theorem Rps.cut{ds:List D}{vs:List V}(r:Rps K H ds vs)(lo hi:Option Int):Rps K H (df ds lo hi) (iw vs lo hi):=by
 unfold df iw;rw[<- r.length];exact(r.drop _).take _
def sD(x:D)(lo hi:Option Int)(M:Mem)(Q:DK):Prop:=match x with
 |.tup xs=>Q (.tup<|df xs lo hi) M
 |.ml xs=>∀p,M p=none->Q (.ref p) (M.upd p<|.lst<|df xs lo hi)
 |x=>match cz M x with
  |some xs=>∀p,M p=none->Q (.ref p) (M.upd p<|.lst<|df xs lo hi)
  |none=>False
inductive liftSl(X:Cx)(x:V)(lo hi:Option Int)(H:Hp)(Q:VK):Prop
 |mk (d:D) (M:Mem) (QQ:DK) (rh:RepH X.K H M) (r:Rp X.K H d x) (h:sD d lo hi M QQ) (u:Up X.K M H QQ Q):liftSl X x lo hi H Q
theorem sw{vs:List V}{lo hi:Option Int}(h:HT.sIx vs.length 0 lo=0/\HT.sIx vs.length vs.length hi=vs.length):iw vs lo hi=vs:=by
 unfold iw;rw[h.1,h.2];simp
theorem BO:Ib X (λx lo hi H Q=>∃a xs,x=.ref a/\gL X.K H a xs/\(iw xs lo hi=xs->Q (.ref a) H)/\∀p,H p=none->Q (.ref p) (upd H p<|.tup<|iw xs lo hi)):=by
 intro pins s U H x v vl vu lo hi sl Q I rx hs pl pu h;obtain⟨a,xs,rfl,hx,q0,q⟩:=h
 by_cases hw:HT.sIx xs.length 0 lo=0/\HT.sIx xs.length xs.length hi=xs.length
 .cases rx
  obtain⟨its,r,ht,hz⟩:=I.tuple hx;have hlen:its.toArray.size=xs.length:=by rw[JI];exact r.length.symm
  refine⟨"tuple",_,KA.lookup,ht.typeIs,?_⟩;exact HT.fB ht hs pl pu (by rw[hlen];exact hw) ⟨.ref a,H,I,rfl,q0<|sw hw⟩
 .exact Hb pins s U H _ v vl vu lo hi sl Q I rx hs pl pu ⟨a,xs,rfl,hx,hw,q⟩
end
section
variable {X:Cx}{B:Bd}{K:JF}{H:Hp}{M:Mem}{e:Expr}{es:List Expr}{te:bg}{lo hi:Option Expr}{tl th:DU}{pos p2 p:Pos}{t:dZ}
theorem F8:Ib X (liftSl X):=by
 intro pins s U H x v vl vu lo hi sl Q I rx hs pl pu h;obtain⟨d,M,QQ,rh,r,h,up⟩:=h;unfold sD at h
 split at h
 .obtain⟨a,vs,rfl,ht,r⟩:=r
  refine BO pins s U H _ v vl vu lo hi sl Q I rx hs pl pu ⟨a,vs,rfl,ht.sq,λe=>?_,λp hp=>?_⟩
  .exact up _ M h _ H rh Frm.refl ⟨a,vs,rfl,ht,by rw[<- e];exact r.cut lo hi⟩
  .exact up _ M h _ _ (rh.new hp) (Frm.new hp) ⟨p,_,rfl,upd_same,(r.cut lo hi).mono<|Imm.new hp⟩
 .obtain⟨a,vs,rfl,hq,r⟩:=r
  refine sV pins s U H _ v vl vu lo hi sl Q I rx hs pl pu ⟨a,vs,rfl,hq.sq,λp hp=>?_⟩;exact up _ _ (h p<|rh.fresh hp) _ _ (rh.put (by rw[hp];trivial) ⟨_,upd_same,(r.cut lo hi).mono<|Imm.new hp⟩) (Frm.put<|.inl hp) rfl
 .split at h
  .rename_i xs e
   obtain⟨a,vs,rfl,hq,r⟩:=cO rh r e;refine sV pins s U H _ v vl vu lo hi sl Q I rx hs pl pu ⟨a,vs,rfl,.inl hq,λp hp=>?_⟩;exact up _ _ (h p<|rh.fresh hp) _ _ (rh.put (by rw[hp];trivial) ⟨_,upd_same,(r.cut lo hi).mono<|Imm.new hp⟩) (Frm.put<|.inl hp) rfl
  .exact h.elim
def d_(te:bg)(tl th:DU):bg:=λY M Q=>te Y M λx M1=>tl Y M1 λl M2=>th Y M2 λu M3=>sD x l u M3 Q
theorem yt(he:DE X B e te)(hl:DO X B lo tl)(hu:DO X B hi th):DE X B (.Subscript e (.Slice lo hi none p2) pos) (d_ te tl th):=by
 refine aZ (zB F8 he hl hu) ?_
 rintro U H Q ⟨Y,M,QQ,s,h,u⟩
 refine⟨Y,M,_,s,h,λx M1 h1 v1 H1 rh1 i1 r1=>?_⟩;refine⟨Y,M1,_,s.go rh1 i1,h1,λl M2 h2 H2 rh2 i2=>?_⟩;refine⟨Y,M2,_,s.go rh2 (i1.trans i2),h2,λw M3 h3 H3 rh3 i3=>?_⟩;exact⟨x,M3,QQ,rh3,r1.mf rh1 (i2.trans i3),h3,u.go<|(i1.trans i2).trans i3⟩
abbrev nW:=List D->Mem->DK->Prop
inductive liftC(X:Cx)(r:nW)(xs:List V)(H:Hp)(Q:VK):Prop
 |mk (ds:List D) (M:Mem) (QQ:DK) (rh:RepH X.K H M) (rp:Rps X.K H ds xs) (h:r ds M QQ) (u:Up X.K M H QQ Q):liftC X r xs H Q
def br(r:nW)(t:dZ):bg:=λY M Q=>t Y M λvs M1=>r vs M1 Q
theorem uN{r:nW}{U:L2.St}{H:Hp}{Q:VK}(h:liftE X B (br r t) U H Q):tCB (liftC X r) (liftA X B t) U H Q:=by
 obtain⟨Y,M,QQ,s,h,u⟩:=h;refine⟨Y,M,_,s,h,λds M1 h1 vs H1 rh1 i1 r1=>?_⟩;exact⟨ds,M1,QQ,rh1,r1,h1,u.go i1⟩
theorem yd{x:Str}{id:String}{r:nW}(hc:bz X (.builtin id) (liftC X r))(hg:Gl X x)(hm:X.mg x=none)(hv:bootBuiltins x=some (.builtin id))(ha:DA X B (e::es) t)(hn:x≠"__name__":=by decide)(hdb:(x==("__debug__":Str))=false:=by decide)
  (he:starEach (e::es) X.env=(false,eval e X.env)::starEach es X.env:=by rfl) (hpl:(backTo pos<|starEach es X.env).any (·.1)=false:=by rfl):DE X B (.Call (.Name x p) (e::es) [] pos) (br r t):=
 aZ (oF hc hg hm hv ha hn hdb he hpl) λ_ _ _ h=>uN h
theorem wO{x:Str}{T:String}{r:nW}(hc:bz X (.type T) (liftC X r))(hg:Gl X x)(hm:X.mg x=none)(hv:bootBuiltins x=some (.type T))(ha:DA X B (e::es) t)(hn:x≠"__name__":=by decide)(hdb:(x==("__debug__":Str))=false:=by decide)
  (he:starEach (e::es) X.env=(false,eval e X.env)::starEach es X.env:=by rfl) (hpl:(backTo pos<|starEach es X.env).any (·.1)=false:=by rfl):DE X B (.Call (.Name x p) (e::es) [] pos) (br r t):=
 aZ (xQ hc hg hm hv ha hn hdb he hpl) λ_ _ _ h=>uN h
theorem eF{ds:List D}{vs:List V}{d:D}(r:Rps K H [d] vs):∃v,vs=[v]/\Rp K H d v:=by
 obtain⟨v,w,rfl,a,b⟩:=r;cases b;exact⟨v,rfl,a⟩
theorem yq{vs:List V}{d e:D}(r:Rps K H [d,e] vs):∃v w,vs=[v,w]/\Rp K H d v/\Rp K H e w:=by
 obtain⟨v,w,rfl,a,b⟩:=r;obtain⟨v',w',rfl,a',b⟩:=b;cases b;exact⟨v,v',rfl,a,a'⟩
def cq:nW:=λds M Q=>match ds with
 |[d]=>match aH M d with
  |some xs=>Q (.int xs.length) M
  |none=>match d with
   |.str z=>z.length<=sizeLine/\Q (.int z.length) M
   |.ref a=>match M a with
    |some (.dK kvs)=>Q (.int kvs.length) M
    |_=>False
   |_=>False
 |_=>False
theorem xW:bz X (.builtin "len") (liftC X cq):=by
 intro pins s U H xs us Q I r h;obtain⟨ds,M,QQ,rh,rp,h,up⟩:=h;unfold cq at h
 split at h
 .obtain⟨v,rfl,rv⟩:=eF (ds:=[]) rp
  split at h
  .rename_i ys e
   obtain⟨q,vs,rfl,hq,rr⟩:=gJ rh rv e;exact nA pins s U H _ us Q I r ⟨q,vs,rfl,hq,by rw[<- rr.length];exact up _ M h _ H rh Frm.refl rfl⟩
  .split at h
   .cases rv
    exact nP pins s U H _ us Q I r ⟨_,rfl,h.1,up _ M h.2 _ H rh Frm.refl rfl⟩
   .split at h
    .rename_i kvs e
     cases rv;obtain⟨ws,h1,h2⟩:=rh _ _ e;exact wL pins s U H _ us Q I r ⟨_,ws,rfl,h1,by rw[<- h2.length];exact up _ M h _ H rh Frm.refl rfl⟩
    .exact h.elim
   .exact h.elim
 .exact h.elim
def Ag:nW:=λds M Q=>match ds with
 |[d]=>match aH M d with
  |some xs=>∀p,M p=none->Q (.ref p) (M.upd p<|.lst xs)
  |none=>False
 |_=>False
theorem rf:bz X (.type "list") (liftC X Ag):=by
 intro pins s U H xs us Q I r h;obtain⟨ds,M,QQ,rh,rp,h,up⟩:=h;unfold Ag at h
 split at h
 .obtain⟨v,rfl,rv⟩:=eF (ds:=[]) rp
  split at h
  .rename_i ys e
   obtain⟨q,vs,rfl,hq,rr⟩:=gJ rh rv e;refine mm pins s U H _ us Q I r ⟨q,vs,rfl,hq,λp hp=>?_⟩;exact up _ _ (h p<|rh.fresh hp) _ _ (rh.put (by rw[hp];trivial) ⟨_,upd_same,rr.mono<|Imm.new hp⟩) (Frm.put<|.inl hp) rfl
  .exact h.elim
 .exact h.elim
def bV:nW:=λds M Q=>match ds with
 |[.tup xs]=>Q (.tup xs) M
 |[d]=>match cz M d with
  |some xs=>Q (.tup xs) M
  |none=>False
 |_=>False
theorem pX:bz X (.type "tuple") (liftC X bV):=by
 intro pins s U H xs us Q I r h;obtain⟨ds,M,QQ,rh,rp,h,up⟩:=h;unfold bV at h
 split at h
 .obtain⟨v,rfl,rv⟩:=eF (ds:=[]) rp
  obtain⟨q,vs,rfl,ht,rr⟩:=rv;exact fC pins s U H _ us Q I r ⟨q,vs,rfl,.inr ⟨ht.sq,up _ M h _ H rh Frm.refl ⟨q,vs,rfl,ht,rr⟩⟩⟩
 .obtain⟨v,rfl,rv⟩:=eF (ds:=[]) rp
  split at h
  .rename_i ys e
   obtain⟨q,vs,rfl,hq,rr⟩:=cO rh rv e;refine fC pins s U H _ us Q I r ⟨q,vs,rfl,.inl ⟨.inl hq,λp hp=>?_⟩⟩;exact up _ M h _ _ (rh.new hp) (Frm.new hp) ⟨p,_,rfl,upd_same,rr.mono<|Imm.new hp⟩
  .exact h.elim
 .exact h.elim
def b_(M:Mem):D->Option String
 |.non=>some "NoneType"
 |.bl _=>some "bool"
 |.int _=>some "int"
 |.str _=>some "str"
 |.tup _=>some "tuple"
 |.lst _=>some "list"
 |.ref a=>match M a with
  |some (.lst _)=>some "list"
  |some (.dK _)=>some "dict"
  |some (.dT _)=>some "dict"
  |_=>none
 |_=>none
def bE(t T:String):Bool:=t==T||(t=="bool"&&T=="int")
def qS(T:String):Bool:=T=="bool"||T=="int"||T=="str"||T=="tuple"||T=="list"||T=="dict"
theorem BE:(∀K:JF,∀t∈["NoneType","bool","int","str","tuple","list","dict"],∀T∈["bool","int","str","tuple","list","dict"],Mv K (.type t) (.type T)=some (bE t T)):=by
 intro K t ht T hT;simp only[JM,Kb,or_false]at ht hT;rcases ht with rfl|rfl|rfl|rfl|rfl|rfl|rfl<;>rcases hT with rfl|rfl|rfl|rfl|rfl|rfl<;>kernel_rfl
theorem B7{d:D}{v:V}{t:String}(rh:RepH K H M)(r:Rp K H d v)(e:b_ M d=some t):TyOf K H v (.type t)/\t∈["NoneType","bool","int","str","tuple","list","dict"]:=by
 cases d with
 |non=>cases r;cases e;exact⟨.non,by simp⟩
 |bl b=>cases r;cases e;exact⟨.bl b,by simp⟩
 |int i=>cases r;cases e;exact⟨.int i,by simp⟩
 |str x=>cases r;cases e;exact⟨.str x,by simp⟩
 |ty n=>cases e
 |mt n=>cases e
 |ml n=>cases e
 |tup xs=>
  cases e;obtain⟨q,vs,rfl,ht,rr⟩:=r;exact⟨.tup ht,by simp⟩
 |lst xs=>
  cases e;obtain⟨q,vs,rfl,⟨o,ht⟩,rr⟩:=r;exact⟨.frz ht,by simp⟩
 |ref a=>
  cases r;simp only[b_]at e
  split at e
  .rename_i q;cases e;obtain⟨ws,h1,h2⟩:=rh _ _ q;exact⟨.lst h1,by simp⟩
  .rename_i q;cases e;obtain⟨ws,h1,h2⟩:=rh _ _ q;exact⟨.dK h1,by simp⟩
  .rename_i q;cases e;obtain⟨ws,h1,h2⟩:=rh _ _ q;exact⟨.dT h1,by simp⟩
  .cases e
def bU:nW:=λds M Q=>match ds with
 |[d,.ty T]=>qS T=true/\match b_ M d with
  |some t=>Q (.bl<|bE t T) M
  |none=>False
 |_=>False
theorem mn:bz X (.builtin "isinstance") (liftC X bU):=by
 intro pins s U H xs us Q I r h;obtain⟨ds,M,QQ,rh,rp,h,up⟩:=h;unfold bU at h
 split at h
 .rename_i d T
  obtain⟨hT,h⟩:=h;obtain⟨v,w,rfl,rv,rw'⟩:=yq rp;cases rw'
  split at h
  .rename_i t e
   obtain⟨ty,ht⟩:=B7 rh rv e;refine pK pins s U H _ us Q I r ⟨v,T,.type t,_,rfl,ty,BE X.K t ht T ?_,up _ M h _ H rh Frm.refl rfl⟩;simp only[qS,Bool.or_eq_true,beq_iff_eq]at hT;simp only[JM,Kb,or_false];rcases hT with ((((h|h)|h)|h)|h)|h<;>simp[h]
  .exact h.elim
 .exact h.elim
def eA:List D->Option (List Bool)
 |[]=>some []
 |.bl b::ds=>match eA ds with
  |some bs=>some (b::bs)
  |none=>none
 |_=>none
theorem fj:∀{ds:List D} {vs:List V} {bs:List Bool},Rps K H ds vs->eA ds=some bs->vs=bs.map V.bl
 |[],vs,bs,r,e=>by cases e;exact r
 |d::ds,vs,bs,r,e=>by
  obtain⟨v,r',rfl,a,b⟩:=r;cases d with
  |bl c=>
   simp only[eA]at e
   split at e
   .rename_i bs' e2
    cases e;cases a;rw[fj b e2];rfl
   .cases e
  |_=>cases e
def lC:nW:=λds M Q=>match ds with
 |[d]=>match cz M d with
  |some xs=>match eA xs with
   |some bs=>Q (.bl<|bs.all id) M
   |none=>False
  |none=>False
 |_=>False
theorem wT(hc:X.calm=true):bz X (.builtin "all") (liftC X lC):=by
 intro pins s U H xs us Q I r h;obtain⟨ds,M,QQ,rh,rp,h,up⟩:=h;unfold lC at h
 split at h
 .obtain⟨v,rfl,rv⟩:=eF (ds:=[]) rp
  split at h
  .rename_i ys e
   split at h
   .rename_i bs eb
    obtain⟨q,vs,rfl,hq,rr⟩:=cO rh rv e;have ev:=fj rr eb;subst ev;exact yj hc pins s U H _ us Q I r ⟨q,bs,rfl,.inl hq,up _ M h _ H rh Frm.refl rfl⟩
   .exact h.elim
  .exact h.elim
 .exact h.elim
def Ha:nW:=λds M Q=>match ds with
 |[.int i,.int j]=>Q (.int (if j<i then j else i)) M
 |_=>False
theorem xX(hc:X.calm=true):bz X (.builtin "min") (liftC X Ha):=by
 intro pins s U H xs us Q I r h;obtain⟨ds,M,QQ,rh,rp,h,up⟩:=h;unfold Ha at h
 split at h
 .obtain⟨v,w,rfl,rv,rw'⟩:=yq rp
  cases rv;cases rw';exact wX hc pins s U H _ us Q I r ⟨_,_,rfl,up _ M h _ H rh Frm.refl rfl⟩
 .exact h.elim
def Cd:nW:=λds M Q=>match ds with
 |[.int i,.int j]=>Q (.int (if j>i then j else i)) M
 |_=>False
theorem xm(hc:X.calm=true):bz X (.builtin "max") (liftC X Cd):=by
 intro pins s U H xs us Q I r h;obtain⟨ds,M,QQ,rh,rp,h,up⟩:=h;unfold Cd at h
 split at h
 .obtain⟨v,w,rfl,rv,rw'⟩:=yq rp
  cases rv;cases rw';exact wB hc pins s U H _ us Q I r ⟨_,_,rfl,up _ M h _ H rh Frm.refl rfl⟩
 .exact h.elim
end
mutual
def aG:D->D->Bool
 |.non,.non=>true
 |.bl a,.bl b=>a==b
 |.bl a,.int b=>(if a then 1 else 0)==b
 |.int a,.bl b=>a==(if b then 1 else 0)
 |.int a,.int b=>decide (a=b)
 |.str a,.str b=>decide (a=b)
 |.tup xs,.tup ys=>cA xs ys
 |.lst xs,.lst ys=>cA xs ys
 |_,_=>false
def cA:List D->List D->Bool
 |[],[]=>true
 |x::xs,y::ys=>aG x y&&cA xs ys
 |_,_=>false
end
mutual
def bN:Nat->D->Bool
 |_,.non=>true
 |_,.bl _=>true
 |_,.int _=>true
 |_,.str _=>true
 |n+1,.tup xs=>fits n xs
 |n+1,.lst xs=>fits n xs
 |_,_=>false
def fits:Nat->List D->Bool
 |_,[]=>true
 |n,x::xs=>bN n x&&fits n xs
end
mutual
def Hr(h:Heap):D->Value->Prop
 |.non,u=>u=.none
 |.bl b,u=>u=.bool b
 |.int i,u=>∃t,u=.int i t
 |.str x,u=>∃t,u=.str x t
 |.tup xs,u=>∃p its,u=.ref p/\h.IsTuple p (LB its)/\Hrs h xs its
 |.lst xs,u=>∃p its,u=.ref p/\h.IsList p (LB its)/\Hrs h xs its
 |_,_=>False
def Hrs(h:Heap):List D->List Value->Prop
 |[],us=>us=[]
 |x::xs,us=>∃u r,us=u::r/\Hr h x u/\Hrs h xs r
end
section
variable {h:Heap}
theorem Hrs.length:∀{ds:List D} {us:List Value},Hrs h ds us->ds.length=us.length
 |[],_,q=>by cases q;rfl
 |_::_,_,q=>by obtain⟨v,r,rfl,_,b⟩:=q;simp[b.length]
theorem Hrs.get:∀{ds:List D} {us:List Value},Hrs h ds us->∀(i:Nat) (h1:i<ds.length) (h2:i<us.length),Hr h ds[i] us[i]
 |[],_,_,i,h1,_=>absurd h1 (Oe _)
 |x::xs,_,q,i,h1,h2=>by
  obtain⟨v,r,rfl,a,b⟩:=q;cases i with
  |zero=>exact a
  |succ i=>exact b.get i (by simpa using h1) (by simpa using h2)
theorem wx{p:Addr}{a b:Array Value}(x:h.IsTuple p a)(y:h.IsTuple p b):a=b:=by
 obtain⟨o,h1,_,n,h2⟩:=x;obtain⟨o',h1',_,n',h2'⟩:=y;rw[h1]at h1';cases h1';rw[h2]at h2'
 injection h2' with e _
theorem wm{p:Addr}{a b:Array Value}(x:h.IsList p a)(y:h.IsList p b):a=b:=by
 obtain⟨o,h1,_,n,h2⟩:=x;obtain⟨o',h1',_,n',h2'⟩:=y;rw[h1]at h1';cases h1';rw[h2]at h2'
 injection h2' with e _
theorem Io{p:Addr}{a b:Array Value}(x:h.IsList p a)(y:h.IsTuple p b):False:=by
 obtain⟨o,h1,c,_⟩:=x;obtain⟨o',h1',c',_⟩:=y;rw[h1]at h1';cases h1';rw[c]at c'
 injection c' with e
 exact absurd e (by decide)
mutual
theorem Ai:∀{d e:D} {u:Value},Hr h d u->Hr h e u->d=e
 |.non,e,u,a,b=>by
  cases a;cases e with
  |non=>rfl
  |bl _=>cases b
  |int _=>obtain⟨t,q⟩:=b;cases q
  |str _=>obtain⟨t,q⟩:=b;cases q
  |tup _=>obtain⟨p,i,q,_⟩:=b;cases q
  |lst _=>obtain⟨p,i,q,_⟩:=b;cases q
  |_=>exact(show False from b).elim
 |.bl c,e,u,a,b=>by
  cases a;cases e with
  |non=>cases b
  |bl _=>cases b;rfl
  |int _=>obtain⟨t,q⟩:=b;cases q
  |str _=>obtain⟨t,q⟩:=b;cases q
  |tup _=>obtain⟨p,i,q,_⟩:=b;cases q
  |lst _=>obtain⟨p,i,q,_⟩:=b;cases q
  |_=>exact(show False from b).elim
 |.int c,e,u,a,b=>by
  obtain⟨t,rfl⟩:=a;cases e with
  |non=>cases b
  |bl _=>cases b
  |int _=>obtain⟨t,q⟩:=b;cases q;rfl
  |str _=>obtain⟨t,q⟩:=b;cases q
  |tup _=>obtain⟨p,i,q,_⟩:=b;cases q
  |lst _=>obtain⟨p,i,q,_⟩:=b;cases q
  |_=>exact(show False from b).elim
 |.str c,e,u,a,b=>by
  obtain⟨t,rfl⟩:=a;cases e with
  |non=>cases b
  |bl _=>cases b
  |int _=>obtain⟨t,q⟩:=b;cases q
  |str _=>obtain⟨t,q⟩:=b;cases q;rfl
  |tup _=>obtain⟨p,i,q,_⟩:=b;cases q
  |lst _=>obtain⟨p,i,q,_⟩:=b;cases q
  |_=>exact(show False from b).elim
 |.tup xs,e,u,a,b=>by
  obtain⟨p,its,rfl,t1,r1⟩:=a;cases e with
  |non=>cases b
  |bl _=>cases b
  |int _=>obtain⟨t,q⟩:=b;cases q
  |str _=>obtain⟨t,q⟩:=b;cases q
  |tup ys=>
   obtain⟨p',its',q,t2,r2⟩:=b;cases q;have e:=wx t1 t2;have e':its=its':=by simpa using congrArg Mw e
   subst e';rw[gn r1 r2]
  |lst ys=>obtain⟨p',its',q,t2,r2⟩:=b;cases q;exact(Io t2 t1).elim
  |_=>exact(show False from b).elim
 |.lst xs,e,u,a,b=>by
  obtain⟨p,its,rfl,t1,r1⟩:=a;cases e with
  |non=>cases b
  |bl _=>cases b
  |int _=>obtain⟨t,q⟩:=b;cases q
  |str _=>obtain⟨t,q⟩:=b;cases q
  |lst ys=>
   obtain⟨p',its',q,t2,r2⟩:=b;cases q;have e:=wm t1 t2;have e':its=its':=by simpa using congrArg Mw e
   subst e';rw[gn r1 r2]
  |tup ys=>obtain⟨p',its',q,t2,r2⟩:=b;cases q;exact(Io t1 t2).elim
  |_=>exact(show False from b).elim
 |.ty _,_,_,a,_=>(show False from a).elim
 |.ref _,_,_,a,_=>(show False from a).elim
 |.mt _,_,_,a,_=>(show False from a).elim
 |.ml _,_,_,a,_=>(show False from a).elim
theorem gn:∀{ds es:List D} {us:List Value},Hrs h ds us->Hrs h es us->ds=es
 |[],es,us,a,b=>by
  cases a;cases es with
  |nil=>rfl
  |cons _ _=>obtain⟨v,r,q,_⟩:=b;cases q
 |d::ds,es,us,a,b=>by
  obtain⟨v,r,rfl,a1,a2⟩:=a;cases es with
  |nil=>cases b
  |cons e es=>
   obtain⟨v',r',q,b1,b2⟩:=b;cases q;rw[Ai a1 b1,gn a2 b2]
end
mutual
theorem y9:∀{n:Nat} {d:D},bN n d=true->aG d d=true
 |_,.non,_=>by simp[aG]
 |_,.bl _,_=>by simp[aG]
 |_,.int _,_=>by simp[aG]
 |_,.str _,_=>by simp[aG]
 |0,.tup _,f=>by simp[bN]at f
 |0,.lst _,f=>by simp[bN]at f
 |n+1,.tup xs,f=>by rw[aG];exact dw (n:=n) f
 |n+1,.lst xs,f=>by rw[aG];exact dw (n:=n) f
 |_,.ty _,f=>by simp[bN]at f
 |_,.ref _,f=>by simp[bN]at f
 |_,.mt _,f=>by simp[bN]at f
 |_,.ml _,f=>by simp[bN]at f
theorem dw:∀{n:Nat} {ds:List D},fits n ds=true->cA ds ds=true
 |_,[],_=>by simp[cA]
 |n,x::xs,f=>by
  rw[fits,JU]at f;rw[cA,y9 f.1,dw f.2];rfl
end
theorem cU:∀{xs ys:List D},xs.length≠ys.length->cA xs ys=false
 |[],[],h=>absurd rfl h
 |[],_::_,_=>by simp[cA]
 |_::_,[],_=>by simp[cA]
 |x::xs,y::ys,h=>by rw[cA,cU (by simpa using h),Lm]
theorem fY:∀(xs ys:List D) (f:Nat->Bool),xs.length=ys.length->(∀j (h1:j<xs.length) (h2:j<ys.length),f j=aG xs[j] ys[j])->(LC xs.length).all f=cA xs ys
 |[],[],f,_,_=>by simp[cA]
 |[],_::_,_,h,_=>by simp at h
 |_::_,[],_,h,_=>by simp at h
 |x::xs,y::ys,f,h,hf=>by
  have h0:=hf 0 (by simp) (by simp)
  have ht:=fY xs ys (λj=>f (j+1)) (by simpa using h) (λj h1 h2=>hf (j+1) (by simpa using h1) (by simpa using h2))
  rw[JC,List.range_succ_eq_map,KJ,MY,cA,<- ht];simp only[OK]at h0;rw[h0];rfl
theorem cS:∀{n:Nat} {xs:List D},fits n xs=true->∀(j:Nat) (h1:j<xs.length),bN n xs[j]=true
 |_,[],_,j,h1=>absurd h1 (Oe _)
 |n,x::xs,f,j,h1=>by
  rw[fits,JU]at f;cases j with
  |zero=>exact f.1
  |succ j=>exact cS f.2 j (by simpa using h1)
def kX:D->Option V
 |.non=>some .non
 |.bl b=>some (.bl b)
 |.int i=>some (.int i)
 |.str x=>some (.str x)
 |_=>none
theorem iV{d:D}{v:V}{u:Value}(e:kX d=some v)(r:Hr h d u):RelV v u/\yi v=true:=by
 cases d with
 |non=>cases e;exact⟨r,rfl⟩
 |bl b=>cases e;exact⟨r,rfl⟩
 |int b=>cases e;exact⟨r,rfl⟩
 |str b=>cases e;exact⟨r,rfl⟩
 |_=>cases e
theorem pf{d e:D}{v w:V}(h1:kX d=some v)(h2:kX e=some w):oB v w=aG d e:=by
 cases d with
 |non=>cases h1;cases e with|non=>cases h2;simp[oB,aG]|bl b=>cases h2;simp[oB,aG]|int b=>cases h2;simp[oB,aG]|str b=>cases h2;simp[oB,aG]|_=>cases h2
 |bl a=>cases h1;cases e with|non=>cases h2;simp[oB,aG]|bl b=>cases h2;simp[oB,aG]|int b=>cases h2;simp[oB,aG]|str b=>cases h2;simp[oB,aG]|_=>cases h2
 |int a=>cases h1;cases e with|non=>cases h2;simp[oB,aG]|bl b=>cases h2;simp[oB,aG]|int b=>cases h2;simp[oB,aG];rfl|str b=>cases h2;simp[oB,aG]|_=>cases h2
 |str a=>cases h1;cases e with|non=>cases h2;simp[oB,aG]|bl b=>cases h2;simp[oB,aG]|int b=>cases h2;simp[oB,aG]|str b=>cases h2;simp[oB,aG];rfl|_=>cases h2
 |_=>cases h1
end
theorem Ee:∀(n:Nat) {A:Around} {s:Shared} {d e:D} {u w:Value},Hr s.heap d u->Hr s.heap e w->bN n d=true->bN n e=true->A.units+n<cLine->MS A s u w (aG d e):=by
 intro n
 induction n with
 |zero=>
  intro A s d e u w rd re fd fe hu;have f1:∃v,kX d=some v:=by cases d<;>first|exact⟨_,rfl⟩|(simp[bN]at fd)
  have f2:∃v,kX e=some v:=by cases e<;>first|exact⟨_,rfl⟩|(simp[bN]at fe)
  obtain⟨v1,e1⟩:=f1;obtain⟨v2,e2⟩:=f2;obtain⟨a1,b1⟩:=iV e1 rd;obtain⟨a2,b2⟩:=iV e2 re;rw[<- pf e1 e2];exact Ao a1 a2 b1 b2
 |succ n ih=>
  intro A s d e u w rd re fd fe hu;have hu0:A.units<cLine:=by lia
  have hu1:A.in1.units+n<cLine:=by show A.units+1+n<cLine;lia
  by_cases f1:∃v,kX d=some v
  .obtain⟨v1,e1⟩:=f1
   obtain⟨a1,b1⟩:=iV e1 rd
   by_cases f2:∃v,kX e=some v
   .obtain⟨v2,e2⟩:=f2
    obtain⟨a2,b2⟩:=iV e2 re;rw[<- pf e1 e2];exact Ao a1 a2 b1 b2
   .cases e with
    |tup ys=>
     obtain⟨p,its,rfl,t,_⟩:=re;cases d with
     |non=>cases rd;simp only[aG];exact .none_tuple t hu0
     |bl b=>cases rd;simp only[aG];exact .bool_tuple b t hu0
     |int b=>obtain⟨tk,rfl⟩:=rd;simp only[aG];exact .int_tuple b tk t hu0
     |str b=>obtain⟨tk,rfl⟩:=rd;simp only[aG];exact .str_tuple b tk t hu0
     |_=>cases e1
    |lst ys=>
     obtain⟨p,its,rfl,t,_⟩:=re;cases d with
     |non=>cases rd;simp only[aG];exact .none_list t hu0
     |bl b=>cases rd;simp only[aG];exact .bool_list b t hu0
     |int b=>obtain⟨tk,rfl⟩:=rd;simp only[aG];exact .int_list b tk t hu0
     |str b=>obtain⟨tk,rfl⟩:=rd;simp only[aG];exact .str_list b tk t hu0
     |_=>cases e1
    |ty _=>exact(show False from re).elim
    |ref _=>exact(show False from re).elim
    |mt _=>exact(show False from re).elim
    |ml _=>exact(show False from re).elim
    |_=>exact absurd ⟨_,rfl⟩ f2
  .cases d with
   |tup xs=>
    obtain⟨p,its,rfl,t1,r1⟩:=rd;cases e with
    |non=>cases re;simp only[aG];exact .tuple_none t1 hu0
    |bl b=>cases re;simp only[aG];exact .tuple_bool b t1 hu0
    |int b=>obtain⟨tk,rfl⟩:=re;simp only[aG];exact .tuple_int b tk t1 hu0
    |str b=>obtain⟨tk,rfl⟩:=re;simp only[aG];exact .tuple_str b tk t1 hu0
    |tup ys=>
     obtain⟨p',its',rfl,t2,r2⟩:=re;rw[aG]
     by_cases hp:p=p'
     .subst hp
      have e':its=its':=by simpa using congrArg Mw (wx t1 t2)
      subst e';rw[gn r1 r2,dw (n:=n) fe];exact .same _
     .refine .of_refs hp ?_
      have l1:=r1.length;have l2:=r2.length;have key:∀j (h1:j<its.toArray.size) (h2:j<its'.toArray.size),MS A.in1 s its.toArray[j] its'.toArray[j] (match xs[j]?,ys[j]? with|some x,some y=>aG x y|_,_=>false):=λj h1 h2=>by
       have h1':j<xs.length:=by rw[l1];simpa using h1
       have h2':j<ys.length:=by rw[l2];simpa using h2
       rw[JG h1',JG h2'];exact ih (r1.get j h1'<|by simpa using h1) (r2.get j h2'<|by simpa using h2) (cS fd j h1') (cS fe j h2') hu1
      have:=OE (e:=λj=>match xs[j]?,ys[j]? with|some x,some y=>aG x y|_,_=>false) t1 t2 hu0 key
      by_cases hl:xs.length=ys.length
      .have hsz:its.toArray.size=its'.toArray.size:=by simp;lia
       rw[hsz]at this;simp only[OU,beq_self_eq_true,Kt]at this;have hxs:its'.toArray.size=xs.length:=by simp;lia
       rw[hxs,fY xs ys _ hl (λj h1 h2=>by rw[JG h1,JG h2])]at this
       exact this
      .have hsz:(its.toArray.size==its'.toArray.size)=false:=by simp;lia
       rw[hsz,Lm]at this;rw[cU hl];exact this
    |lst ys=>obtain⟨p',its',rfl,t2,r2⟩:=re;simp only[aG];exact .tuple_list t1 t2 hu0
    |_=>exact(show False from re).elim
   |lst xs=>
    obtain⟨p,its,rfl,t1,r1⟩:=rd;cases e with
    |non=>cases re;simp only[aG];exact .list_none t1 hu0
    |bl b=>cases re;simp only[aG];exact .list_bool b t1 hu0
    |int b=>obtain⟨tk,rfl⟩:=re;simp only[aG];exact .list_int b tk t1 hu0
    |str b=>obtain⟨tk,rfl⟩:=re;simp only[aG];exact .list_str b tk t1 hu0
    |lst ys=>
     obtain⟨p',its',rfl,t2,r2⟩:=re;rw[aG]
     by_cases hp:p=p'
     .subst hp
      have e':its=its':=by simpa using congrArg Mw (wm t1 t2)
      subst e';rw[gn r1 r2,dw (n:=n) fe];exact .same _
     .refine .of_refs hp ?_
      have l1:=r1.length;have l2:=r2.length
      by_cases hl:xs.length=ys.length
      .have key:∀j (h1:j<its.toArray.size) (h2:j<its'.toArray.size),MS A.in1 s its.toArray[j] its'.toArray[j] (match xs[j]?,ys[j]? with|some x,some y=>aG x y|_,_=>false):=λj h1 h2=>by
        have h1':j<xs.length:=by rw[l1];simpa using h1
        have h2':j<ys.length:=by rw[l2];simpa using h2
        rw[JG h1',JG h2'];exact ih (r1.get j h1'<|by simpa using h1) (r2.get j h2'<|by simpa using h2) (cS fd j h1') (cS fe j h2') hu1
       have:=OH (e:=λj=>match xs[j]?,ys[j]? with|some x,some y=>aG x y|_,_=>false) t1 t2 (by simp;lia) hu0 key
       have hxs:its.toArray.size=xs.length:=by simp;lia
       rw[hxs,fY xs ys _ hl (λj h1 h2=>by rw[JG h1,JG h2])]at this
       exact this
      .rw[cU hl]
       exact NR t1 t2 (by simp;lia) hu0
    |tup ys=>obtain⟨p',its',rfl,t2,r2⟩:=re;simp only[aG];exact .list_tuple t1 t2 hu0
    |_=>exact(show False from re).elim
   |ty _=>exact(show False from rd).elim
   |ref _=>exact(show False from rd).elim
   |mt _=>exact(show False from rd).elim
   |ml _=>exact(show False from rd).elim
   |_=>exact absurd ⟨_,rfl⟩ f1
theorem jo{n:Nat}{A:Around}{s:Shared}{xs ys:List D}{its its':List Value}(r1:Hrs s.heap xs its)(r2:Hrs s.heap ys its')(fd:fits n xs=true)(fe:fits n ys=true)(hu:A.units+n<cLine):
  ∀j (h1:j<its.toArray.size) (h2:j<its'.toArray.size),MS A s its.toArray[j] its'.toArray[j] (match xs[j]?,ys[j]? with|some x,some y=>aG x y|_,_=>false):=λj h1 h2=>by
 have h1':j<xs.length:=by rw[r1.length];simpa using h1
 have h2':j<ys.length:=by rw[r2.length];simpa using h2
 rw[JG h1',JG h2'];exact Ee n (r1.get j h1'<|by simpa using h1) (r2.get j h2'<|by simpa using h2) (cS fd j h1') (cS fe j h2') hu
theorem iN{xs ys:List D}(hl:xs.length=ys.length):(LC xs.length).all (λj=>match xs[j]?,ys[j]? with|some x,some y=>aG x y|_,_=>false)=cA xs ys:=
 fY xs ys _ hl (λj h1 h2=>by rw[JG h1,JG h2])
theorem EW{n:Nat}{A:Around}{s:Shared}{xs ys:List D}{p p':Addr}{its its':List Value}(t1:s.heap.IsTuple p its.toArray)(t2:s.heap.IsTuple p' its'.toArray)(r1:Hrs s.heap xs its)(r2:Hrs s.heap ys its')(fd:bN n (.tup xs)=true)(fe:bN n (.tup ys)=true)(hu:A.units+n<cLine):
  Pa A s (.ref p) (.ref p') (aG (.tup xs)<|.tup ys):=by
 cases n with
 |zero=>simp[bN]at fd
 |succ n=>
  have l1:=r1.length;have l2:=r2.length;have:=OE (A:=A) t1 t2 (by lia) (jo (n:=n) r1 r2 fd fe<|by show A.units+1+n<cLine;lia)
  rw[aG]
  by_cases hl:xs.length=ys.length
  .have hsz:its.toArray.size=its'.toArray.size:=by simp;lia
   rw[hsz]at this;simp only[OU,beq_self_eq_true,Kt]at this;have hxs:its'.toArray.size=xs.length:=by simp;lia
   rw[hxs,iN hl]at this;exact this
  .have hsz:(its.toArray.size==its'.toArray.size)=false:=by simp;lia
   rw[hsz,Lm]at this;rw[cU hl];exact this
theorem Fz{n:Nat}{A:Around}{s:Shared}{xs ys:List D}{p p':Addr}{its its':List Value}(t1:s.heap.IsList p its.toArray)(t2:s.heap.IsList p' its'.toArray)(r1:Hrs s.heap xs its)(r2:Hrs s.heap ys its')(fd:bN n (.lst xs)=true)(fe:bN n (.lst ys)=true)(hu:A.units+n<cLine):
  Pa A s (.ref p) (.ref p') (aG (.lst xs)<|.lst ys):=by
 cases n with
 |zero=>simp[bN]at fd
 |succ n=>
  have l1:=r1.length;have l2:=r2.length;rw[aG]
  by_cases hl:xs.length=ys.length
  .have:=OH (A:=A) t1 t2 (by simp;lia) (by lia) (jo (n:=n) r1 r2 fd fe<|by show A.units+1+n<cLine;lia)
   have hxs:its.toArray.size=xs.length:=by simp;lia
   rw[hxs,iN hl]at this;exact this
  .rw[cU hl]
   exact NR t1 t2 (by simp;lia) (by lia)
theorem zY{n:Nat}{A:Around}{s:Shared}{xs ys:List D}{p p':Addr}{its its':List Value}(t1:s.heap.IsTuple p its.toArray)(t2:s.heap.IsTuple p' its'.toArray)(r1:Hrs s.heap xs its)(r2:Hrs s.heap ys its')(fd:bN n (.tup xs)=true)(fe:bN n (.tup ys)=true)(hu:A.units+n<cLine):
  OD A s (.ref p) (.ref p') (!aG (.tup xs) (.tup ys)):=by
 cases n with
 |zero=>simp[bN]at fd
 |succ n=>
  have l1:=r1.length;have l2:=r2.length;have:=SeqAt.RcNeAt.tuples (A:=A) t1 t2 (by lia) (jo (n:=n) r1 r2 fd fe<|by show A.units+1+n<cLine;lia)
  rw[aG]
  by_cases hl:xs.length=ys.length
  .have hsz:its.toArray.size=its'.toArray.size:=by simp;lia
   rw[hsz]at this;simp only[OU,beq_self_eq_true,Kt]at this;have hxs:its'.toArray.size=xs.length:=by simp;lia
   rw[hxs,iN hl]at this;exact this
  .have hsz:(its.toArray.size==its'.toArray.size)=false:=by simp;lia
   rw[hsz,Lm]at this;rw[cU hl];exact this
theorem zh{n:Nat}{A:Around}{s:Shared}{xs ys:List D}{p p':Addr}{its its':List Value}(t1:s.heap.IsList p its.toArray)(t2:s.heap.IsList p' its'.toArray)(r1:Hrs s.heap xs its)(r2:Hrs s.heap ys its')(fd:bN n (.lst xs)=true)(fe:bN n (.lst ys)=true)(hu:A.units+n<cLine):
  OD A s (.ref p) (.ref p') (!aG (.lst xs) (.lst ys)):=by
 cases n with
 |zero=>simp[bN]at fd
 |succ n=>
  have l1:=r1.length;have l2:=r2.length;rw[aG]
  by_cases hl:xs.length=ys.length
  .have:=SeqAt.RcNeAt.lists (A:=A) t1 t2 (by simp;lia) (by lia) (jo (n:=n) r1 r2 fd fe<|by show A.units+1+n<cLine;lia)
   have hxs:its.toArray.size=xs.length:=by simp;lia
   rw[hxs,iN hl]at this;exact this
  .rw[cU hl]
   exact SeqAt.RcNeAt.lists_lengths t1 t2 (by simp;lia) (by lia)
theorem HS{n:Nat}{A:Around}{s:Shared}{d e:D}{u w:Value}(rd:Hr s.heap d u)(re:Hr s.heap e w)(fd:bN n d=true)(fe:bN n e=true)(hu:A.units+n<cLine):Pa A s u w (aG d e):=by
 have hu0:A.units<cLine:=by lia
 cases d with
 |non=>
  cases rd;cases e with
  |non=>
   cases re;simpa [aG,Kj] using SeqAt.RcAt.none_none
  |bl y=>
   cases re;simpa [aG] using SeqAt.RcAt.none_bool y
  |int y=>
   obtain⟨tky,rfl⟩:=re;simpa [aG] using SeqAt.RcAt.none_int y tky
  |str y=>
   obtain⟨tky,rfl⟩:=re;simpa [aG] using SeqAt.RcAt.none_str y tky
  |tup y=>
   obtain⟨py,itsy,rfl,ty,ry⟩:=re;simpa [aG] using SeqAt.RcAt.none_tuple ty hu0
  |lst y=>
   obtain⟨py,itsy,rfl,ty,ry⟩:=re;simpa [aG] using SeqAt.RcAt.none_list ty hu0
  |_=>exact(show False from re).elim
 |bl x=>
  cases rd;cases e with
  |non=>
   cases re;simpa [aG] using SeqAt.RcAt.bool_none x
  |bl y=>
   cases re;simpa [aG,Kj] using SeqAt.RcAt.bool_bool x y
  |int y=>
   obtain⟨tky,rfl⟩:=re;simpa [aG,Kj] using SeqAt.RcAt.bool_int x y tky
  |str y=>
   obtain⟨tky,rfl⟩:=re;simpa [aG] using SeqAt.RcAt.bool_str x y tky
  |tup y=>
   obtain⟨py,itsy,rfl,ty,ry⟩:=re;simpa [aG] using SeqAt.RcAt.bool_tuple x ty hu0
  |lst y=>
   obtain⟨py,itsy,rfl,ty,ry⟩:=re;simpa [aG] using SeqAt.RcAt.bool_list x ty hu0
  |_=>exact(show False from re).elim
 |int x=>
  obtain⟨tkx,rfl⟩:=rd;cases e with
  |non=>
   cases re;simpa [aG] using SeqAt.RcAt.int_none x tkx
  |bl y=>
   cases re;simpa [aG,Kj] using SeqAt.RcAt.int_bool x tkx y
  |int y=>
   obtain⟨tky,rfl⟩:=re;simpa [aG,Kj] using SeqAt.RcAt.int_int x tkx y tky
  |str y=>
   obtain⟨tky,rfl⟩:=re;simpa [aG] using SeqAt.RcAt.int_str x tkx y tky
  |tup y=>
   obtain⟨py,itsy,rfl,ty,ry⟩:=re;simpa [aG] using SeqAt.RcAt.int_tuple x tkx ty hu0
  |lst y=>
   obtain⟨py,itsy,rfl,ty,ry⟩:=re;simpa [aG] using SeqAt.RcAt.int_list x tkx ty hu0
  |_=>exact(show False from re).elim
 |str x=>
  obtain⟨tkx,rfl⟩:=rd;cases e with
  |non=>
   cases re;simpa [aG] using SeqAt.RcAt.str_none x tkx
  |bl y=>
   cases re;simpa [aG] using SeqAt.RcAt.str_bool x tkx y
  |int y=>
   obtain⟨tky,rfl⟩:=re;simpa [aG] using SeqAt.RcAt.str_int x tkx y tky
  |str y=>
   obtain⟨tky,rfl⟩:=re;simpa [aG,Kj] using SeqAt.RcAt.str_str x tkx y tky
  |tup y=>
   obtain⟨py,itsy,rfl,ty,ry⟩:=re;simpa [aG] using SeqAt.RcAt.str_tuple x tkx ty hu0
  |lst y=>
   obtain⟨py,itsy,rfl,ty,ry⟩:=re;simpa [aG] using SeqAt.RcAt.str_list x tkx ty hu0
  |_=>exact(show False from re).elim
 |tup x=>
  obtain⟨px,itsx,rfl,tx,rx⟩:=rd;cases e with
  |non=>
   cases re;simpa [aG] using SeqAt.RcAt.tuple_none tx hu0
  |bl y=>
   cases re;simpa [aG] using SeqAt.RcAt.tuple_bool y tx hu0
  |int y=>
   obtain⟨tky,rfl⟩:=re;simpa [aG] using SeqAt.RcAt.tuple_int y tky tx hu0
  |str y=>
   obtain⟨tky,rfl⟩:=re;simpa [aG] using SeqAt.RcAt.tuple_str y tky tx hu0
  |tup y=>
   obtain⟨py,itsy,rfl,ty,ry⟩:=re;exact EW tx ty rx ry fd fe hu
  |lst y=>
   obtain⟨py,itsy,rfl,ty,ry⟩:=re;simpa [aG] using SeqAt.RcAt.tuple_list tx ty hu0
  |_=>exact(show False from re).elim
 |lst x=>
  obtain⟨px,itsx,rfl,tx,rx⟩:=rd;cases e with
  |non=>
   cases re;simpa [aG] using SeqAt.RcAt.list_none tx hu0
  |bl y=>
   cases re;simpa [aG] using SeqAt.RcAt.list_bool y tx hu0
  |int y=>
   obtain⟨tky,rfl⟩:=re;simpa [aG] using SeqAt.RcAt.list_int y tky tx hu0
  |str y=>
   obtain⟨tky,rfl⟩:=re;simpa [aG] using SeqAt.RcAt.list_str y tky tx hu0
  |tup y=>
   obtain⟨py,itsy,rfl,ty,ry⟩:=re;simpa [aG] using SeqAt.RcAt.list_tuple tx ty hu0
  |lst y=>
   obtain⟨py,itsy,rfl,ty,ry⟩:=re;exact Fz tx ty rx ry fd fe hu
  |_=>exact(show False from re).elim
 |_=>exact(show False from rd).elim
theorem Bq{n:Nat}{A:Around}{s:Shared}{d e:D}{u w:Value}(rd:Hr s.heap d u)(re:Hr s.heap e w)(fd:bN n d=true)(fe:bN n e=true)(hu:A.units+n<cLine):OD A s u w (!aG d e):=by
 have hu0:A.units<cLine:=by lia
 cases d with
 |non=>
  cases rd;cases e with
  |non=>
   cases re;simpa [aG,Kj] using SeqAt.RcNeAt.none_none
  |bl y=>
   cases re;simpa [aG] using SeqAt.RcNeAt.none_bool y
  |int y=>
   obtain⟨tky,rfl⟩:=re;simpa [aG] using SeqAt.RcNeAt.none_int y tky
  |str y=>
   obtain⟨tky,rfl⟩:=re;simpa [aG] using SeqAt.RcNeAt.none_str y tky
  |tup y=>
   obtain⟨py,itsy,rfl,ty,ry⟩:=re;simpa [aG] using SeqAt.RcNeAt.none_tuple ty hu0
  |lst y=>
   obtain⟨py,itsy,rfl,ty,ry⟩:=re;simpa [aG] using SeqAt.RcNeAt.none_list ty hu0
  |_=>exact(show False from re).elim
 |bl x=>
  cases rd;cases e with
  |non=>
   cases re;simpa [aG] using SeqAt.RcNeAt.bool_none x
  |bl y=>
   cases re;simpa [aG,Kj] using SeqAt.RcNeAt.bool_bool x y
  |int y=>
   obtain⟨tky,rfl⟩:=re;simpa [aG,Kj] using SeqAt.RcNeAt.bool_int x y tky
  |str y=>
   obtain⟨tky,rfl⟩:=re;simpa [aG] using SeqAt.RcNeAt.bool_str x y tky
  |tup y=>
   obtain⟨py,itsy,rfl,ty,ry⟩:=re;simpa [aG] using SeqAt.RcNeAt.bool_tuple x ty hu0
  |lst y=>
   obtain⟨py,itsy,rfl,ty,ry⟩:=re;simpa [aG] using SeqAt.RcNeAt.bool_list x ty hu0
  |_=>exact(show False from re).elim
 |int x=>
  obtain⟨tkx,rfl⟩:=rd;cases e with
  |non=>
   cases re;simpa [aG] using SeqAt.RcNeAt.int_none x tkx
  |bl y=>
   cases re;simpa [aG,Kj] using SeqAt.RcNeAt.int_bool x tkx y
  |int y=>
   obtain⟨tky,rfl⟩:=re;simpa [aG,Kj] using SeqAt.RcNeAt.int_int x tkx y tky
  |str y=>
   obtain⟨tky,rfl⟩:=re;simpa [aG] using SeqAt.RcNeAt.int_str x tkx y tky
  |tup y=>
   obtain⟨py,itsy,rfl,ty,ry⟩:=re;simpa [aG] using SeqAt.RcNeAt.int_tuple x tkx ty hu0
  |lst y=>
   obtain⟨py,itsy,rfl,ty,ry⟩:=re;simpa [aG] using SeqAt.RcNeAt.int_list x tkx ty hu0
  |_=>exact(show False from re).elim
 |str x=>
  obtain⟨tkx,rfl⟩:=rd;cases e with
  |non=>
   cases re;simpa [aG] using SeqAt.RcNeAt.str_none x tkx
  |bl y=>
   cases re;simpa [aG] using SeqAt.RcNeAt.str_bool x tkx y
  |int y=>
   obtain⟨tky,rfl⟩:=re;simpa [aG] using SeqAt.RcNeAt.str_int x tkx y tky
  |str y=>
   obtain⟨tky,rfl⟩:=re;simpa [aG,Kj] using SeqAt.RcNeAt.str_str x tkx y tky
  |tup y=>
   obtain⟨py,itsy,rfl,ty,ry⟩:=re;simpa [aG] using SeqAt.RcNeAt.str_tuple x tkx ty hu0
  |lst y=>
   obtain⟨py,itsy,rfl,ty,ry⟩:=re;simpa [aG] using SeqAt.RcNeAt.str_list x tkx ty hu0
  |_=>exact(show False from re).elim
 |tup x=>
  obtain⟨px,itsx,rfl,tx,rx⟩:=rd;cases e with
  |non=>
   cases re;simpa [aG] using SeqAt.RcNeAt.tuple_none tx hu0
  |bl y=>
   cases re;simpa [aG] using SeqAt.RcNeAt.tuple_bool y tx hu0
  |int y=>
   obtain⟨tky,rfl⟩:=re;simpa [aG] using SeqAt.RcNeAt.tuple_int y tky tx hu0
  |str y=>
   obtain⟨tky,rfl⟩:=re;simpa [aG] using SeqAt.RcNeAt.tuple_str y tky tx hu0
  |tup y=>
   obtain⟨py,itsy,rfl,ty,ry⟩:=re;exact zY tx ty rx ry fd fe hu
  |lst y=>
   obtain⟨py,itsy,rfl,ty,ry⟩:=re;simpa [aG] using SeqAt.RcNeAt.tuple_list tx ty hu0
  |_=>exact(show False from re).elim
 |lst x=>
  obtain⟨px,itsx,rfl,tx,rx⟩:=rd;cases e with
  |non=>
   cases re;simpa [aG] using SeqAt.RcNeAt.list_none tx hu0
  |bl y=>
   cases re;simpa [aG] using SeqAt.RcNeAt.list_bool y tx hu0
  |int y=>
   obtain⟨tky,rfl⟩:=re;simpa [aG] using SeqAt.RcNeAt.list_int y tky tx hu0
  |str y=>
   obtain⟨tky,rfl⟩:=re;simpa [aG] using SeqAt.RcNeAt.list_str y tky tx hu0
  |tup y=>
   obtain⟨py,itsy,rfl,ty,ry⟩:=re;simpa [aG] using SeqAt.RcNeAt.list_tuple tx ty hu0
  |lst y=>
   obtain⟨py,itsy,rfl,ty,ry⟩:=re;exact zh tx ty rx ry fd fe hu
  |_=>exact(show False from re).elim
 |_=>exact(show False from rd).elim
section
variable {X:Cx}{B:Bd}{pins:List (Addr×Obj)}{U:L2.St}{H:Hp}{s:Shared}{M:Mem}
mutual
theorem Dh(I:Inv X pins U H s):∀{n:Nat} {d:D} {v:V} {u:Value},bN n d=true->Rp X.K H d v->RelV v u->Hr s.heap d u
 |_,.non,v,u,_,r,q=>by cases r;exact q
 |_,.bl _,v,u,_,r,q=>by cases r;exact q
 |_,.int _,v,u,_,r,q=>by cases r;exact q
 |_,.str _,v,u,_,r,q=>by cases r;exact q
 |n+1,.tup xs,v,u,f,r,q=>by
  obtain⟨p,vs,rfl,t,r⟩:=r;cases q;obtain⟨its,rv,ht,_⟩:=I.tuple t.sq;exact⟨p,its,rfl,ht,dW I (n:=n) f r rv⟩
 |n+1,.lst xs,v,u,f,r,q=>by
  obtain⟨p,vs,rfl,t,r⟩:=r;cases q;obtain⟨its,rv,ht,_⟩:=I.list t.sq;exact⟨p,its,rfl,ht.isList,dW I (n:=n) f r rv⟩
 |0,.tup _,_,_,f,_,_=>by simp[bN]at f
 |0,.lst _,_,_,f,_,_=>by simp[bN]at f
 |_,.ty _,_,_,f,_,_=>by simp[bN]at f
 |_,.ref _,_,_,f,_,_=>by simp[bN]at f
 |_,.mt _,_,_,f,_,_=>by simp[bN]at f
 |_,.ml _,_,_,f,_,_=>by simp[bN]at f
theorem dW(I:Inv X pins U H s):∀{n:Nat} {ds:List D} {vs:List V} {us:List Value},fits n ds=true->Rps X.K H ds vs->Vals vs us->Hrs s.heap ds us
 |_,[],vs,us,_,r,q=>by cases r;cases q;rfl
 |n,d::ds,vs,us,f,r,q=>by
  obtain⟨v,r',rfl,a,b⟩:=r;rw[fits,JU]at f;cases q with
  |cons q1 q2=>exact⟨_,_,rfl,Dh I f.1 a q1,dW I f.2 b q2⟩
end
def dv(M:Mem):D->D
 |.ref a=>match M a with
  |some (.lst xs)=>.lst xs
  |_=>.ref a
 |d=>d
theorem kz(I:Inv X pins U H s){n:Nat}{d:D}{v:V}{u:Value}(rh:RepH X.K H M)(f:bN n (dv M d)=true)(r:Rp X.K H d v)(q:RelV v u):Hr s.heap (dv M d) u:=by
 cases d with
 |ref a=>
  cases r;simp only[dv]at f ⊢
  split at f
  .rename_i xs e
   obtain⟨vs,h1,h2⟩:=rh _ _ e;obtain⟨its,rv,ht,_⟩:=I.list (SqL.of h1);cases q;cases n with
   |zero=>simp[bN]at f
   |succ n=>exact⟨a,its,rfl,ht.isList,dW I (n:=n) f h2 rv⟩
  .simp[bN]at f
 |_=>exact Dh I f r q
def cH:dq:=λx y M Q=>bN 60 (dv M x)=true/\bN 60 (dv M y)=true/\Q (.bl<|aG (dv M x)<|dv M y) M
def gK:dq:=λx y M Q=>bN 60 (dv M x)=true/\bN 60 (dv M y)=true/\Q (.bl<|!aG (dv M x) (dv M y)) M
theorem yR(hu:X.A.units+64<cLine):ce X (compareOp .Eq) (liftR2 X cH):=by
 intro pins s U H x y v u Q I rx ry h;obtain⟨d1,d2,M,QQ,rh,r1,r2,⟨f1,f2,h⟩,up⟩:=h;exact HS (kz I rh f1 r1 rx) (kz I rh f2 r2 ry) f1 f2 (by lia) _ _ _ _ ⟨.bl _,H,I,rfl,up _ M h _ H rh Frm.refl rfl⟩
theorem EK(hu:X.A.units+64<cLine):ce X (compareOp .NotEq) (liftR2 X gK):=by
 intro pins s U H x y v u Q I rx ry h;obtain⟨d1,d2,M,QQ,rh,r1,r2,⟨f1,f2,h⟩,up⟩:=h;exact Bq (kz I rh f1 r1 rx) (kz I rh f2 r2 ry) f1 f2 (by lia) _ _ _ _ ⟨.bl _,H,I,rfl,up _ M h _ H rh Frm.refl rfl⟩
open Classical in
noncomputable def oA(h:Heap)(x:D)(u:Value):Bool:=if q:∃d,Hr h d u then aG q.choose x else false
theorem sy{h:Heap}{x d:D}{u:Value}(r:Hr h d u):oA h x u=aG d x:=by
 have q:∃d,Hr h d u:=⟨d,r⟩;unfold oA;rw[dif_pos q,Ai q.choose_spec r]
theorem g0{h:Heap}{x:D}:∀{ds:List D} {us:List Value},Hrs h ds us->us.any (oA h x)=ds.any λd=>aG d x
 |[],_,r=>by cases r;rfl
 |d::ds,_,r=>by
  obtain⟨v,r',rfl,a,b⟩:=r;rw[Ls,Ls,sy a,g0 b]
theorem fb{A:Around}{n:Nat}{x:D}{w:Value}(rx:Hr s.heap x w)(fx:bN n x=true)(hu:A.units+n<cLine):∀{ds:List D} {us:List Value},Hrs s.heap ds us->fits n ds=true->∀u∈us,MS A s u w (oA s.heap x u)
 |[],_,r,_,u,hu=>by cases r;cases hu
 |d::ds,_,r,f,u,h=>by
  obtain⟨v,r',rfl,a,b⟩:=r;rw[fits,JU]at f;rcases JM.mp h with rfl|h
  .rw[sy a];exact Ee n a rx f.1 fx hu
  .exact fb rx fx hu b f.2 u h
def iB(M:Mem)(x y:D):Option Bool:=match aH M y with
 |some xs=>if bN 60 (dv M x)=true/\fits 60 xs=true then some (xs.any λd=>aG d (dv M x)) else none
 |none=>match y with
  |.ref a=>match xu M a x with
   |some o=>some o.isSome
   |none=>none
  |_=>none
def qy:dq:=λx y M Q=>match iB M x y with
 |some k=>Q (.bl k) M
 |none=>False
def fJ:dq:=λx y M Q=>match iB M x y with
 |some k=>Q (.bl<|!k) M
 |none=>False
theorem yw(hu:X.A.units+64<cLine):ce X (compareOp .In) (liftR2 X qy):=by
 intro pins s U H x y v u Q I rx ry h;obtain⟨d1,d2,M,QQ,rh,r1,r2,h,up⟩:=h;unfold qy at h
 split at h
 .rename_i k e
  have fin:=up _ M h _ H rh Frm.refl rfl;unfold iB at e
  split at e
  .rename_i xs ex
   split at e
   .rename_i f
    cases e;obtain⟨p,vs,rfl,hq,r⟩:=gJ rh r2 ex;cases ry;have hx:=kz I rh f.1 r1 rx;rcases hq with hq|hq
    .obtain⟨its,rv,pl,_⟩:=I.list hq
     have hs:=dW I f.2 r rv;refine SeqAt.in_listAt (oA s.heap<|dv M d1) pl.isList (λw hw=>fb hx f.1 (by show X.A.units+1+60<cLine;lia) hs f.2 w (by simpa using hw)) ⟨.bl _,H,I,rfl,?_⟩
     rw[show its.toArray.any (oA s.heap<|dv M d1)=its.any (oA s.heap<|dv M d1) by simp,g0 hs]
     exact fin
    .obtain⟨its,rv,pl,_⟩:=I.tuple hq
     have hs:=dW I f.2 r rv;refine SeqAt.in_tupleAt (oA s.heap<|dv M d1) pl (λw hw=>fb hx f.1 (by show X.A.units+1+60<cLine;lia) hs f.2 w (by simpa using hw)) ⟨.bl _,H,I,rfl,?_⟩
     rw[show its.toArray.any (oA s.heap<|dv M d1)=its.any (oA s.heap<|dv M d1) by simp,g0 hs]
     exact fin
   .cases e
  .split at e
   .split at e
    .rename_i o eo
     cases e;cases r2;cases ry;rcases m_ rh r1 eo with⟨rfl,g⟩|⟨d,w,rfl,g,_⟩
     .exact Jj (by lia) I g rx λs' I'=>⟨.bl _,H,I',rfl,fin⟩
     .exact Jj (by lia) I g rx λs' I'=>⟨.bl _,H,I',rfl,fin⟩
    .cases e
   .cases e
 .exact h.elim
theorem xy(hu:X.A.units+64<cLine):ce X (compareOp .NotIn) (liftR2 X fJ):=by
 intro pins s U H x y v u Q I rx ry h;obtain⟨d1,d2,M,QQ,rh,r1,r2,h,up⟩:=h;unfold fJ at h
 split at h
 .rename_i k e
  have fin:=up _ M h _ H rh Frm.refl rfl;unfold iB at e
  split at e
  .rename_i xs ex
   split at e
   .rename_i f
    cases e;obtain⟨p,vs,rfl,hq,r⟩:=gJ rh r2 ex;cases ry;have hx:=kz I rh f.1 r1 rx;rcases hq with hq|hq
    .obtain⟨its,rv,pl,_⟩:=I.list hq
     have hs:=dW I f.2 r rv;refine SeqAt.notIn_listAt (oA s.heap<|dv M d1) pl.isList (λw hw=>fb hx f.1 (by show X.A.units+1+60<cLine;lia) hs f.2 w (by simpa using hw)) ⟨.bl _,H,I,rfl,?_⟩
     rw[show its.toArray.any (oA s.heap<|dv M d1)=its.any (oA s.heap<|dv M d1) by simp,g0 hs]
     exact fin
    .obtain⟨its,rv,pl,_⟩:=I.tuple hq
     have hs:=dW I f.2 r rv;refine SeqAt.notIn_tupleAt (oA s.heap<|dv M d1) pl (λw hw=>fb hx f.1 (by show X.A.units+1+60<cLine;lia) hs f.2 w (by simpa using hw)) ⟨.bl _,H,I,rfl,?_⟩
     rw[show its.toArray.any (oA s.heap<|dv M d1)=its.any (oA s.heap<|dv M d1) by simp,g0 hs]
     exact fin
   .cases e
  .split at e
   .split at e
    .rename_i o eo
     cases e;cases r2;cases ry;rcases m_ rh r1 eo with⟨rfl,g⟩|⟨d,w,rfl,g,_⟩
     .exact uf (by lia) I g rx λs' I'=>⟨.bl _,H,I',rfl,fin⟩
     .exact uf (by lia) I g rx λs' I'=>⟨.bl _,H,I',rfl,fin⟩
    .cases e
   .cases e
 .exact h.elim
end
structure DEnds where
 nx:Dl->Mem->Prop
 rt:DK
 bk:Dl->Mem->Prop:=λ_ _=>False
 ct:Dl->Mem->Prop:=λ_ _=>False
abbrev ar:=DEnds->Dl->Mem->Prop
def UpN(X:Cx)(B:Bd)(M:Mem)(H:Hp)(QQ:Dl->Mem->Prop)(Q:L2.St->Hp->Prop):Prop:=∀Y M',QQ Y M'->∀U H',Frm M H M' H'->SR X B Y M' U H'->Q U H'
theorem UpN.go{X:Cx}{B:Bd}{M M1:Mem}{H H1:Hp}{QQ:Dl->Mem->Prop}{Q:L2.St->Hp->Prop}(u:UpN X B M H QQ Q)(i:Frm M H M1 H1):UpN X B M1 H1 QQ Q:=λY M q U H' a b=>u Y M q U H' (i.trans a) b
structure UpD(X:Cx)(B:Bd)(M:Mem)(H:Hp)(DD:DEnds)(D:Ends):Prop where
 nx:UpN X B M H DD.nx D.nx
 rt:Up X.K M H DD.rt D.rt
 bk:UpN X B M H DD.bk D.bk
 ct:UpN X B M H DD.ct D.ct
theorem UpD.go{X:Cx}{B:Bd}{M M1:Mem}{H H1:Hp}{DD:DEnds}{D:Ends}(u:UpD X B M H DD D)(i:Frm M H M1 H1):UpD X B M1 H1 DD D:=⟨u.nx.go i,u.rt.go i,u.bk.go i,u.ct.go i⟩
inductive liftS(X:Cx)(B:Bd)(T:ar)(D:Ends)(U:St)(H:Hp):Prop
 |mk (Y:Dl) (M:Mem) (DD:DEnds) (s:SR X B Y M U H) (h:T DD Y M) (u:UpD X B M H DD D):liftS X B T D U H
def DS(X:Cx)(B:Bd)(st:Stmt)(T:ar):Prop:=PS X st (liftS X B T)
def y3(X:Cx)(B:Bd)(st:List Stmt)(T:ar):Prop:=rK X st (liftS X B T)
section
variable {X:Cx}{B:Bd}{st:Stmt}{rest:List Stmt}{t u:ar}{e:Expr}{te:bg}{pos:Pos}
def aC:ar:=λD Y M=>D.nx Y M
def ak(t u:ar):ar:=λD Y M=>t { D with nx:=u D } Y M
theorem Bx:y3 X B [] aC:=oU C7 λD U H ⟨Y,M,DD,s,h,up⟩=>up.nx Y M h U H Frm.refl s
theorem eZ(h1:DS X B st t)(h2:y3 X B rest u):y3 X B (st::rest) (ak t u):=by
 refine oU (yv h1 h2) ?_
 rintro D U H ⟨Y,M,DD,s,h,up⟩
 exact⟨Y,M,{ DD with nx:=u DD },s,h,⟨λδ' M' q σ' H' i s'=>⟨δ',M',DD,s',q,up.go i⟩,up.rt,up.bk,up.ct⟩⟩
theorem g7(h1:DS X B st t):y3 X B [st] t:=uS h1
def bD(te:bg):ar:=λD Y M=>te Y M λ_ M1=>D.nx Y M1
theorem Bt(he:DE X B e te)(hs:swapsWith e none pos.line X.env=pure false:=by rfl):DS X B (.Expr e pos) (bD te):=by
 refine ck (AO he hs) ?_
 rintro D U H ⟨Y,M,DD,s,h,up⟩
 exact⟨Y,M,_,s,h,λd M' q v H' rh i r=>up.nx Y M' q U H' i (s.go rh i)⟩
def ax(te:bg):ar:=λD Y M=>te Y M D.rt
theorem EF(he:DE X B e te):DS X B (.Return (some e) pos) (ax te):=by
 refine ck (Hm he) ?_
 rintro D U H ⟨Y,M,DD,s,h,up⟩
 exact⟨Y,M,_,s,h,up.rt⟩
def aE(c:eG)(t u:ar):ar:=λD Y M=>c Y M λb M1=>if b=true then t D Y M1 else u D Y M1
theorem Je{c:Expr}{a b:List Stmt}{tc:eG}(hc:DT X B c tc)(ha:y3 X B a t)(hb:y3 X B b u):DS X B (.If c a b pos) (aE tc t u):=by
 refine ck (ID hc ha hb) ?_
 rintro D U H ⟨Y,M,DD,s,h,up⟩
 refine⟨Y,M,_,s,h,λc M' q H' rh i=>?_⟩;cases c with
 |true=>rw[if_pos rfl]at q ⊢;exact⟨Y,M',DD,s.go rh i,q,up.go i⟩
 |false=>rw[if_neg JY]at q ⊢;exact⟨Y,M',DD,s.go rh i,q,up.go i⟩
abbrev jn:=D->Dl->Mem->(Dl->Mem->Prop)->Prop
abbrev oJ:=List D->Dl->Mem->(Dl->Mem->Prop)->Prop
inductive liftG(X:Cx)(B:Bd)(g:jn)(v:V)(U:St)(H:Hp)(Q:St->Hp->Prop):Prop
 |mk (d:L3.D) (Y:Dl) (M:Mem) (QQ:Dl->Mem->Prop) (s:SR X B Y M U H) (r:Rp X.K H d v) (h:g d Y M QQ) (u:UpN X B M H QQ Q):liftG X B g v U H Q
inductive liftGs(X:Cx)(B:Bd)(g:oJ)(vs:List V)(U:St)(H:Hp)(Q:St->Hp->Prop):Prop
 |mk (ds:List L3.D) (Y:Dl) (M:Mem) (QQ:Dl->Mem->Prop) (s:SR X B Y M U H) (r:Rps X.K H ds vs) (h:g ds Y M QQ) (u:UpN X B M H QQ Q):liftGs X B g vs U H Q
def DG(X:Cx)(B:Bd)(tg:Expr)(g:jn):Prop:=PG X tg (liftG X B g)
def DGs(X:Cx)(B:Bd)(tgs:List Expr)(g:oJ):Prop:=EV X tgs (liftGs X B g)
theorem je{tg:Expr}{t t':TG}(h:PG X tg t)(w:∀v U H Q,t' v U H Q->t v U H Q):PG X tg t':=λpins s U H v u Q I r q=>h pins s U H v u Q I r (w v U H Q q)
theorem pj{tg:List Expr}{t t':Dx}(h:EV X tg t)(w:∀v U H Q,t' v U H Q->t v U H Q):EV X tg t':=λpins s U H v u Q I r q=>h pins s U H v u Q I r (w v U H Q q)
theorem SR.set{Y:Dl}{M:Mem}{U:L2.St}{H:Hp}{i:Nat}{d:D}{v:V}(s:SR X B Y M U H)(r:Rp X.K H d v):SR X B (Y.set i<|some d) M (U.set i<|some v) H:=⟨s.i0,s.rh,s.rs.set r⟩
def af(i:Nat):jn:=λd Y M Q=>Q (Y.set i<|some d) M
theorem CU{i:Nat}{x:Str}(hN:X.N.Nodup)(hi:X.N[i]?=some x)(hx:wa X.env.scope x)(hf:X.fn x=true\/X.env.scope.names.lookup x=some .local:=by first|exact .inl rfl|exact .inr rfl|assumption):DG X B (.Name x pos) (af i):=by
 refine je (D7 hN hi hx hf) ?_
 rintro v U H Q ⟨d,Y,M,QQ,s,r,h,u⟩
 exact u _ M h _ H Frm.refl (s.set r)
def bY:oJ:=λds Y M Q=>match ds with
 |[]=>Q Y M
 |_=>False
def aK(t:jn)(u:oJ):oJ:=λds Y M Q=>match ds with
 |d::r=>t d Y M λδ' M'=>u r δ' M' Q
 |[]=>False
theorem C0:DGs X B [] bY:=by
 refine pj AX ?_
 rintro v U H Q ⟨ds,Y,M,QQ,s,r,h,u⟩
 cases ds with
 |nil=>exact⟨r,u Y M h U H Frm.refl s⟩
 |cons _ _=>exact(show False from h).elim
theorem yF{e:Expr}{es:List Expr}{t:jn}{u:oJ}(h1:DG X B e t)(h2:DGs X B es u)
  (hs:(assignEach (e::es) X.env).map (·.2)=assign e X.env::(assignEach es X.env).map (·.2):=by rfl):DGs X B (e::es) (aK t u):=by
 refine pj (yl h1 h2 hs) ?_
 rintro v U H Q ⟨ds,Y,M,QQ,s,r,h,up⟩
 cases ds with
 |nil=>exact(show False from h).elim
 |cons d ds=>
  obtain⟨v1,vr,rfl,r1,r2⟩:=r;refine⟨v1,vr,rfl,d,Y,M,_,s,r1,h,λδ' M' q σ' H' i s'=>?_⟩;exact⟨ds,δ',M',QQ,s',r2.mf s.rh i,q,up.go i⟩
def bX(n:Nat)(t:oJ):jn:=λd Y M Q=>match d with
 |.tup xs=>xs.length=n/\t xs Y M Q
 |_=>False
theorem GJ{es:List Expr}{k:Nat}{t:oJ}{n:Nat}(hc:X.calm=true)(h:DGs X B es t)
  (hn:(assignEach es X.env).length=n:=by rfl) (hst:(assignEach es X.env).findIdx? (·.1)=none:=by rfl):DG X B (.Tuple es k pos) (bX n t):=by
 refine je (GM hc h hn hst) ?_
 rintro v U H Q ⟨d,Y,M,QQ,s,r,h,up⟩
 cases d with
 |tup xs=>
  obtain⟨p,vs,rfl,ht,r⟩:=r;exact⟨p,vs,rfl,ht.sq,by rw[<- r.length];exact h.1,xs,Y,M,QQ,s,r,h.2,up⟩
 |_=>exact(show False from h).elim
def ap(te:bg)(g:jn):ar:=λD Y M=>te Y M λx M1=>g x Y M1 D.nx
theorem Fn{tg e:Expr}{te:bg}{g:jn}(he:DE X B e te)(hg:DG X B tg g)(hs:swapsWithSole [tg] e pos.line X.env=pure false:=by rfl)(hw:swappedStores [tg] e X.env=pure none:=by rfl)
  (h1:(assignEach [tg] X.env).map (·.2)=[assign tg X.env]:=by rfl):DS X B (.Assign [tg] e pos) (ap te g):=by
 refine ck (Fg he hg hs hw h1) ?_
 rintro D U H ⟨Y,M,DD,s,h,up⟩
 refine⟨Y,M,_,s,h,λd M' q v H' rh i r=>?_⟩;exact⟨d,Y,M',DD.nx,s.go rh i,r,q,up.nx.go i⟩
theorem GC{i:Nat}{x:Str}{e:Expr}{te:bg}{pos':Pos}(hN:X.N.Nodup)(hi:X.N[i]?=some x)(hx:wa X.env.scope x)(he:DE X B e te)(hs:swapsWith e (some<|.Name x pos') pos.line X.env=pure false:=by rfl)(hf:X.fn x=true\/X.env.scope.names.lookup x=some .local:=by first|exact .inl rfl|exact .inr rfl|assumption):
  DS X B (.Assign [.Name x pos'] e pos) (ap te<|af i):=by
 refine ck (zK hN hi hx he hs hf) ?_
 rintro D U H ⟨Y,M,DD,s,h,up⟩
 refine⟨Y,M,_,s,h,λd M' q v H' rh i r=>?_⟩;exact up.nx _ M' q _ H' i ((s.go rh i).set r)
def zW(i:Nat)(te:bg)(r:dq):ar:=λD Y M=>match Y[i]? with
 |some (some x)=>te Y M λy M1=>r x y M1 λz M2=>D.nx (Y.set i<|some z) M2
 |_=>False
theorem FS{i:Nat}{x:Str}{e:Expr}{te:bg}{op:Operator}{r:dq}{pos':Pos}(hN:X.N.Nodup)(hi:X.N[i]?=some x)(hx:wa X.env.scope x)(he:DE X B e te)(ho:Hn X op (liftR2 X r))(hf:X.fn x=true\/X.env.scope.names.lookup x=some .local:=by first|exact .inl rfl|exact .inr rfl|assumption):
  DS X B (.AugAssign (.Name x pos') op e pos) (zW i te r):=by
 refine ck (Gr hN hi hx he ho hf) ?_
 rintro D U H ⟨Y,M,DD,s,h,up⟩
 unfold zW at h
 split at h
 .rename_i x' ex
  obtain⟨v,hv,rv⟩:=s.rs.get i x' ex;refine⟨v,hv,Y,M,_,s,h,λy M1 h1 w H1 rh1 i1 r1=>?_⟩;refine⟨x',y,M1,_,rh1,rv.mf s.rh i1,r1,h1,λz M2 h2 w2 H2 rh2 i2 r2=>?_⟩;exact up.nx _ M2 h2 _ H2 (i1.trans i2) ((s.go rh2<|i1.trans i2).set r2)
 .exact h.elim
theorem Jo{op:Operator}{g:Int->Int->Int}(h:Hn X op (ipI g)):Hn X op (liftR2 X (vw λi j=>.int (g i j))):=by
 intro pins s U H x y v u Q I rx ry hq;obtain⟨d1,d2,M,QQ,rh,r1,r2,hq,up⟩:=hq;unfold vw at hq
 split at hq
 .cases r1;cases r2
  exact h pins s U H _ _ v u Q I rx ry ⟨_,_,rfl,rfl,up _ M hq _ H rh Frm.refl rfl⟩
 .exact hq.elim
abbrev yX:dq:=vw λi j=>.int (i+j)
theorem Cr:Hn X .Add (liftR2 X yX):=Jo Gj
def CF(o i v:D)(M:Mem)(Q:Mem->Prop):Prop:=match o with
 |.ref a=>match M a,i with
  |some (.lst xs),.int k=>match uY xs.length k with
   |some j=>Q (M.upd a<|.lst<|xs.set j v)
   |none=>False
  |some (.dK kvs),y=>match pA y with
   |some k=>kvs.length<sizeLine/\Q (M.upd a<|.dK<|lm kvs k v)
   |none=>False
  |some (.dT kvs),y=>match At y with
   |some k=>kvs.length<sizeLine/\Q (M.upd a<|.dT<|lm kvs k v)
   |none=>False
  |_,_=>False
 |_=>False
inductive liftSet(X:Cx)(o i v:V)(H:Hp)(Q:Hp->Prop):Prop
 |mk (d1 d2 d3:L3.D) (M:Mem) (QQ:Mem->Prop) (rh:RepH X.K H M) (r1:Rp X.K H d1 o) (r2:Rp X.K H d2 i) (r3:Rp X.K H d3 v) (h:CF d1 d2 d3 M QQ) (u:∀M',QQ M'->∀H',RepH X.K H' M'->Frm M H M' H'->Q H'):liftSet X o i v H Q
theorem AN(hu:X.A.units+1<cLine):GP X (liftSet X):=by
 intro pins s U H o i v ov iv u Q I ro ri rv h;obtain⟨d1,d2,d3,M,QQ,rh,r1,r2,r3,h,up⟩:=h;unfold CF at h
 split at h
 .rename_i a
  cases r1;cases ro
  split at h
  .rename_i xs k hM
   cases r2;obtain⟨vs,h1,h2⟩:=rh _ _ hM
   split at h
   .rename_i j ej
    refine yN pins s U H (.ref a) _ v _ iv u Q I rfl ri rv ⟨a,vs,k,j,rfl,rfl,h1,by rw[<- h2.length];exact ej,?_⟩
    have i2:Imm H (upd H a<|.lst<|vs.set j v):=Imm.upd (by rw[h1];trivial)
    exact up _ h _ (rh.put (by rw[h1];trivial) ⟨_,upd_same,(h2.set r3 j).mono i2⟩) (Frm.put<|.inr ⟨_,hM⟩)
   .exact h.elim
  .rename_i kvs hM
   obtain⟨ws,h1,h2⟩:=rh _ _ hM
   split at h
   .rename_i k ek
    have ev:=nv r2 ek;subst ev;have i2:Imm H (upd H a<|.dK<|dy ws k v):=Imm.upd (by rw[h1];trivial)
    refine lJ hu I (DPut.k h1<|by rw[<- h2.length];exact h.1) ri rv λs' I'=>⟨_,I',?_⟩
    exact up _ h.2 _ (rh.put (by rw[h1];trivial) ⟨_,upd_same,(h2.put k r3).mono i2⟩) (Frm.put<|.inr ⟨_,hM⟩)
   .exact h.elim
  .rename_i kvs hM
   obtain⟨ws,h1,h2⟩:=rh _ _ hM
   split at h
   .rename_i k ek
    obtain⟨b,rfl,hb⟩:=kE r2 ek;have i2:Imm H (upd H a<|.dT<|dy ws k v):=Imm.upd (by rw[h1];trivial)
    refine lJ hu I (DPut.t h1 hb<|by rw[<- h2.length];exact h.1) ri rv λs' I'=>⟨_,I',?_⟩
    exact up _ h.2 _ (rh.put (by rw[h1];trivial) ⟨_,upd_same,(h2.put k r3).mono i2⟩) (Frm.put<|.inr ⟨_,hM⟩)
   .exact h.elim
  .exact h.elim
 .exact h.elim
def iF(to ti:bg):jn:=λv Y M Q=>to Y M λo M1=>ti Y M1 λi M2=>CF o i v M2 λM3=>Q Y M3
theorem Hi{o i:Expr}{to ti:bg}(hu:X.A.units+1<cLine)(ho:DE X B o to)(hi:DE X B i ti)
  (ha:∀v,assign (.Subscript o i pos) X.env v=(do
   let ov <- holding [v] (eval o X.env)
   let iv <- holding [v,ov] (eval i X.env)
   standAt pos
   holding [v,ov,iv] (setItem ov iv v)
   release [v,ov,iv] []):=by intro _;rfl):DG X B (.Subscript o i pos) (iF to ti):=by
 refine je (Fl ho hi (AN hu) ha) ?_
 rintro v U H Q ⟨d,Y,M,QQ,s,r,h,up⟩
 refine⟨Y,M,_,s,h,λx M1 h1 v1 H1 rh1 i1 r1=>?_⟩;refine⟨Y,M1,_,s.go rh1 i1,h1,λy M2 h2 v2 H2 rh2 i2 r2=>?_⟩;exact⟨x,y,d,M2,_,rh2,r1.mf rh1 i2,r2,r.mf s.rh (i1.trans i2),h2,λM3 h3 H3 rh3 i3=>up Y M3 h3 U H3 ((i1.trans i2).trans i3) (s.go rh3<|(i1.trans i2).trans i3)⟩
end
section
variable {X:Cx}{B:Bd}{o e value:Expr}{f:Str}{pos pos' tpos:Pos}{ta tv te:bg}{C:Addr}
def lM(f:Str)(v:D):List (Str×D)->List (Str×D)
 |[]=>[(f,v)]
 |(g,w)::r=>if g=f then (g,v)::r else (g,w)::lM f v r
theorem Rkv.lookup{K:JF}{H:Hp}{fs:List (Str×D)}{ws:List (Str×V)}(h:Rkv K H fs ws)(f:Str):(fs.lookup f=none/\ws.lookup f=none)\/∃d v,fs.lookup f=some d/\ws.lookup f=some v/\Rp K H d v:=by
 induction h with
 |nil=>exact .inl ⟨rfl,rfl⟩
 |@cons p q ps qs r t ih=>
  obtain⟨k1,d⟩:=p;obtain⟨k2,v⟩:=q;obtain⟨e,r⟩:=r;dsimp only at e r;subst e;rw[NT,NT];cases hk:f==k1 with
  |true=>exact .inr ⟨d,v,rfl,rfl,r⟩
  |false=>exact ih
theorem B9(f:Str)(v:V):∀ws:List (Str×V),cZ f v ws=(match ws with|[]=>[(f,v)]|(g,w)::r=>if g=f then (g,v)::r else (g,w)::cZ f v r)
 |[]=>rfl
 |(g,w)::r=>by rw[cZ]
theorem qu{K:JF}{H:Hp}{f:Str}{d:D}{v:V}(rd:Rp K H d v):∀{fs:List (Str×D)} {ws:List (Str×V)},Rkv K H fs ws->Rkv K H (lM f d fs) (L2.cZ f v ws)
 |_,_,.nil=>.cons ⟨rfl,rd⟩ .nil
 |(k1,d1)::fs,(k2,v1)::ws,.cons r t=>by
  obtain⟨e,r⟩:=r;dsimp only at e r;subst e;rw[B9];show Rkv K H (if k1=f then (k1,d)::fs else (k1,d1)::lM f d fs) (if k1=f then (k1,v)::ws else (k1,v1)::L2.cZ f v ws)
  split
  .exact .cons ⟨rfl,rd⟩ t
  .exact .cons ⟨rfl,r⟩ (qu rd t)
def lw(C:Addr)(ta:bg)(f:Str):bg:=λY M Q=>ta Y M λx M1=>match x with
 |.ref a=>match M1 a with
  |some (.ins C' fs)=>C'=C/\match fs.lookup f with
   |some d=>Q d M1
   |none=>False
  |_=>False
 |_=>False
theorem Gu(c:Cls X.K C)(n:NoAttr X.K C f)(he:DE X B e ta)(hb:attributeBase e f X.env (eval e X.env)=eval e X.env:=by rfl):DE X B (.Attribute e f pos) (lw C ta f):=by
 refine aZ (GA he hb) ?_
 rintro U H Q ⟨Y,M,QQ,s,h,u⟩
 refine⟨Y,M,_,s,h,λx M1 h1 v1 H1 rh1 i1 r1=>?_⟩
 split at h1
 .rename_i a
  cases r1
  split at h1
  .rename_i C' fs hM
   obtain⟨rfl,h1⟩:=h1;obtain⟨dx,ws,e1,e2⟩:=rh1 _ _ hM
   split at h1
   .rename_i d ed
    rcases e2.lookup f with⟨z,_⟩|⟨d',v,z1,z2,z3⟩
    .rw[ed]at z;cases z
    .rw[ed]at z1;cases z1
     exact⟨a,_,dx,ws,v,rfl,e1,c,n,z2,u _ M1 h1 _ H1 rh1 i1 z3⟩
   .exact h1.elim
  .exact h1.elim
 .exact h1.elim
def qd(C:Addr)(ta tv:bg)(f:Str):ar:=λD Y M=>tv Y M λy M1=>ta Y M1 λx M2=>match x with
 |.ref a=>match M2 a with
  |some (.ins C' fs)=>C'=C/\fs.length<1000/\D.nx Y (M2.upd a<|.ins C<|lM f y fs)
  |_=>False
 |_=>False
theorem GU(c:Cls X.K C)(n:NoAttr X.K C f)(ha:DE X B o ta)(hv:DE X B value tv)(hs:swapsWith value (some<|.Attribute o f pos') pos.line X.env=pure false:=by rfl):DS X B (.Assign [.Attribute o f pos'] value pos) (qd C ta tv f):=by
 refine ck (FH ha hv hs) ?_
 rintro D U H ⟨Y,M,DD,s,h,up⟩
 refine⟨Y,M,_,s,h,λy M1 h1 v1 H1 rh1 i1 r1=>?_⟩;refine⟨Y,M1,_,s.go rh1 i1,h1,λx M2 h2 v2 H2 rh2 i2 r2=>?_⟩
 split at h2
 .rename_i a
  cases r2
  split at h2
  .rename_i C' fs hM
   obtain⟨rfl,hl,h2⟩:=h2;obtain⟨dx,ws,e1,e2⟩:=rh2 _ _ hM;have i3:Frm M2 H2 (M2.upd a<|.ins C'<|lM f y fs) (upd H2 a<|.ins C' dx<|L2.cZ f v1 ws):=Frm.put (.inr ⟨_,hM⟩);refine⟨a,C',dx,ws,rfl,e1,c,n,by rw[<- e2.length];exact hl,up.nx _ _ h2 U _ ((i1.trans i2).trans i3)<|s.go (rh2.put (by rw[e1];trivial) ⟨dx,_,upd_same,?_⟩)<|(i1.trans i2).trans i3⟩
   exact(qu (r1.mf rh1 i2) e2).mono (i3.imm rh2)
  .exact h2.elim
 .exact h2.elim
structure BxW(c:eG)(tb:ar)(D:DEnds):Type
structure BxF(g:jn)(tb:ar)(D:DEnds)(ok:Mem->Prop):Type
def eK(c:eG)(tb:ar)(D:DEnds)(bx:BxW c tb D):Nat->Dl->Mem->Prop
 |0,_,_=>False
 |n+1,Y,M=>c Y M λb M1=>if b=true then tb { D with nx:=eK c tb D bx n,ct:=eK c tb D bx n,bk:=D.nx } Y M1 else D.nx Y M1
def nX(c:eG)(tb:ar):ar:=λD Y M=>∃n,eK c tb D ⟨⟩ n Y M
theorem zi{c:Expr}{body:List Stmt}{tc:eG}{tb:ar}(hp:PassesOwn (model X.prog X.w) X.A X.env X.xe)(hc:DT X B c tc)(hb:y3 X B body tb):DS X B (.While c body [] pos) (nX tc tb):=by
 refine ck (Av hp hc hb) ?_
 rintro D U H ⟨Y,M,DD,s,⟨n,h⟩,up⟩
 refine⟨λm σ' H'=>∃δ' M',SR X B δ' M' σ' H'/\Frm M H M' H'/\eK tc tb DD ⟨⟩ m δ' M',⟨n,Y,M,s,Frm.refl,h⟩,?_⟩
 rintro m σ1 H1 ⟨δ1,M1,s1,i1,h1⟩
 cases m with
 |zero=>exact(show False from h1).elim
 |succ m=>
  refine⟨δ1,M1,_,s1,h1,λb M2 q H2 rh2 i2=>?_⟩;cases b with
  |false=>rw[if_neg JY]at q ⊢;exact up.nx _ _ q σ1 H2 (i1.trans i2) (s1.go rh2 i2)
  |true=>
   rw[if_pos rfl]at q ⊢;refine⟨λσ' H'=>∃δ' M',SR X B δ' M' σ' H'/\Frm M H M' H'/\eK tc tb DD ⟨⟩ m δ' M',λσ' H' z=>⟨m,MT _,z⟩,?_⟩;refine⟨δ1,M2,_,s1.go rh2 i2,q,⟨?_,(up.go<|i1.trans i2).rt,(up.go<|i1.trans i2).nx,?_⟩⟩
   .exact λδ3 M3 q3 σ3 H3 i3 s3=>⟨δ3,M3,s3,(i1.trans i2).trans i3,q3⟩
   .exact λδ3 M3 q3 σ3 H3 i3 s3=>⟨δ3,M3,s3,(i1.trans i2).trans i3,q3⟩
structure DIt where
 items:List D
 src:List (Addr×List D)
def DIt.ok(I:DIt)(M:Mem):Prop:=∀p∈I.src,M p.1=some (.lst p.2)
abbrev xl:=Dl->Mem->(DIt->Mem->Prop)->Prop
def F1(K:JF)(H0:Hp)(it:DIt)(J:It):Prop:=∀(i:Nat) (H:Hp) (M:Mem),Imm H0 H->RepH K H M->it.ok M->
 (∀d,it.items[i]?=some d->J.go i H/\∀x H',J.yld i H x H'->Frm M H M H'/\RepH K H' M/\Rp K H' d x)/\(it.items.length<=i->J.stop i H)
inductive liftI(X:Cx)(B:Bd)(T:xl)(U:St)(H:Hp)(R:It->Hp->Prop):Prop
 |mk (Y:Dl) (M:Mem) (RR:DIt->Mem->Prop) (s:SR X B Y M U H) (h:T Y M RR) (u:∀it M',RR it M'->∀J H',RepH X.K H' M'->Frm M H M' H'->F1 X.K H' it J->R J H'):liftI X B T U H R
def DI(X:Cx)(B:Bd)(tg iter:Expr)(T:xl):Prop:=PI X tg iter (liftI X B T)
theorem fc{tg iter:Expr}{t t':TI}(h:PI X tg iter t)(w:∀U H Q,t' U H Q->t U H Q):PI X tg iter t':=λpins s U H Q I q=>h pins s U H Q I (w U H Q q)
def qX(g:jn)(tb:ar)(DD:DEnds)(ok:Mem->Prop)(b:BxF g tb DD ok):List D->Dl->Mem->Prop
 |[],Y,M=>ok M/\DD.nx Y M
 |x::xs,Y,M=>ok M/\g x Y M λδ2 M2=>tb { DD with nx:=qX g tb DD ok b xs,ct:=qX g tb DD ok b xs,bk:=DD.nx } δ2 M2
def bW(wi:xl)(g:jn)(tb:ar):ar:=λD Y M=>wi Y M λit M1=>qX g tb D it.ok ⟨⟩ it.items Y M1
theorem BK{g:jn}{tb:ar}{DD:DEnds}{ok:Mem->Prop}{b:BxF g tb DD ok}{xs:List D}{Y:Dl}{M:Mem}(h:qX g tb DD ok b xs Y M):ok M:=by
 cases xs with
 |nil=>exact h.1
 |cons _ _=>exact h.1
theorem FJ{tg iter:Expr}{body:List Stmt}{wi:xl}{g:jn}{tb:ar}(hp:PassesOwn (model X.prog X.w) X.A X.env X.xe)(hc:X.calm=true)(hi:DI X B tg iter wi)(hg:DG X B tg g)(hb:y3 X B body tb)
  (hs:∀x,foldedSetIterable iter X.env x=pure x:=by intro _;rfl):DS X B (.For tg iter body [] pos) (bW wi g tb):=by
 refine ck (FD hp hc hi hg hb hs) ?_
 rintro D U H ⟨Y,M,DD,s,h,up⟩
 refine⟨Y,M,_,s,h,λit M1 h1 J H1 rh1 i1 hJ=>?_⟩;refine⟨λi m σ' H'=>m=it.items.length-i/\i<=it.items.length/\∃δ' M',SR X B δ' M' σ' H'/\Frm M1 H1 M' H'/\qX g tb DD it.ok ⟨⟩ (it.items.drop i) δ' M',⟨_,rfl,KR _,Y,M1,s.go rh1 i1,Frm.refl,h1⟩,?_⟩
 rintro i m σ2 H2 ⟨rfl,hi',δ2,M2,s2,i2,h2⟩
 have hok:=BK h2;obtain⟨hgo,hstop⟩:=hJ i H2 M2 (i2.imm rh1) s2.rh hok
 by_cases hlt:i<it.items.length
 .rw[L8 hlt]at h2
  obtain⟨go,hy⟩:=hgo _ (JG hlt);refine .inr ⟨go,λσ' H'=>∃δ' M',SR X B δ' M' σ' H'/\Frm M1 H1 M' H'/\qX g tb DD it.ok ⟨⟩ (it.items.drop (i+1)) δ' M',λσ' H' z=>⟨it.items.length-(i+1),by omega,rfl,hlt,z⟩,λx H3 hx=>?_⟩
  obtain⟨i3,rh3,rx⟩:=hy x H3 hx;refine⟨_,δ2,M2,_,s2.go rh3 i3,rx,h2.2,λδ4 M4 h4 σ4 H4 i4 s4=>?_⟩;have i14:=(i2.trans i3).trans i4;refine⟨δ4,M4,_,s4,h4,⟨?_,(up.go<|i1.trans i14).rt,(up.go<|i1.trans i14).nx,?_⟩⟩
  .exact λδ5 M5 q5 σ5 H5 i5 s5=>⟨δ5,M5,s5,i14.trans i5,q5⟩
  .exact λδ5 M5 q5 σ5 H5 i5 s5=>⟨δ5,M5,s5,i14.trans i5,q5⟩
 .rw[OM (by omega)]at h2
  exact .inl ⟨hstop (by omega),up.nx _ _ h2.2 σ2 H2 (i1.trans i2) s2⟩
end
end L3
namespace L2
open PySem PySem.Spec PyProof.Rows
section
variable {X:Cx}{B:Bd}{tg:Expr}
def HW(K:JF)(tl:TE):TI:=λU H R=>tl U H λx H1=>∃a b xs,x=.ref a/\fW K b H1 a xs/\R (if b=true then Itl K a else Itt K a) H1
theorem CA{l:Expr}{tl:TE}(hl:PE X l tl):PI X tg l (HW X.K tl):=by
 intro pins s U H R I h;refine bG (hl pins s U H _ I h) λv s1 ⟨x,H1,I1,r1,q1⟩=>?_;obtain⟨a,b,xs,e,hq,q⟩:=q1;subst e;cases r1;cases b with
 |true=>
  obtain⟨its,rv,p,hz⟩:=I1.list (show SqL X.K H1 a xs from hq);refine wpAny_pyIter_list p.isList ?_;refine⟨s1.heap.objs.size,[s1.heap.objs.size],_,_,H1,rfl,I1.kept (t':=s1.toks) λb o e=>JB _ e,wS a _,⟨_,JH _ rfl,rfl,rfl⟩,λb hb=>?_,q⟩;have e:b=s1.heap.objs.size:=by simpa using hb
  subst e;exact I1.fpOk (JE _) (I1.hok.fresh<|JE _)
 |false=>
  obtain⟨its,rv,p,hz⟩:=I1.tuple (show gL X.K H1 a xs from hq);refine wpAny_pyIter_tuple (show s1.heap.IsTuple a its.toArray from p) ?_;refine⟨s1.heap.objs.size,[s1.heap.objs.size],_,_,H1,rfl,I1.kept (t':=s1.toks) λb o e=>JB _ e,sf a _,⟨_,JH _ rfl,rfl,rfl⟩,λb hb=>?_,q⟩;have e:b=s1.heap.objs.size:=by simpa using hb
  subst e;exact I1.fpOk (JE _) (I1.hok.fresh<|JE _)
def I0(K:JF)(t:TA):TI:=λU H R=>t U H λvs H1=>∃b1 b2 l1 l2 xs ys,vs=[.ref l1,.ref l2]/\fW K b1 H1 l1 xs/\fW K b2 H1 l2 ys/\R (Itz K b1 b2 l1 l2) H1
theorem AR{a b:Expr}{elts:List Expr}{x1:Nat}{tp:Pos}{ta:TA}{p pos:Pos}(hg:Gl X "zip")(hm:X.mg "zip"=none)(ha:PA X [a,b] ta)
  (hs:starEach [a,b] X.env=[(false,eval a X.env),(false,eval b X.env)]:=by rfl) (hs2:starEach [b] X.env=[(false,eval b X.env)]:=by rfl):
  PI X (.Tuple elts x1 tp) (.Call (.Name "zip" p) [a,b] [] pos) (I0 X.K ta):=by
 intro pins s U H R I h;refine Call_ (dS I hg hm (by decide +kernel:bootBuiltins "zip"=some (.type "zip"))<|KI (bG (ha pos pins s U H _ I h) λus s1 ⟨vs,H1,I1,r1,q1⟩=>?_) (by rw[hs,hs2])<|by rw[hs2];rfl)
 obtain⟨b1,b2,l1,l2,xs,ys,e,q1,q2,q⟩:=q1;subst e;obtain⟨u1,u2,rfl,ru1,ru2⟩:=r1.two;cases ru1;cases ru2;obtain⟨its1,rv1,sq1,z1⟩:=I1.src q1;obtain⟨its2,rv2,sq2,z2⟩:=I1.src q2;refine A8 sq1 sq2 λh' hz hTI hTO h1 h2 hsz hk=>?_;have I2:Inv X pins U H1 { s1 with heap:=h' }:=I1.kept (t':=s1.toks) hk;refine wpAny_pyIter_zip (s:={ s1 with heap:=h' }) hz ?_;have D:ZApart (s1.heap.objs.size+4) (s1.heap.objs.size+2) (s1.heap.objs.size+3) s1.heap.objs.size (s1.heap.objs.size+1):=by constructor<;>exact(show (_:Nat)≠(_:Nat) by lia)
 refine⟨s1.heap.objs.size+4,[s1.heap.objs.size+4,s1.heap.objs.size+2,s1.heap.objs.size+3,s1.heap.objs.size,s1.heap.objs.size+1],_,_,H1,rfl,I2,zt b1 b2 l1 l2 _ _ _ _ _ D,⟨hz,hTI,⟨_,_,hTO⟩,h1,h2⟩,λb hb=>?_,q⟩;have hb':s1.heap.objs.size<=b:=by
  have hb2:b=s1.heap.objs.size+4\/b=s1.heap.objs.size+2\/b=s1.heap.objs.size+3\/b=s1.heap.objs.size\/b=s1.heap.objs.size+1:=by simpa using hb
  rcases hb2 with e|e|e|e|e<;>rw[e]<;>first|exact NZ _ _|exact JE _
 exact I1.fpOk (H':=H1) hb' (I1.hok.fresh hb')
def FN(K:JF)(t:TA):TI:=λU H R=>t U H λvs H1=>∃b l xs,vs=[.ref l]/\fW K b H1 l xs/\R (Ite K b l) H1
theorem zd{a:Expr}{elts:List Expr}{x1:Nat}{tp:Pos}{ta:TA}{p pos:Pos}(hg:Gl X "enumerate")(hm:X.mg "enumerate"=none)(ha:PA X [a] ta)(hs:starEach [a] X.env=[(false,eval a X.env)]:=by rfl):
  PI X (.Tuple elts x1 tp) (.Call (.Name "enumerate" p) [a] [] pos) (FN X.K ta):=by
 intro pins s U H R I h;refine Call_ (dS I hg hm (by decide +kernel:bootBuiltins "enumerate"=some (.type "enumerate"))<|KI (bG (ha pos pins s U H _ I h) λus s1 ⟨vs,H1,I1,r1,q1⟩=>?_) hs rfl)
 obtain⟨b,l,xs,e,q1,q⟩:=q1;subst e;obtain⟨u1,rfl,ru1⟩:=r1.one;cases ru1;obtain⟨its,rv,sq,z⟩:=I1.src q1;refine xG sq λh' he h1 hsz hk=>?_;have I2:Inv X pins U H1 { s1 with heap:=h' }:=I1.kept (t':=s1.toks) hk;refine wpAny_pyIter_enum (s:={ s1 with heap:=h' }) he ?_;refine⟨s1.heap.objs.size+1,[s1.heap.objs.size+1,s1.heap.objs.size],_,_,H1,rfl,I2,xT b l _ _ (show (_:Nat)≠(_:Nat) by lia),⟨⟨_,he⟩,h1⟩,λc hc=>?_,q⟩
 have hc':s1.heap.objs.size<=c:=by
  have hc2:c=s1.heap.objs.size+1\/c=s1.heap.objs.size:=by simpa using hc
  rcases hc2 with e|e<;>rw[e]<;>first|exact NZ _ _|exact JE _
 exact I1.fpOk (H':=H1) hc' (I1.hok.fresh hc')
end
end L2
namespace L3
open PySem L2
section
variable {X:Cx}{B:Bd}{tg:Expr}{K:JF}{H:Hp}{M:Mem}
def bF(d:D)(xs:List D):List (Addr×List D):=match d with
 |.ref a=>[(a,xs)]
 |_=>[]
theorem fS{d:D}{v:V}{xs:List D}(rh:RepH K H M)(r:Rp K H d v)(e:aH M d=some xs):∃p b,v=.ref p/\∀H' M',Imm H H'->RepH K H' M'->(∀q∈bF d xs,M' q.1=some (.lst q.2))->∃vs,fW K b H' p vs/\Rps K H' xs vs:=by
 cases d with
 |tup ys=>
  cases e;obtain⟨p,vs,rfl,h,r⟩:=r;exact⟨p,false,rfl,λH' M' i _ _=>⟨vs,(h.mono i).sq,r.mono i⟩⟩
 |lst ys=>
  cases e;obtain⟨p,vs,rfl,h,r⟩:=r;exact⟨p,true,rfl,λH' M' i _ _=>⟨vs,(h.mono i).sq,r.mono i⟩⟩
 |mt ys=>
  cases e;obtain⟨p,vs,rfl,h,r⟩:=r;exact⟨p,false,rfl,λH' M' i _ _=>⟨vs,h.sq,r.mono i⟩⟩
 |ml ys=>
  cases e;obtain⟨p,vs,rfl,h,r⟩:=r;exact⟨p,true,rfl,λH' M' i _ _=>⟨vs,(h.mono i).sq,r.mono i⟩⟩
 |ref a=>
  refine⟨a,true,r,λH' M' i rh' hs=>?_⟩;obtain⟨vs,h1,h2⟩:=rh' _ _ (hs (a,xs)<|by simp[bF])
  exact⟨vs,SqL.of h1,h2⟩
 |_=>cases e
theorem fN{d:D}{xs:List D}(e:aH M d=some xs):∀q∈bF d xs,M q.1=some (.lst q.2):=by
 cases d with
 |ref a=>
  intro q hq;have:q=(a,xs):=by simpa [bF] using hq
  subst this;simp only[aH]at e
  split at e
  .rename_i ys h;cases e;exact h
  .cases e
 |_=>intro q hq;simp[bF]at hq
def cL(te:bg):xl:=λY M R=>te Y M λd M1=>match aH M1 d with
 |some xs=>R ⟨xs,bF d xs⟩ M1
 |none=>False
theorem FY{l:Expr}{tl:bg}(hl:DE X B l tl):DI X B tg l (cL tl):=by
 refine fc (CA hl) ?_
 rintro U H R ⟨Y,M,RR,s,h,up⟩
 refine⟨Y,M,_,s,h,λd M1 h1 v H1 rh1 i1 r1=>?_⟩
 split at h1
 .rename_i xs e
  obtain⟨p,b,rfl,hsrc⟩:=fS rh1 r1 e;obtain⟨vs,hq,_⟩:=hsrc H1 M1 Imm.refl rh1 (fN e);refine⟨p,b,vs,rfl,hq,up _ M1 h1 _ H1 rh1 i1 λi H2 M2 i2 rh2 ok2=>?_⟩;obtain⟨vs2,hq2,r2⟩:=hsrc H2 M2 i2 rh2 ok2;have hl:=r2.length;cases b with
  |true=>
   refine⟨λd hd=>?_,λhle=>⟨vs2,hq2,by rw[<- hl];exact hle⟩⟩
   obtain⟨w,hw,rw'⟩:=r2.get hd;refine⟨⟨vs2,w,hq2,hw⟩,?_⟩
   rintro x H3 ⟨rfl,hx⟩
   have:=hx vs2 hq2;rw[hw]at this;cases this;exact⟨Frm.refl,rh2,rw'⟩
  |false=>
   refine⟨λd hd=>?_,λhle=>⟨vs2,hq2,by rw[<- hl];exact hle⟩⟩
   obtain⟨w,hw,rw'⟩:=r2.get hd;refine⟨⟨vs2,w,hq2,hw⟩,?_⟩
   rintro x H3 ⟨rfl,hx⟩
   have:=hx vs2 hq2;rw[hw]at this;cases this;exact⟨Frm.refl,rh2,rw'⟩
 .exact h1.elim
def dl(lo:Int)(n:Nat):List D:=(LC n).map λ(i:Nat)=>D.int (lo+i)
def eR(t:dZ):xl:=λY M R=>t Y M λds M1=>match ds with
 |[.int j]=>-(2 ^ 62)<=j/\j<2 ^ 62/\R ⟨dl 0 j.toNat,[]⟩ M1
 |_=>False
theorem G4{lo:Int}{n:Nat}:F1 K H ⟨dl lo n,[]⟩ (Itr lo n):=λi H2 M2 i2 rh2 _=>by
 have hlen:(dl lo n).length=n:=by simp[dl]
 refine⟨λd hd=>?_,λhle=>by rw[hlen]at hle;exact hle⟩
 have hi:i<n:=by
  rcases Li i n with h|h
  .exact h
  .rw[Ni (by rw[hlen];exact h)]at hd;cases hd
 have ed:d=.int (lo+i):=by
  simp only[dl,Kf,List.getElem?_range hi]at hd;exact(Kl hd).symm
 subst ed;refine⟨hi,?_⟩
 rintro x H3 ⟨rfl,rfl⟩
 exact⟨Frm.refl,rh2,rfl⟩
theorem xN{a:Expr}{ta:dZ}{p pos:Pos}(hg:Gl X "range")(hm:X.mg "range"=none)(ha:DA X B [a] ta)(hs:starEach [a] X.env=[(false,eval a X.env)]:=by rfl):DI X B tg (.Call (.Name "range" p) [a] [] pos) (eR ta):=by
 refine fc (xY hg hm ha hs) ?_
 rintro U H R ⟨Y,M,RR,s,h,up⟩
 refine⟨Y,M,_,s,h,λds M1 h1 vs H1 rh1 i1 r1=>?_⟩
 split at h1
 .obtain⟨v,rfl,rv⟩:=eF (ds:=[]) r1
  cases rv;exact⟨_,rfl,h1.1,h1.2.1,up _ M1 h1.2.2 _ H1 rh1 i1 G4⟩
 .exact h1.elim
def pI(xs:List D):List D:=(xs.zipIdx).map λp=>D.tup [.int (p.2:Nat),p.1]
theorem xV{xs:List D}{i:Nat}:(pI xs)[i]?=(xs[i]?).map λd=>D.tup [.int (i:Nat),d]:=by
 simp[pI,Kf,List.getElem?_zipIdx];cases xs[i]?<;>simp
def eJ(t:dZ):xl:=λY M R=>t Y M λds M1=>match ds with
 |[d]=>match aH M1 d with
  |some xs=>R ⟨pI xs,bF d xs⟩ M1
  |none=>False
 |_=>False
theorem Cm{a:Expr}{elts:List Expr}{x1:Nat}{tp:Pos}{ta:dZ}{p pos:Pos}(hg:Gl X "enumerate")(hm:X.mg "enumerate"=none)(ha:DA X B [a] ta)(hs:starEach [a] X.env=[(false,eval a X.env)]:=by rfl):
  DI X B (.Tuple elts x1 tp) (.Call (.Name "enumerate" p) [a] [] pos) (eJ ta):=by
 refine fc (zd hg hm ha hs) ?_
 rintro U H R ⟨Y,M,RR,s,h,up⟩
 refine⟨Y,M,_,s,h,λds M1 h1 vs H1 rh1 i1 r1=>?_⟩
 split at h1
 .obtain⟨v,rfl,rv⟩:=eF (ds:=[]) r1
  split at h1
  .rename_i xs e
   obtain⟨p,b,rfl,hsrc⟩:=fS rh1 rv e;obtain⟨vs,hq,_⟩:=hsrc H1 M1 Imm.refl rh1 (fN e);refine⟨b,p,vs,rfl,hq,up _ M1 h1 _ H1 rh1 i1 λi H2 M2 i2 rh2 ok2=>?_⟩;obtain⟨vs2,hq2,r2⟩:=hsrc H2 M2 i2 rh2 ok2;have hl:=r2.length;refine⟨λd hd=>?_,λhle=>⟨vs2,hq2,by rw[<- hl];simpa [pI] using hle⟩⟩
   rw[xV]at hd;obtain⟨d0,hd0,rfl⟩:=Ly.mp hd;obtain⟨w,hw,rw'⟩:=r2.get hd0;refine⟨⟨vs2,w,hq2,hw⟩,?_⟩
   rintro x H3 ⟨T,x',hT,rfl,rfl,hx⟩
   have:=hx vs2 hq2;rw[hw]at this;cases this;have i3:Imm H2 (upd H2 T<|.tup [.int i,w]):=Imm.new hT;exact⟨Frm.new hT,rh2.new hT,T,_,rfl,upd_same,.cons rfl<|.cons (rw'.mono i3) .nil⟩
  .exact h1.elim
 .exact h1.elim
def nJ(xs ys:List D):List D:=(xs.zip ys).map λp=>D.tup [p.1,p.2]
theorem A1{xs ys:List D}{i:Nat}{d:D}(h:(nJ xs ys)[i]?=some d):∃x y,xs[i]?=some x/\ys[i]?=some y/\d=.tup [x,y]:=by
 simp only[nJ,Kf,Ly]at h;obtain⟨⟨x,y⟩,h1,rfl⟩:=h;rw[List.getElem?_zip_eq_some]at h1;exact⟨x,y,h1.1,h1.2,rfl⟩
def Gh(t:dZ):xl:=λY M R=>t Y M λds M1=>match ds with
 |[d,e]=>match aH M1 d,aH M1 e with
  |some xs,some ys=>R ⟨nJ xs ys,bF d xs++bF e ys⟩ M1
  |_,_=>False
 |_=>False
theorem Gw{a b:Expr}{elts:List Expr}{x1:Nat}{tp:Pos}{ta:dZ}{p pos:Pos}(hg:Gl X "zip")(hm:X.mg "zip"=none)(ha:DA X B [a,b] ta)
  (hs:starEach [a,b] X.env=[(false,eval a X.env),(false,eval b X.env)]:=by rfl) (hs2:starEach [b] X.env=[(false,eval b X.env)]:=by rfl):
  DI X B (.Tuple elts x1 tp) (.Call (.Name "zip" p) [a,b] [] pos) (Gh ta):=by
 refine fc (AR hg hm ha hs hs2) ?_
 rintro U H R ⟨Y,M,RR,s,h,up⟩
 refine⟨Y,M,_,s,h,λds M1 h1 vs H1 rh1 i1 r1=>?_⟩
 split at h1
 .obtain⟨v,w,rfl,rv,rw'⟩:=yq r1
  split at h1
  .rename_i xs ys e1 e2
   obtain⟨p,b,rfl,hsrc⟩:=fS rh1 rv e1;obtain⟨p',b',rfl,hsrc'⟩:=fS rh1 rw' e2;obtain⟨vs,hq,_⟩:=hsrc H1 M1 Imm.refl rh1 (fN e1);obtain⟨vs',hq',_⟩:=hsrc' H1 M1 Imm.refl rh1 (fN e2);refine⟨b,b',p,p',vs,vs',rfl,hq,hq',up _ M1 h1 _ H1 rh1 i1 λi H2 M2 i2 rh2 ok2=>?_⟩;obtain⟨vs2,hq2,r2⟩:=hsrc H2 M2 i2 rh2 λq hq=>ok2 q (Ld _ hq);obtain⟨vs2',hq2',r2'⟩:=hsrc' H2 M2 i2 rh2 λq hq=>ok2 q (Ka _ hq);have hl:=r2.length;have hl':=r2'.length;refine⟨λd hd=>?_,λhle=>⟨vs2,vs2',hq2,hq2',?_⟩⟩
   .obtain⟨x,y,hx,hy,rfl⟩:=A1 hd
    obtain⟨w1,hw1,rw1⟩:=r2.get hx;obtain⟨w2,hw2,rw2⟩:=r2'.get hy;refine⟨⟨vs2,vs2',w1,w2,hq2,hq2',hw1,hw2⟩,?_⟩
    rintro x H3 ⟨T,x',y',hT,rfl,rfl,hx1,hx2⟩
    have q1:=hx1 vs2 hq2;have q2:=hx2 vs2' hq2';rw[hw1]at q1;rw[hw2]at q2;cases q1;cases q2;have i3:Imm H2 (upd H2 T<|.tup [w1,w2]):=Imm.new hT;exact⟨Frm.new hT,rh2.new hT,T,_,rfl,upd_same,.cons (rw1.mono i3)<|.cons (rw2.mono i3) .nil⟩
   .have:(nJ xs ys).length=min xs.length ys.length:=by simp[nJ]
    rw[this]at hle;lia
  .exact h1.elim
 .exact h1.elim
end
def BD:Bd:=⟨λ_ _=>True,λ_ _=>trivial⟩
section
variable {X:Cx}{B:Bd}{K:JF}{H H':Hp}{M M':Mem}
inductive liftE0(K:JF)(T:bg)(U:L2.St)(H:Hp)(Q:VK):Prop
 |mk (Y:Dl) (M:Mem) (QQ:DK) (rh:RepH K H M) (rs:RepS K H Y U) (h:T Y M QQ) (u:Up K M H QQ Q):liftE0 K T U H Q
inductive liftT0(K:JF)(T:eG)(U:L2.St)(H:Hp)(Q:Bool->Hp->Prop):Prop
 |mk (Y:Dl) (M:Mem) (QQ:Bool->Mem->Prop) (rh:RepH K H M) (rs:RepS K H Y U) (h:T Y M QQ) (u:UpT K M H QQ Q):liftT0 K T U H Q
inductive liftG0(K:JF)(g:jn)(v:V)(U:L2.St)(H:Hp)(Q:L2.St->Hp->Prop):Prop
 |mk (d:D) (Y:Dl) (M:Mem) (QQ:Dl->Mem->Prop) (rh:RepH K H M) (rs:RepS K H Y U) (r:Rp K H d v) (h:g d Y M QQ) (u:∀δ' M',QQ δ' M'->∀σ' H',Frm M H M' H'->RepH K H' M'->RepS K H' δ' σ'->Q σ' H'):liftG0 K g v U H Q
theorem GG{e:Expr}{T:bg}(h:DE X BD e T):PE X e (liftE0 X.K T):=aZ h λU H Q ⟨Y,M,QQ,rh,rs,h,u⟩=>⟨Y,M,QQ,⟨trivial,rh,rs⟩,h,u⟩
theorem G0{e:Expr}{g:jn}(h:DG X BD e g):PG X e (liftG0 X.K g):=je h λv U H Q ⟨d,Y,M,QQ,rh,rs,r,h,u⟩=>⟨d,Y,M,QQ,⟨trivial,rh,rs⟩,r,h,λδ' M' q σ' H' f s=>u δ' M' q σ' H' f s.rh s.rs⟩
theorem RepH.add{a:Addr}{o:MO}(r:RepH K H M)(n:RepO K H a o):RepH K H (M.upd a o):=λb p e=>by
 by_cases hb:b=a
 .subst hb;rw[Mem.upd_same]at e;cases e;exact n
 .rw[ah hb]at e;exact r b p e
def k4(ls:List Str)(js:List Nat)(Y:Dl):Dl:=ls.map (λ_=>none)++js.map λj=>(Y[j]?).join
theorem RepS.start{Y:Dl}{U:L2.St}(r:RepS K H Y U)(ls:List Str)(js:List Nat):RepS K H (k4 ls js Y) (cI ls js U):=by
 refine⟨by simp[k4,cI],λi d e=>?_⟩
 unfold k4 at e;unfold cI
 by_cases hi:i<ls.length
 .rw[Lo (by simpa using hi),Kf,JG hi]at e
  cases e
 .rw[KS (by simpa using hi),JK,Kf]at e
  rw[KS (by simpa using hi),JK,Kf]
  cases hj:js[i-ls.length]? with
  |none=>rw[hj]at e;cases e
  |some j=>
   rw[hj]at e;have q:(Y[j]?).join=some d:=by simpa using e
   have q2:Y[j]?=some (some d):=by
    cases z:Y[j]? with
    |none=>rw[z]at q;cases q
    |some o=>rw[z]at q;have q':o=some d:=q;rw[q']
   obtain⟨v,h1,h2⟩:=r.get j d q2;exact⟨v,by simp[h1],h2⟩
structure BxC(g:jn)(tt:eG)(te:bg)(ok:Mem->Prop)(Q:List D->Mem->Prop):Type
def da(g:jn)(tt:eG)(te:bg)(ok:Mem->Prop)(Q:List D->Mem->Prop)(b:BxC g tt te ok Q):List D->List D->Dl->Mem->Prop
 |[],acc,_,M=>ok M/\Q acc M
 |x::xs,acc,Y,M=>ok M/\g x Y M λδ2 M2=>tt δ2 M2 λc M3=>if c=true then te δ2 M3 λy M4=>acc.length<sizeLine/\da g tt te ok Q b xs (acc++[y]) δ2 M4 else da g tt te ok Q b xs acc δ2 M3
def aN(wi:xl)(ls:List Str)(js:List Nat)(g:jn)(tt:eG)(te:bg):bg:=λY M Q=>wi Y M λit M1=>da g tt te it.ok (λacc M'=>∀p,M' p=none->Q (.ref p) (M'.upd p<|.lst acc)) ⟨⟩ it.items [] (k4 ls js Y) M1
theorem yg{g:jn}{tt:eG}{te:bg}{ok:Mem->Prop}{xs acc:List D}{Y:Dl}{Q:List D->Mem->Prop}{b:BxC g tt te ok Q}(h:da g tt te ok Q b xs acc Y M):ok M:=by
 cases xs with
 |nil=>exact h.1
 |cons _ _=>exact h.1
variable {tg iter elt:Expr}{ifs:List Expr}{scope:Scope}{cl:List (Str×Addr)}{pos:Pos}{ls fs:List Str}{js:List Nat}{wi:xl}{g:jn}{tt:eG}{te:bg}
theorem wE{U:L2.St}{Q:VK}(h:liftE X B (aN wi ls js g tt te) U H Q):Et (liftI X B wi) ls js (liftG0 X.K g) (liftT0 X.K tt) (liftE0 X.K te) U H Q:=by
 obtain⟨Y,M,QQ,s,h,u⟩:=h;refine⟨Y,M,_,s,h,λit M1 h1 J H1 rh1 f1 hJ p hp=>?_⟩;have hMp:M1 p=none:=rh1.fresh hp
 refine⟨λi m σ' H'=>m=it.items.length-i/\i<=it.items.length/\∃δ' M' acc ys,RepH X.K H' M'/\RepS X.K H' δ' σ'/\H' p=some (.lst ys)/\Rps X.K H' acc ys/\M' p=none/\Frm M1 H1 M' H'/\
   da g tt te it.ok (λacc M'=>∀p,M' p=none->QQ (.ref p) (M'.upd p<|.lst acc)) ⟨⟩ (it.items.drop i) acc δ' M',
  ⟨_,rfl,KR _,k4 ls js Y,M1,[],[],rh1.new hp,((s.rs.mono<|f1.imm s.rh).mono<|Imm.new hp).start ls js,upd_same,.nil,hMp,Frm.new hp,h1⟩,?_⟩
 rintro i m σ2 H2 ⟨rfl,hi,δ2,M2,acc,ys,rh2,rs2,hp2,ra2,hm2,f2,h2⟩
 have hok:=yg h2;obtain⟨hgo,hstop⟩:=hJ i H2 M2 (f2.imm rh1) rh2 hok
 by_cases hlt:i<it.items.length
 .rw[L8 hlt]at h2
  obtain⟨go,hy⟩:=hgo _ (JG hlt)
  refine .inr ⟨go,λσ' H'=>∃δ' M' acc ys,RepH X.K H' M'/\RepS X.K H' δ' σ'/\H' p=some (.lst ys)/\Rps X.K H' acc ys/\M' p=none/\Frm M1 H1 M' H'/\
   da g tt te it.ok (λacc M'=>∀p,M' p=none->QQ (.ref p) (M'.upd p<|.lst acc)) ⟨⟩ (it.items.drop (i+1)) acc δ' M',λσ' H' z=>⟨it.items.length-(i+1),by omega,rfl,hlt,z⟩,λx H3 hx=>?_⟩
  obtain⟨f3,rh3,rx⟩:=hy x H3 hx;refine⟨_,δ2,M2,_,rh3,rs2.mono (f3.imm rh2),rx,h2.2,λδ4 M4 h4 σ4 H4 f4 rh4 rs4=>?_⟩;refine⟨δ4,M4,_,rh4,rs4,h4,λc M5 h5 H5 rh5 f5=>?_⟩;have f35:=(f3.trans f4).trans f5;obtain⟨hp5,hm5⟩:=f35.keep p _ hp2 hm2;cases c with
  |false=>
   try dsimp only
   rw[if_neg JY]at h5 ⊢;exact⟨δ4,M5,acc,ys,rh5,rs4.mono (f5.imm rh4),hp5,ra2.mf rh2 f35,hm5,f2.trans f35,h5⟩
  |true=>
   try dsimp only
   rw[if_pos rfl]at h5 ⊢;refine⟨δ4,M5,_,rh5,rs4.mono (f5.imm rh4),h5,λy M6 h6 v6 H6 rh6 f6 r6=>?_⟩;obtain⟨hp6,hm6⟩:=f6.keep p _ hp5 hm5;have f26:=f35.trans f6;have ra6:=ra2.mf rh2 f26;refine⟨ys,hp6,by rw[<- ra6.length];exact h6.1,?_⟩
   have im:Imm H6 (upd H6 p<|.lst (ys++[v6])):=Imm.upd (by rw[hp6];trivial)
   refine⟨δ4,M6,acc++[y],ys++[v6],rh6.keep im λb o hb=>az (Mem.ne hb hm6),((rs4.mono<|f5.imm rh4).mono<|f6.imm rh5).mono im,upd_same,(ra6.append<|.cons r6 .nil).mono im,hm6,?_,h6.2⟩;refine⟨λb w e n=>?_⟩;obtain⟨e2,n2⟩:=(f2.trans f26).keep b w e n;exact⟨by rw[az (aT e hp)];exact e2,n2⟩
 .rw[OM (by omega)]at h2
  refine .inl ⟨hstop (by omega),u _ _ (h2.2 p hm2) _ H2 (rh2.add ⟨ys,hp2,ra2⟩) ?_ rfl⟩
  refine⟨λb w e n=>?_⟩;obtain⟨e1,n1⟩:=f1.keep b w e n;obtain⟨e2,n2⟩:=f2.keep b w e1 n1;exact⟨e2,by rw[ah (aT e1 hp)];exact n2⟩
def Ip(X:Cx)(B:Bd)(ifs:List Expr)(T:eG):Prop:=Hs X ifs (liftT X B T)
def cF:eG:=λ_ M Q=>Q true M
theorem AW:Ip X B [] cF:=λpins s U H Q I zz=>by obtain⟨Y,M,QQ,sr,h,u⟩:=zz;exact Cq pins s U H Q I (u true M h H sr.rh Frm.refl)
theorem BH{c:Expr}{t:eG}(h:DT X B c t):Ip X B [c] t:=Co h
theorem Cb{es:List Expr}{T:eG}(h:Ip X BD es T):Hs X es (liftT0 X.K T):=λpins s U H Q I zz=>by obtain⟨Y,M,QQ,rh,rs,hT,u⟩:=zz;exact h pins s U H Q I ⟨Y,M,QQ,⟨trivial,rh,rs⟩,hT,u⟩
theorem D4(hc:X.calm=true)(co:CompOk X scope cl ls fs js)(hi:DI X B tg iter wi)
  (hY:∀(C:Addr) (s₀:Shared) (H₀:Hp) (fp:List Addr) (pl:List (Addr×Obj)),DG (bB X (ls++fs) scope cl C s₀ H₀ fp pl) BD tg g/\Ip (bB X (ls++fs) scope cl C s₀ H₀ fp pl) BD ifs tt/\DE (bB X (ls++fs) scope cl C s₀ H₀ fp pl) BD elt te)
  (hs:∀x,foldedSetIterable iter X.env x=pure x:=by intro _;rfl):DE X B (.ListComp elt [⟨tg,iter,ifs,0⟩] scope pos) (aN wi ls js g tt te):=
 aZ (D1 (g:=liftG0 X.K g) (tt:=liftT0 X.K tt) (te:=liftE0 X.K te) hc co hi (λC s₀ H₀ fp pl=>⟨G0 (hY C s₀ H₀ fp pl).1,Cb (hY C s₀ H₀ fp pl).2.1,GG (hY C s₀ H₀ fp pl).2.2⟩) hs) λ_ _ _ h=>wE h
end
abbrev DX:=Addr->Mem->Prop
abbrev Sd:=List D->Mem->DK->DX->Prop
def lg(P:Program)(w:World):iJ:=λouter H s E e s'=>∃C,qA P w C outer H s E e s'
def UpX(K:JF)(M:Mem)(H:Hp)(EE:DX)(E:XK):Prop:=∀C M',EE C M'->∀H',RepH K H' M'->Frm M H M' H'->E (.ref C) none H'
def y1(K:JF)(B:Bd)(EE:DX)(E:XK):Prop:=∀C M',EE C M'->∀H',RepH K H' M'->B.p M' H'->E (.ref C) none H'
theorem UpX.go{K:JF}{M M1:Mem}{H H1:Hp}{EE:DX}{E:XK}(u:UpX K M H EE E)(i:Frm M H M1 H1):UpX K M1 H1 EE E:=λC M' q H' a b=>u C M' q H' a (i.trans b)
def cj(K:JF)(n:Nat)(T:Sd):Sp:=λvs H Q E=>vs.length=n/\∃ds M QQ EE,RepH K H M/\Rps K H ds vs/\T ds M QQ EE/\Up K M H QQ Q/\UpX K M H EE E
def startN(N:List Str)(ds:List D):Dl:=ds.map some++JN (N.length-ds.length) none
theorem RepS.startN{K:JF}{H:Hp}{ds:List D}{vs:List V}(N:List Str)(r:Rps K H ds vs):RepS K H (L3.startN N ds) (L2.start N vs):=by
 have hl:=r.length;refine⟨by simp[L3.startN,L2.start,hl],λi d e=>?_⟩
 unfold L3.startN at e;unfold L2.start
 by_cases hi:i<ds.length
 .rw[Lo (by simpa using hi),Kf,JG hi]at e
  have e':ds[i]=d:=by simpa using e
  obtain⟨v,h1,h2⟩:=r.get (i:=i) (d:=d) (by rw[JG hi,e'])
  refine⟨v,?_,h2⟩;rw[Lo (by simp;lia),Kf,h1]
  rfl
 .rw[KS (by simpa using hi),OG]at e
  split at e<;>cases e
section
variable {P:Program}{w:World}{K:JF}{mg:Str->Option Value}{base:Heap}{f:Addr}{fd:FuncData}
def drp(Q:DK)(d:D)(M':Mem):Prop:=∃M'',(∀b o,M'' b=some o->M' b=some o)/\Q d M''
def aJ(EE:DX)(C:Addr)(M':Mem):Prop:=∃M'',(∀b o,M'' b=some o->M' b=some o)/\EE C M''
theorem aq{Q:DK}{d:D}{M':Mem}(h:Q d M'):drp Q d M':=⟨M',λ_ _ e=>e,h⟩
theorem nU{EE:DX}{C:Addr}{M':Mem}(h:EE C M'):aJ EE C M':=⟨M',λ_ _ e=>e,h⟩
theorem Frm.less{M M' M'':Mem}{H H':Hp}(f:Frm M H M' H')(s:∀b o,M'' b=some o->M' b=some o):Frm M H M'' H':=⟨λb u e n=>by
 obtain⟨e',n'⟩:=f.keep b u e n;refine⟨e',?_⟩;cases q:M'' b with
 |none=>rfl
 |some o=>rw[s b o q]at n';cases n'⟩
theorem Up.drp{M:Mem}{H:Hp}{Q:DK}{QV:VK}(u:Up K M H Q QV):Up K M H (L3.drp Q) QV:=λd M' ⟨M'',s,q⟩ v H' rh f r=>u d M'' q v H' (λb o e=>rh b o (s b o e)) (f.less s) r
theorem UpX.drp{M:Mem}{H:Hp}{EE:DX}{E:XK}(u:UpX K M H EE E):UpX K M H (aJ EE) E:=λC M' ⟨M'',s,q⟩ H' rh f=>u C M'' q H' (λb o e=>rh b o (s b o e)) (f.less s)
def aP(N:List Str)(T:DX->ar):Sd:=λds M Q EE=>T (aJ EE) { nx:=λ_ M'=>drp Q .non M',rt:=drp Q } (startN N ds) M
theorem fnD{x qual:Str}{st:Stmt}{N ps:List Str}{k:Nat}{T:DX->ar}(F:Fun K x qual st f fd)(S:FnScope N ps (aQ st))
  (hb:∀(cdv:Value) (A:Around) (outer:List Env) (s:Shared) (H:Hp) (E:XK) (B:Bd) (EE:DX),Room k (A.deeper<|Mm qual (aQ st) s.heap.objs.size f cdv)->y1 K B EE E->
   y3 (dh (lg P w) P w K mg base N qual (aQ st) f cdv A outer s H E) B (cm st) (T EE)):
  FnOk P w K mg base (lg P w) (k+1) f fd ps (cj K ps.length<|aP N T):=by
 obtain⟨oc,od,kV,doc,pm,an,cdv,ct,osl,rfl,lk,hcd⟩:=F.ex;refine HQ lk hcd S (λvs H Q E h=>h.1) λA outer s H vs Q E hr hsp=>?_;obtain⟨hl,ds,M,QQ,EE,rh,r,hT,u,ux⟩:=hsp;refine⟨_,hb cdv A outer s H E (Bd.of M H) (aJ EE) hr ux.drp,startN N ds,M,{ nx:=λ_ M'=>drp QQ .non M',rt:=drp QQ },⟨Frm.refl,rh,.startN N r⟩,hT,⟨?_,u.drp,?_,?_⟩⟩
 .exact λY M' q U H' f s'=>u.drp _ M' q _ H' s'.rh f rfl
 .exact λY M' q=>(show False from q).elim
 .exact λY M' q=>(show False from q).elim
theorem cT{ps:List Str}{k n:Nat}{CX:iJ}:FnOk P w K mg base CX k f fd ps (cj K n λ_ _ _ _=>False):=
 ⟨λvs H Q E h=>(by obtain⟨_,_,_,_,_,_,_,h,_⟩:=h;exact h.elim),λA outer s H args us vs Q E _ _ _ _ h=>(by obtain⟨_,_,_,_,_,_,_,h,_⟩:=h;exact h.elim)⟩
theorem Eu{N:List Str}{qual:Str}{scope:Scope}{cd:Value}{A:Around}{outer:List Env}{s0:Shared}{H0:Hp}{E:XK}:cy (lg P w) (dh (lg P w) P w K mg base N qual scope f cd A outer s0 H0 E) E:=by
 intro pins U H s e s' I ⟨C,hx⟩;have I':Inv (dh (qA P w C) P w K mg base N qual scope f cd A outer s0 H0 E) pins U H s:=I.wish _;have:=IM pins U H s e s' I' hx;exact wpAny_mono this (λ_ _ z=>⟨C,z⟩) λ_ _ z=>⟨C,z⟩
theorem qJ{X:Cx}:cy (lg P w) X E0:=λpins U H s e s' I ⟨C,hx⟩=>by
 obtain⟨_,_,_,_,_,_,_,_,_,_,_,_,hE⟩:=hx;exact(show False from hE).elim
end
def Sub(M1 M:Mem):Prop:=∀b o,M1 b=some o->M b=some o
def Dis(M1 M M':Mem):Prop:=∀b o,M b=some o->M1 b=none->M' b=none
def plus(M' M1 M:Mem):Mem:=λb=>match M' b with
 |some o=>some o
 |none=>match M1 b with
  |some _=>none
  |none=>M b
theorem lU{M' M:Mem}:plus M' M M=M':=by
 funext b;simp only[plus];cases h:M' b with
 |some o=>rfl
 |none=>cases h2:M b<;>rfl
structure BxQ(EE:DX)(Q:DK):Type
structure calls(T:Sd)(EE:DX)(ds:List D)(M:Mem)(Q:DK)(_:BxQ EE Q):Prop where
 go:∃M1,Sub M1 M/\T ds M1 (λd M'=>Dis M1 M M'->Q d (plus M' M1 M)) (λC M'=>Dis M1 M M'->EE C (plus M' M1 M))
section
variable {X:Cx}{B:Bd}{K:JF}{H H':Hp}{M M1 M':Mem}
theorem RepH.sub(r:RepH K H M)(s:Sub M1 M):RepH K H M1:=λb o e=>r b o (s b o e)
theorem RepH.dis(r:RepH K H M)(f:Frm M1 H M' H'):Dis M1 M M':=λb o e n=>by
 obtain⟨u,q⟩:=(r b o e).obj;exact(f.keep b u q n).2
theorem RepH.plus(r:RepH K H M)(s:Sub M1 M)(r':RepH K H' M')(f:Frm M1 H M' H'):RepH K H' (plus M' M1 M):=λb o e=>by
 simp only[L3.plus]at e
 split at e
 .rename_i o' q;cases e;exact r' b _ q
 .split at e
  .cases e
  .rename_i q n
   obtain⟨u,hu⟩:=(r b o e).obj;exact(r b o e).keep (f.imm<|r.sub s) ((f.keep b u hu n).1.trans hu.symm)
theorem Frm.plus(s:Sub M1 M)(f:Frm M1 H M' H'):Frm M H (plus M' M1 M) H':=⟨λb u e n=>by
 have n1:M1 b=none:=by
  cases q:M1 b with
  |none=>rfl
  |some o=>rw[s b o q]at n;cases n
 obtain⟨e',n'⟩:=f.keep b u e n1;exact⟨e',by simp only[L3.plus,n',n1,n]⟩⟩
theorem fU{T:Sd}{EE:DX}{ds:List D}{vs:List V}{Q:DK}{n:Nat}{QV:VK}{E:XK}{b:BxQ EE Q}(h:calls T EE ds M Q b)(rh:RepH K H M)(r:Rps K H ds vs)(hl:vs.length=n)(u:Up K M H Q QV)(ux:UpX K M H EE E):cj K n T vs H QV E:=by
 obtain⟨M1,s,h⟩:=h.go;refine⟨hl,ds,M1,_,_,rh.sub s,r,h,λd M' q v H' rh' f r'=>?_,λC M' q H' rh' f=>?_⟩
 .exact u d _ (q<|rh.dis f) v H' (rh.plus s rh' f) (f.plus s) r'
 .exact ux C _ (q<|rh.dis f) H' (rh.plus s rh' f) (f.plus s)
theorem au{T:Sd}{EE:DX}{ds:List D}{Q:DK}{b:BxQ EE Q}(hm:∀Q' E',(∀d M,Q d M->Q' d M)->(∀C M,EE C M->E' C M)->T ds M Q' E'):calls T EE ds M Q b:=
 ⟨M,λ_ _ e=>e,hm _ _ (λd M' q _=>by rw[lU];exact q) λC M' q _=>by rw[lU];exact q⟩
variable {CX:iJ}{k n:Nat}{f C:Addr}{fd:FuncData}{ps:List Str}{T:Sd}{EE:DX}{E:XK}{x m:Str}{p pos apos:Pos}{e o:Expr}{es:List Expr}{ta:bg}{t:dZ}
def ai(T:Sd)(EE:DX)(n:Nat)(t:dZ):bg:=λY M Q=>t Y M λds M1=>ds.length=n/\calls T EE ds M1 Q ⟨⟩
theorem SR.ux{Y:Dl}{U:L2.St}(s:SR X B Y M U H)(ux:y1 X.K B EE E):UpX X.K M H EE E:=λC M' q H' a b=>ux C M' q H' a (B.go s.i0 b)
theorem AT(F:FnOk X.prog X.w X.K X.mg X.base CX k f fd ps (cj X.K n T))(hr:Room k X.A)(hg:Gl X x)(hm:X.mg x=some (.ref f))(hk:Md X.K (.ref f)=true)(hb:Binds X.K fd ps [])(hx:cy CX X E)(ux:y1 X.K B EE E)
  (ha:DA X B (e::es) t) (hdb:(x==("__debug__":Str))=false:=by decide) (he:starEach (e::es) X.env=(false,eval e X.env)::starEach es X.env:=by rfl) (hpl:(backTo pos<|starEach es X.env).any (·.1)=false:=by rfl):
  DE X B (.Call (.Name x p) (e::es) [] pos) (ai T EE n t):=by
 refine aZ (BS F hr hg hm hk hb .nil hx ha hdb he hpl) ?_
 rintro U H Q ⟨Y,M,QQ,s,h,u⟩
 refine⟨Y,M,_,s,h,λds M1 h1 vs H1 rh1 i1 r1=>?_⟩
 try dsimp only
 rw[JR];exact fU h1.2 rh1 r1 (by rw[<- r1.length];exact h1.1) (u.go i1) ((s.ux ux).go i1)
def t7(C:Addr)(T:Sd)(EE:DX)(n:Nat)(t:dZ):bg:=λY M Q=>t Y M λds M1=>ds.length+1=n/\∀a,M1 a=none->calls T EE (.ref a::ds) (M1.upd a<|.ins C []) (λd M2=>match d with
 |.non=>Q (.ref a) M2
 |_=>False) ⟨⟩
theorem BU(Mk':Mk X.K C f)(F:FnOk X.prog X.w X.K X.mg X.base CX k f fd ps (cj X.K n T))(hr:Room (k+1) X.A)(hg:Gl X x)(hm:X.mg x=some (.ref C))(hb:Binds X.K fd ps [])(hx:cy CX X E)(ux:y1 X.K B EE E)
  (ha:DA X B (e::es) t) (hdb:(x==("__debug__":Str))=false:=by decide) (he:starEach (e::es) X.env=(false,eval e X.env)::starEach es X.env:=by rfl) (hpl:(backTo pos<|starEach es X.env).any (·.1)=false:=by rfl):
  DE X B (.Call (.Name x p) (e::es) [] pos) (t7 C T EE n t):=by
 refine aZ (B2 Mk' F hr hg hm hb .nil hx ha hdb he hpl) ?_
 rintro U H Q ⟨Y,M,QQ,s,h,u⟩
 refine⟨Y,M,_,s,h,λds M1 h1 vs H1 rh1 i1 r1 a dx na ndx nex=>?_⟩;rw[JR];have nx1:upd H1 dx (.own a) a=none:=by rw[az (Kw nex)];exact na
 have im1:Imm H1 (upd H1 dx<|.own a):=Imm.new ndx;have im2:Imm (upd H1 dx<|.own a) (upd (upd H1 dx<|.own a) a<|.ins C dx []):=Imm.new nx1;have rh2:RepH X.K (upd (upd H1 dx<|.own a) a<|.ins C dx []) (M1.upd a<|.ins C []):=(rh1.new ndx).put (by rw[nx1];trivial) ⟨dx,[],upd_same,.nil⟩
 have f2:Frm M1 H1 (M1.upd a<|.ins C []) (upd (upd H1 dx<|.own a) a<|.ins C dx []):=(Frm.new ndx).trans (Frm.put<|.inl nx1);refine fU (h1.2 a<|rh1.fresh na) rh2 (.cons rfl<|(r1.mono im1).mono im2) (by rw[JC,<- r1.length];exact h1.1) (λd M2 h2 v H2 rh f r=>?_) ((s.ux ux).go<|i1.trans f2)
 cases d with
 |non=>exact⟨r,u _ M2 h2 _ H2 rh ((i1.trans f2).trans f) rfl⟩
 |_=>exact(show False from h2).elim
end
section
variable {X:Cx}{B:Bd}{K:JF}{H H':Hp}{M M1 M':Mem}{o e:Expr}{es:List Expr}{to:bg}{t:dZ}{name:Str}{apos cpos:Pos}{Ty id:String}
abbrev x6:=D->List D->Mem->DK->Prop
inductive liftM(X:Cx)(r:x6)(x:V)(xs:List V)(H:Hp)(Q:VK):Prop
 |mk (d:D) (ds:List D) (M:Mem) (QQ:DK) (rh:RepH X.K H M) (rx:Rp X.K H d x) (rs:Rps X.K H ds xs) (h:r d ds M QQ) (u:Up X.K M H QQ Q):liftM X r x xs H Q
def eE(Ty:String)(r:x6)(to:bg)(t:dZ):bg:=λY M Q=>to Y M λx M1=>b_ M1 x=some Ty/\t Y M1 λds M2=>r x ds M2 Q
theorem yk{d:D}{v:V}(rh:RepH K H M)(r:Rp K H d v)(e:b_ M d=some Ty)(h:Ty="list"\/Ty="str"\/Ty="int"\/Ty="dict"):tyV K Ty v H:=by
 cases d with
 |non=>cases e;rcases h with h|h|h|h<;>exact absurd h (by decide)
 |bl b=>cases e;rcases h with h|h|h|h<;>exact absurd h (by decide)
 |int i=>cases r;cases e;rfl
 |str x=>cases r;cases e;rfl
 |tup xs=>cases e;rcases h with h|h|h|h<;>exact absurd h (by decide)
 |lst xs=>
  cases e;obtain⟨p,vs,rfl,hf,r⟩:=r;exact .inl ⟨rfl,vs,hf.sq⟩
 |ref a=>
  cases r;simp only[b_]at e
  split at e
  .rename_i q;cases e;obtain⟨ws,h1,h2⟩:=rh _ _ q;exact .inl ⟨rfl,ws,SqL.of h1⟩
  .rename_i q;cases e;obtain⟨ws,h1,h2⟩:=rh _ _ q;exact .inr (.inr<|.inl ⟨rfl,.inl ⟨ws,h1⟩⟩)
  .rename_i q;cases e;obtain⟨ws,h1,h2⟩:=rh _ _ q;exact .inr (.inr<|.inl ⟨rfl,.inr ⟨ws,h1⟩⟩)
  .cases e
 |_=>cases e
theorem Ie{r:x6}(hT:Ty="list"\/Ty="str"\/Ty="int"\/Ty="dict")(pa:PlainAttrs Ty)(slot:Slot Ty name id)(hty:typeOf (.builtin id)=pure (.type "method_descriptor"))(hm:x_ X id (liftM X r))(ho:DE X B o to)(ha:DA X B (e::es) t)
  (hbase:attributeBase o name X.env (eval o X.env)=eval o X.env:=by rfl)
  (hfew:((backTo cpos<|starEach (e::es) X.env).all (λx=>!x.1)&&(backToKw cpos<|keywordEach [] X.env).all (λx=>x.1.isSome)
   && decide ((e::es).length+([]:List Keyword).length+(if ([]:List Keyword).isEmpty then 0 else 1)<30))=true:=by rfl)
  (hline:(apos.endLine==cpos.line)=true:=by rfl) (hs:starEach (e::es) X.env=(false,eval e X.env)::starEach es X.env:=by rfl) (hplain:(backTo cpos<|starEach es X.env).any (·.1)=false:=by rfl):
  DE X B (.Call (.Attribute o name apos) (e::es) [] cpos) (eE Ty r to t):=by
 refine aZ (IN pa slot hty hm ho ha hbase hfew hline hs hplain) ?_
 rintro U H Q ⟨Y,M,QQ,s,h,u⟩
 refine⟨Y,M,_,s,h,λx M1 h1 v H1 rh1 i1 r1=>⟨yk rh1 r1 h1.1 hT,Y,M1,_,s.go rh1 i1,h1.2,λds M2 h2 vs H2 rh2 i2 r2=>?_⟩⟩;exact⟨x,ds,M2,QQ,rh2,r1.mf rh1 i2,r2,h2,u.go<|i1.trans i2⟩
theorem FW{r:x6}(hT:Ty="list"\/Ty="str"\/Ty="int"\/Ty="dict")(pa:PlainAttrs Ty)(slot:Slot Ty name id)(hty:typeOf (.builtin id)=pure (.type "method_descriptor"))(hm:x_ X id (liftM X r))(ho:DE X B o to)
  (hbase:attributeBase o name X.env (eval o X.env)=eval o X.env:=by rfl) (hline:(apos.endLine==cpos.line)=true:=by rfl):DE X B (.Call (.Attribute o name apos) [] [] cpos) (eE Ty r to ae):=by
 refine aZ (GZ pa slot hty hm ho hbase hline) ?_
 rintro U H Q ⟨Y,M,QQ,s,h,u⟩
 refine⟨Y,M,_,s,h,λx M1 h1 v H1 rh1 i1 r1=>⟨yk rh1 r1 h1.1 hT,?_⟩⟩;exact⟨x,[],M1,QQ,rh1,r1,.nil,h1.2,u.go i1⟩
def bo:x6:=λx ds M Q=>match x,ds with
 |.ref a,[y]=>match M a with
  |some (.lst xs)=>xs.length<sizeLine/\Q .non (M.upd a<|.lst (xs++[y]))
  |_=>False
 |_,_=>False
theorem qP:x_ X "list.append" (liftM X bo):=by
 intro pins s U H x vs v us Q I rx rv h;obtain⟨d,ds,M,QQ,rh,r,rs,h,up⟩:=h;unfold bo at h
 split at h
 .rename_i a y
  cases r;obtain⟨w,rfl,rw'⟩:=eF (ds:=[]) rs
  split at h
  .rename_i xs hM
   obtain⟨ws,h1,h2⟩:=rh _ _ hM;have im:Imm H (upd H a<|.lst (ws++[w])):=Imm.upd (by rw[h1];trivial)
   exact wZ pins s U H _ _ v us Q I rx rv ⟨a,ws,w,rfl,rfl,h1,by rw[<- h2.length];exact h.1,up _ _ h.2 _ _ (rh.put (by rw[h1];trivial) ⟨_,upd_same,(h2.append<|.cons rw' .nil).mono im⟩) (Frm.put<|.inr ⟨_,hM⟩) rfl⟩
  .exact h.elim
 .exact h.elim
def yE:V->List V->Hp->VK->Prop:=λx vs H Q=>∃l b xs zs,x=.ref l/\vs=[.ref b]/\H l=some (.lst xs)/\Rd H b (.lst zs)/\xs.length+zs.length<=sizeLine/\Q .non (upd H l<|.lst (xs++zs))
theorem qI:MtM X "list.extend" yE:=by
 intro pins s U H x vs v us Q I rx rv h;obtain⟨l,b,xs,zs,rfl,rfl,hH,hB,hz,q⟩:=h;cases rx;obtain⟨u,rfl,ru⟩:=rv.one;cases ru;obtain⟨z,its,n,r,hl,e⟩:=I.lstM hH;obtain⟨z2,its2,n2,r2,e2⟩:=hB.ok I.hok;have hl2:=r2.length;have hsz:its.toArray.size+its2.toArray.size<=sizeLine:=by rw[JI,JI];lia
 have hlong:¬(!its.toArray.isEmpty&&Mu (its.toArray.size+its2.toArray.size))=true:=by
  rw[ze hsz,Lm];exact JY
 refine call_meets OS ⟨_,e,rfl⟩ F.entry_list_extend (F.args_list_extend_2 _ _)
  (AutoSeq1.list_extend_list_list_0 l its.toArray n b its2.toArray n2 hlong (by rw[JI];lia)<|by lia) ⟨e,e2,?_⟩
 refine⟨.non,_,I.lset (its':=its++its2) hH e (by simp) (r.append r2) ?_,rfl,q⟩
 rw[JD];lia
def cC:x6:=λx ds M Q=>match x,ds with
 |.ref a,[y]=>match M a,cz M y with
  |some (.lst xs),some ys=>xs.length+ys.length<=sizeLine/\Q .non (M.upd a<|.lst (xs++ys))
  |_,_=>False
 |_,_=>False
theorem rb:x_ X "list.extend" (liftM X cC):=by
 intro pins s U H x vs v us Q I rx rv h;obtain⟨d,ds,M,QQ,rh,r,rs,h,up⟩:=h;unfold cC at h
 split at h
 .rename_i a y
  cases r;obtain⟨w,rfl,rw'⟩:=eF (ds:=[]) rs
  split at h
  .rename_i xs ys hM hy
   obtain⟨ws,h1,h2⟩:=rh _ _ hM;obtain⟨p,zs,rfl,hq,r2⟩:=cO rh rw' hy;have l1:=h2.length;have l2:=r2.length;have im:Imm H (upd H a<|.lst (ws++zs)):=Imm.upd (by rw[h1];trivial)
   exact qI pins s U H _ _ v us Q I rx rv ⟨a,p,ws,zs,rfl,rfl,h1,hq,by lia,up _ _ h.2 _ _ (rh.put (by rw[h1];trivial) ⟨_,upd_same,(h2.append r2).mono im⟩) (Frm.put<|.inr ⟨_,hM⟩) rfl⟩
  .exact h.elim
 .exact h.elim
def yG:x6:=λx ds M Q=>match x,ds with
 |.ref a,[]=>match M a with
  |some (.lst xs)=>match xs[xs.length-1]? with
   |some y=>Q y (M.upd a<|.lst xs.dropLast)
   |none=>False
  |_=>False
 |.ref a,[.int i]=>match M a with
  |some (.lst xs)=>match uY xs.length i with
   |some k=>match xs[k]? with
    |some y=>Q y (M.upd a<|.lst<|xs.eraseIdx k)
    |none=>False
   |none=>False
  |_=>False
 |_,_=>False
theorem tE:x_ X "list.pop" (liftM X yG):=by
 intro pins s U H x vs v us Q I rx rv h;obtain⟨d,ds,M,QQ,rh,r,rs,h,up⟩:=h;unfold yG at h
 split at h
 .rename_i a
  cases r;cases rs
  split at h
  .rename_i xs hM
   split at h
   .rename_i y ey
    obtain⟨ws,h1,h2⟩:=rh _ _ hM;obtain⟨w,hw,rw'⟩:=h2.get ey;have im:Imm H (upd H a<|.lst ws.dropLast):=Imm.upd (by rw[h1];trivial)
    exact Gz pins s U H _ _ v us Q I rx rv ⟨a,ws,w,rfl,rfl,h1,by rw[<- h2.length];exact hw,up _ _ h _ _ (rh.put (by rw[h1];trivial) ⟨_,upd_same,h2.dropLast.mono im⟩) (Frm.put<|.inr ⟨_,hM⟩)<|rw'.mono im⟩
   .exact h.elim
  .exact h.elim
 .rename_i a i
  cases r;obtain⟨w0,rfl,rw0⟩:=eF (ds:=[]) rs;cases rw0
  split at h
  .rename_i xs hM
   split at h
   .rename_i k ek
    split at h
    .rename_i y ey
     obtain⟨ws,h1,h2⟩:=rh _ _ hM;obtain⟨w,hw,rw'⟩:=h2.get ey;obtain⟨j1,j2,j3,j4⟩:=nQ ek;have hz:ws.length<=sizeLine:=(I.lstM h1).1;have hs:sizeLine=16777216:=rfl;have hl:=h2.length;have im:Imm H (upd H a<|.lst<|ws.eraseIdx k):=Imm.upd (by rw[h1];trivial)
     exact Af pins s U H _ _ v us Q I rx rv ⟨a,ws,i,k,w,rfl,rfl,h1,by lia,by lia,by rw[<- hl];exact j1,hw,up _ _ h _ _ (rh.put (by rw[h1];trivial) ⟨_,upd_same,(h2.eraseIdx k).mono im⟩) (Frm.put<|.inr ⟨_,hM⟩)<|rw'.mono im⟩
    .exact h.elim
   .exact h.elim
  .exact h.elim
 .exact h.elim
def gX:List D->Option (List Str)
 |[]=>some []
 |.str x::ds=>match gX ds with
  |some xs=>some (x::xs)
  |none=>none
 |_=>none
theorem oK:∀{ds:List D} {vs:List V} {xs:List Str},Rps K H ds vs->gX ds=some xs->vs=xs.map V.str
 |[],vs,xs,r,e=>by cases e;exact r
 |d::ds,vs,xs,r,e=>by
  obtain⟨v,r',rfl,a,b⟩:=r;cases d with
  |str c=>
   simp only[gX]at e
   split at e
   .rename_i xs' e2
    cases e;cases a;rw[oK b e2];rfl
   .cases e
  |_=>cases e
end
section
variable {P:Program}{w:World}{K:JF}{mg:Str->Option Value}{base:Heap}{N:List Str}{qual:Str}{scope:Scope}{f C:Addr}{cd:Value}{A:Around}{outer:List Env}{s0:Shared}{H0:Hp}{E:XK}{B:Bd}
theorem AD{X:Cx}{st:Stmt}{t:TS}{E':Value->Shared->Prop}(h:PS X st t)(k:∀e s,X.xe e s->E' e s):PS (X.wish E') st t:=λpins s U H D I q=>
 wpAny_mono (h pins s U H D (I.unwish) q) (λf s' z=>by
  cases f with
  |next=>obtain⟨σ',H',I,q⟩:=z;exact⟨σ',H',I.wish _,q⟩
  |brk=>obtain⟨σ',H',I,q⟩:=z;exact⟨σ',H',I.wish _,q⟩
  |cont=>obtain⟨σ',H',I,q⟩:=z;exact⟨σ',H',I.wish _,q⟩
  |ret u=>obtain⟨v,σ',H',I,r,q⟩:=z;exact⟨v,σ',H',I.wish _,r,q⟩) k
def eV(C:Addr)(EE:DX):ar:=λ_ _ M=>EE C M
theorem yc{x msg:Str}{np cpos pos apos:Pos}{jj}{EE:DX}(X:ExcAt K C)(hm:mg x=some (.ref C))(ux:y1 K B EE E)(hg:Gl (dh (lg P w) P w K mg base N qual scope f cd A outer s0 H0 E) x)
  (hd:(x==("__debug__":Str))=false:=by decide)
  (hs:starEach [.Constant (.str msg) jj apos] (dh (lg P w) P w K mg base N qual scope f cd A outer s0 H0 E).env=[(false,eval (.Constant (.str msg) jj apos) (dh (lg P w) P w K mg base N qual scope f cd A outer s0 H0 E).env)]:=by rfl):
  DS (dh (lg P w) P w K mg base N qual scope f cd A outer s0 H0 E) B (.Raise (some<|.Call (.Name x np) [.Constant (.str msg) jj apos] [] cpos) none pos) (eV C EE):=by
 have h1:PS (dh (qA P w C) P w K mg base N qual scope f cd A outer s0 H0 E) (.Raise (some<|.Call (.Name x np) [.Constant (.str msg) jj apos] [] cpos) none pos) (qR E C):=zE X hm hg hd hs;have h2:PS (dh (lg P w) P w K mg base N qual scope f cd A outer s0 H0 E) (.Raise (some<|.Call (.Name x np) [.Constant (.str msg) jj apos] [] cpos) none pos) (qR E C):=
  AD h1 λe s h=>wpAny_mono h (λ_ _ z=>⟨C,z⟩) λ_ _ z=>⟨C,z⟩
 refine ck h2 ?_
 rintro D U H ⟨Y,M,DD,s,h,up⟩
 exact ux C M h H s.rh s.i0
end
section
variable {X:Cx}{B:Bd}
theorem BF{P:Program}{w:World}{K:JF}{mg:Str->Option Value}{base:Heap}{k:Nat}{f C:Addr}{fd:FuncData}{ps:List Str}{sp:Sp}(F:FnOk P w K mg base (lg P w) k f fd ps sp):
  FnOk P w K mg base (qA P w C) k f fd ps (λvs H Q E=>sp vs H Q λCv a H'=>Cv=.ref C/\E Cv a H'):=
 ⟨λvs H Q E h=>F.len _ _ _ _ h,λA outer s H args us vs Q E hr he hb hv hs=>codeAny_mono (F.run A outer s H args us vs Q _ hr he hb hv hs) λr s' h=>by
  cases r with
  |ok fl=>cases fl<;>exact h
  |error e=>
   obtain⟨C',ea,H',B,a0,e1,e2,e3,e4,e5,e6,e7,e8,e9,e10⟩:=h;have eC:C'=C:=by injection e9
   subst eC;exact⟨ea,H',B,a0,e1,e2,e3,e4,e5,e6,e7,e8,e10⟩⟩
end
end L3
namespace L2
open PySem PySem.Spec PyProof.Rows
theorem eL{scope:Scope}{env:Env}{x:Str}{k:NameKind}(h:(relabel scope env).names.lookup x=some k):∃k',(x,k')∈scope.names/\(k=k'\/(k'=.free/\k=.cell)):=by
 have hm:=Lg h;obtain⟨⟨n,kk⟩,h1,h2⟩:=La.mp hm
 by_cases hc:(kk==NameKind.free&&env.scope.kind==.function&&env.kindOf n==some .cell)=true
 .have h2':(n,NameKind.cell)=(x,k):=by rw[<- h2];show _=(if _ then _ else _);rw[if_pos hc]
  cases h2';have hf:kk=.free:=by
   simp only[JU]at hc;exact beq_iff_eq.mp hc.1.1
  exact⟨kk,h1,.inr ⟨hf,rfl⟩⟩
 .have h2':(n,kk)=(x,k):=by rw[<- h2];show _=(if _ then _ else _);rw[if_neg hc]
  cases h2';exact⟨_,h1,.inl rfl⟩
theorem ij{x:Str}:∀{fs:List Str} {cs:List Addr},fs.length=cs.length->x∈fs->∃c,(fs.zip cs).lookup x=some c
 |[],_,_,h=>by cases h
 |_::_,[],h,_=>by simp at h
 |y::fs,c::cs,hl,h=>by
  rw[Pq,NT];cases e:x==y with
  |true=>exact⟨c,rfl⟩
  |false=>
   have ne:¬x=y:=λz=>by rw[z]at e;simp at e
   rcases JM.mp h with z|z
   .exact absurd z ne
   .exact ij (by simpa using hl) z
theorem Cf{X:Cx}{scope:Scope}{ls fs:List Str}{cs:List Addr}{js:List Nat}(hk:scope.kind=.function)(hn:∀y∈scope.names,y.2≠.cell/\(y.2=.free->y.1∈fs))(hl:∀x∈scope.names,x.2=.local->scope.names.lookup x.1=some .local)
  (hlen:fs.length=cs.length) (hcl:closureFor scope X.env=pure (fs.zip cs)) (hc:∀p∈fs.zip cs,X.env.cells.lookup p.1=some p.2) (hf:Frees X scope fs js):CompOk X scope (fs.zip cs) ls fs js where
 kind:=hk
 nocell:=λy hy=>(hn y hy).1
 locs:=hl
 clos:=hcl
 cells:=λy d h=>hc (y,d) (Lg h)
 has:=λy h=>by
  have hy:y∈fs:=by
   rcases h with h|h
   .obtain⟨k',h1,h2|⟨h2,_⟩⟩:=eL h
    .exact absurd h2.symm (hn _ h1).1
    .exact(hn _ h1).2 h2
   .obtain⟨k',h1,h2|⟨h2,_⟩⟩:=eL h
    .exact(hn _ h1).2 h2.symm
    .exact(hn _ h1).2 h2
  exact ij hlen hy
 frees:=hf
theorem memZ{α:Type}{C:α->Prop}:∀p∈([]:List α),C p:=λ_ h=>by cases h
theorem memC{α:Type}{C:α->Prop}{a:α}{l:List α}(ha:C a)(hl:∀p∈l,C p):∀p∈a::l,C p:=λp hp=>by
 rcases JM.mp hp with rfl|z
 .exact ha
 .exact hl p z
end L2
namespace L3
open PySem L2
section
variable {X:Cx}{B:Bd}{pos:Pos}
theorem dnm(i:Nat){x:Str}{pos:Pos}(hN:X.N[i]?=some x:=by rfl)(hv:Hq X.env.scope x:=by first|exact Or.inl rfl|exact Or.inr (Or.inl rfl)|exact Or.inr (Or.inr rfl))(hd:(x==("__debug__":Str))=false:=by decide)
  (hcd:(x==("__classdict__":Str))=false:=by decide):DE X B (.Name x pos) (ac i):=Hc hN hv hd hcd
def qw:DX:=λ_ _=>False
theorem uxN{K:JF}{E:XK}:y1 K B qw E:=λ_ _ z=>z.elim
theorem la:bootBuiltins "list"=some (.type "list"):=by decide +kernel
theorem lI:bootBuiltins "tuple"=some (.type "tuple"):=by decide +kernel
theorem AQ:bootBuiltins "all"=some (.builtin "all"):=by decide +kernel
theorem eP:bootBuiltins "isinstance"=some (.builtin "isinstance"):=by decide +kernel
theorem Ah:bootBuiltins "bool"=some (.type "bool"):=by decide +kernel
theorem D3:bootBuiltins "int"=some (.type "int"):=by decide +kernel
theorem Cs:bootBuiltins "str"=some (.type "str"):=by decide +kernel
theorem yz:bootBuiltins "dict"=some (.type "dict"):=by decide +kernel
theorem Bn:bootBuiltins "min"=some (.builtin "min"):=by decide +kernel
theorem By:bootBuiltins "max"=some (.builtin "max"):=by decide +kernel
theorem sQ:bootBuiltins "len"=some (.builtin "len"):=by decide +kernel
theorem HF{x:Str}{T:String}(hg:Gl X x)(hm:X.mg x=none)(hv:bootBuiltins x=some (.type T))(hn:x≠"__name__":=by decide)(hd:(x==("__debug__":Str))=false:=by decide):DE X B (.Name x pos) (dC<|.ty T):=
 xq (CP (v:=.ty T) hg hm hv rfl hn hd) λ_=>rfl
theorem z8{a b c:Expr}{ta tb tc:bg}{op op':CmpOp}{r r':dq}(ho:ce X (compareOp op) (liftR2 X r))(ho':ce X (compareOp op') (liftR2 X r'))(ha:DE X B a ta)(hb:DE X B b tb)(hc:DE X B c tc)(hm:lastMarks [op,op'] [b,c]=false:=by with_unfolding_all rfl):
  DE X B (.Compare a [op,op'] [b,c] pos) (dg r r' ta tb tc):=by
 refine aZ (Ac ho ho' ha hb hc hm) ?_
 rintro U H Q ⟨Y,M,QQ,s,h,u⟩
 refine⟨Y,M,_,s,h,λx M1 h1 v1 H1 rh1 i1 r1=>?_⟩;refine⟨Y,M1,_,s.go rh1 i1,h1,λy M2 h2 v2 H2 rh2 i2 r2=>?_⟩;refine⟨x,y,M2,_,rh2,r1.mf rh1 i2,r2,h2,λz M3 h3 v3 H3 rh3 i3 r3=>?_⟩;cases z with
 |bl k=>
  cases r3;cases k with
  |true=>
   refine⟨true,rfl,?_⟩;rw[if_pos rfl];refine⟨Y,M3,_,s.go rh3 ((i1.trans i2).trans i3),h3,λw M4 h4 v4 H4 rh4 i4 r4=>?_⟩;exact⟨y,w,M4,QQ,rh4,(r2.mf rh2<|i3.trans i4),r4,h4,u.go<|((i1.trans i2).trans i3).trans i4⟩
  |false=>
   refine⟨false,rfl,?_⟩;rw[if_neg JY];exact u _ M3 h3 _ H3 rh3 ((i1.trans i2).trans i3) rfl
 |_=>exact(show False from h3).elim
def frzs:List D->Mem->(List D->Mem->Prop)->Prop
 |[],M,Q=>Q [] M
 |d::ds,M,Q=>match d with
  |.ref a=>match M a with
   |some (.lst xs)=>frzs ds (M.del a) λes M'=>Q (.lst xs::es) M'
   |_=>frzs ds M λes M'=>Q (d::es) M'
  |_=>frzs ds M λes M'=>Q (d::es) M'
theorem gl{pins:List (Addr×Obj)}{U:L2.St}{s:Shared}:∀{ds:List D} {vs:List V} {M:Mem} {H:Hp} {Q:List D->Mem->Prop},Inv X pins U H s->RepH X.K H M->Rps X.K H ds vs->frzs ds M Q->
  ∃H' es M',Inv X pins U H' s/\RepH X.K H' M'/\Frm M H M' H'/\Rps X.K H' es vs/\Q es M'
 |[],vs,M,H,Q,I,rh,r,h=>⟨H,[],M,I,rh,Frm.refl,r,h⟩
 |d::ds,vs,M,H,Q,I,rh,r,h=>by
  obtain⟨v,vs',rfl,a,b⟩:=r;unfold frzs at h
  split at h
  .rename_i a'
   cases a
   split at h
   .rename_i xs e
    obtain⟨ws,h1,h2⟩:=rh _ _ e;obtain⟨o,I2⟩:=Inv.freeze I h1;have im:Imm H (upd H a'<|.frz o<|.lst ws):=Imm.upd (by rw[h1];trivial)
    obtain⟨H',es,M',I',rh',f,r',q⟩:=gl I2 (rh.freeze h1) (b.mono im) h;refine⟨H',_,M',I',rh',(Frm.del ⟨_,e⟩).trans f,.cons ?_ r',q⟩;have z:Rp X.K (upd H a'<|.frz o<|.lst ws) (.lst xs) (.ref a'):=⟨a',ws,rfl,⟨o,upd_same⟩,h2.mono im⟩;exact z.mf (rh.freeze h1) f
   .obtain⟨H',es,M',I',rh',f,r',q⟩:=gl I rh b h
    exact⟨H',_,M',I',rh',f,.cons (d:=.ref a') rfl r',q⟩
  .obtain⟨H',es,M',I',rh',f,r',q⟩:=gl I rh b h
   exact⟨H',_,M',I',rh',f,.cons (a.mf rh f) r',q⟩
def yf(d:D)(M:Mem)(Q:DK):Prop:=match d with
 |.tup ds=>frzs ds M λes M'=>Q (.tup es) M'
 |d=>Q d M
def pk(t:bg):bg:=λY M Q=>t Y M λd M'=>yf d M' Q
theorem Cg{e:Expr}{te:bg}(h:DE X B e te):DE X B e (pk te):=by
 intro pins s U H Q I hq;obtain⟨Y,M,QQ,sr,hT,u⟩:=hq;refine bG (h pins s U H (λv H'=>∃d M',RepH X.K H' M'/\Frm M H M' H'/\Rp X.K H' d v/\yf d M' QQ) I ⟨Y,M,_,sr,hT,λd M' q v H' rh i r=>⟨d,M',rh,i,r,q⟩⟩) ?_
 rintro w s' ⟨v,H',I',rv,d,M',rh,i,r,q⟩
 unfold yf at q
 split at q
 .obtain⟨p,vs,rfl,ht,r⟩:=r
  obtain⟨H2,es,M2,I2,rh2,f2,r2,q2⟩:=gl I' rh r q;exact⟨.ref p,H2,I2,rv,u _ _ q2 _ H2 rh2 (i.trans f2) ⟨p,vs,rfl,ht.mono (f2.imm rh),r2⟩⟩
 .exact⟨v,H',I',rv,u _ _ q v H' rh i r⟩
theorem FP{P:Program}{w:World}{K:JF}{mg:Str->Option Value}{base:Heap}{k n:Nat}{f:Addr}{fd:FuncData}{ps:List Str}{T:Sd}(F:FnOk P w K mg base (lg P w) k f fd ps (cj K n T)):
  FnOk P w K mg base CX0 k f fd ps (λvs H Q _=>cj K n T vs H Q E0):=
 ⟨λvs H Q E h=>F.len _ _ _ _ h,λA outer s H args us vs Q E hr he hb hv hs=>codeAny_mono (F.run A outer s H args us vs Q E0 hr he hb hv hs) λr s' h=>by
  cases r with
  |ok fl=>cases fl<;>exact h
  |error e=>
   obtain⟨C',ea,H',B,a0,e1,e2,e3,e4,e5,e6,e7,e8,e9⟩:=h;exact(show False from e9).elim⟩
theorem AY{K:JF}{T:Sd}{H:Hp}{a:Addr}{ns:List Int}{Q:VK}(hO:yS H)(hS:SqL K H a (ns.map V.int))(h:T [.ml (ns.map D.int)] (λ_=>none) (λd _=>d=.bl true) qw)(k:∀H',Q (.bl true) H'):cj K 1 T [.ref a] H Q E0:=by
 refine⟨rfl,[.ml (ns.map D.int)],λ_=>none,_,_,λb o e=>(by cases e),.cons ⟨a,_,rfl,?_,qt rfl⟩ .nil,h,λd M' q v H' rh f r=>?_,λ_ _ z=>z.elim⟩
 .rcases hS with (z|z)|z
  .rcases hO a with e|⟨o,xs,e⟩
   .rw[e]at z;cases z
   .rw[e]at z;cases z
  .exact .inl z
  .exact .inr z
 .subst q;cases r;exact k H'
end
theorem iC{K:JF}{h h':Heap}{N:Addr}(X:K.In h)(X':K.In h')(e:W.nsOkIn K N=true):h'.nsMap N=h.nsMap N:=by
 unfold W.nsOkIn at e
 split at e
 .rename_i ho
  funext x;unfold Heap.nsMap;rw[X _ _ ho,X' _ _ ho]
 .cases e
theorem jB{K:JF}{h:Heap}{C:Addr}(X:K.In h)(q:W.excIn K C [.type "ValueError",.type "Exception",.type "BaseException",.type "object"] "ValueError.__new__"=true):ExcAt K C:=by
 unfold W.excIn at q
 split at q
 .rename_i dd cd sl ho
  split at q
  .rename_i C' bm k0 k1 k2 k3 n k5 hm hs
   simp only[JU,beq_iff_eq,NJ]at q;obtain⟨⟨⟨⟨⟨rfl,rfl⟩,hdel⟩,ht⟩,hok⟩,hni⟩:=q;obtain⟨nm,bs,mro,ns,qn,hd,sn,sub,ab,col,del⟩:=cd;dsimp only at hm hdel hok hni;subst hm hdel;have hsl:sl=#[k0,k1,k2,k3,some (.builtin "ValueError.__new__"),k5]:=by
    obtain⟨l⟩:=sl;simp only at hs;rw[hs]
   subst hsl;refine⟨⟨nm,qn,ns,bs,bm,_,hd,sn,sub,ab,col,dd,k0,k1,k2,k3,k5,"ValueError.__new__","ValueError.__init__","ValueError",h.nsMap ns,λh' X'=>⟨X' _ _ ho,?_,W.tail_of_in X' ht⟩,W.nsMap_none_of_in X hok hni,PySem.F.excBase_ValueError,by decide,(W.tail_of_in X ht).hasType<|by decide⟩⟩
   rw[<- iC X X' hok];exact .of_isNs (W.isNs_of_in X' hok)
  .cases q
 .cases q
end L3
namespace L2
open PySem
end L2
namespace L3
open PySem L2
def zf:Expr->Bool
 |.Starred ..=>false
 |_=>true
theorem xi{e:Expr}{es:List Expr}{env:Env}(h:zf e=true):starEach (e::es) env=(false,eval e env)::starEach es env:=by
 cases e<;>first|rfl|exact NW h
section
variable {X:Cx}{B:Bd}
theorem da_c{e:Expr}{es:List Expr}{te:bg}{t:dZ}(ha:DE X B e te)(hr:DA X B es t)(hp:zf e=true:=by rfl):DA X B (e::es) (aa te t):=Bz ha hr (xi hp)
end
section
variable {X:Cx}{B:Bd}
end
section
variable {X:Cx}{B:Bd}
end
section
variable {X:Cx}{B:Bd}
end
end L3
namespace LS
open PySem
def Rs(xs:Array Nat):Prop:=xs.toList.Pairwise (· < ·)
theorem Rs.lt{xs:Array Nat}(r:Rs xs){i j:Nat}(h:i<j)(hj:j<xs.size):xs[i]'(by lia)<xs[j]:=by
 have:=L6.mp r i j (by simpa using (by lia:i<xs.size)) (by simpa using hj) h
 simpa using this
structure Lb(xs:Array Nat)(j p:Nat):Prop where
 le:p<=xs.size
 lo:∀i (h:i<xs.size),i<p->xs[i]<j
 hi:∀i (h:i<xs.size),p<=i->j<=xs[i]
theorem kY{xs:Array Nat}(r:Rs xs)(j:Nat):∀(f lo hi:Nat),lo<=hi->hi<=xs.size->hi-lo<=f->(∀i (h:i<xs.size),i<lo->xs[i]<j)->(∀i (h:i<xs.size),hi<=i->j<=xs[i])->Lb xs j (MW xs j f lo hi)
 |0,lo,hi,h1,h2,h3,a,b=>by
  have:lo=hi:=by lia
  subst this;exact⟨by simp only[MW];exact h2,a,b⟩
 |f+1,lo,hi,h1,h2,h3,a,b=>by
  simp only[MW]
  by_cases c:lo<hi
  .rw[if_pos c]
   have hm:(lo+hi) / 2<xs.size:=by lia
   have hg:xs.getD ((lo+hi) / 2) j=xs[(lo+hi) / 2]:=by simp[Array.getD,hm]
   rw[hg]
   by_cases d:xs[(lo+hi) / 2]<j
   .rw[if_pos d]
    refine kY r j f _ _ (by lia) h2 (by lia) (λi h q=>?_) b
    rcases Li i ((lo+hi) / 2) with z|z
    .exact NN (r.lt z hm) d
    .have:i=(lo+hi) / 2:=by lia
     subst this;exact d
   .rw[if_neg d]
    refine kY r j f _ _ (by lia) (by lia) (by lia) a (λi h q=>?_)
    rcases Li ((lo+hi) / 2) i with z|z
    .have:=r.lt z h;lia
    .have:i=(lo+hi) / 2:=by lia
     subst this;lia
  .rw[if_neg c]
   have:lo=hi:=by lia
   subst this;exact⟨h2,a,b⟩
theorem A5{xs:Array Nat}(r:Rs xs)(j:Nat):Lb xs j (Mt xs j):=
 kY r j xs.size 0 xs.size (KR _) (JE _) (JE _) (λi _ h=>by lia) (λi h q=>by lia)
theorem FL{xs:Array Nat}(r:Rs xs){j:Nat}(hj:xs[Mt xs j]?≠some j):Rs (Mx xs (Mt xs j) j):=by
 have b:=A5 r j;generalize Mt xs j=p at b hj;unfold Rs at r ⊢;have e:(Mx xs p j).toList=xs.toList.take p++j::xs.toList.drop p:=by
  unfold Mx;simp[Mg]
 have m:∀y∈xs.toList.drop p,j<y:=λy hy=>by
  obtain⟨k,hk⟩:=OV.mp hy;rw[List.getElem?_drop,KY]at hk;obtain⟨h1,h2⟩:=Of.mp hk;have:=b.hi _ h1 (by lia)
  rcases Li j y with z|z
  .exact z
  .have ey:xs[p+k]=j:=by lia
   cases k with
   |zero=>exact absurd (by rw[<- ey];simpa using h1) hj
   |succ k=>
    have hp:p<xs.size:=by lia
    have:=b.hi p hp (JE _);have:xs[p]<xs[p+(k+1)]:=by
     have:=L6.mp r p (p+(k+1)) (by simpa using hp) (by simpa using h1) (by lia)
     simpa using this
    lia
 rw[e,List.pairwise_append];refine⟨r.sublist (List.take_sublist ..),LD.mpr ⟨m,r.sublist<|List.drop_sublist ..⟩,λx hx y hy=>?_⟩;obtain⟨k,hk⟩:=OV.mp hx;have hkp:k<p:=by
  rcases Li k p with z|z
  .exact z
  .rw[List.getElem?_take,if_neg (by lia)]at hk;cases hk
 rw[Oz hkp,KY]at hk;obtain⟨h1,h2⟩:=Of.mp hk;have:=b.lo _ h1 hkp;rcases JM.mp hy with rfl|hy
 .lia
 .have:=m y hy;lia
theorem AZ{mask f mv:Nat}{led pl:Bool}{hs:Array Int}{t:SetTable}{o:Array Nat}(e:N0 mask f mv led pl hs=some (t,o)):Rs t.place/\t.dummies=#[]:=by
 unfold N0 at e;cases hq:OR mask hs with
 |none=>rw[hq]at e;cases e
 |some q=>
  rw[hq]at e;cases e;refine⟨?_,rfl⟩;unfold Rs;rw[Pc];rw[NI,List.pairwise_filterMap];refine Om ?_ List.pairwise_lt_range;intro a b hab x hx y hy;obtain⟨_,_,rfl⟩:=Ly.mp hx;obtain⟨_,_,rfl⟩:=Ly.mp hy;exact hab
theorem qb{t:SetTable}{f:Nat->Int}{h:Int}(hd:t.dummies=#[]):∀(n:Nat) (p:Ph) (j:Nat) (d:Option Nat),p.dummy=none->MV t f h n p=some (.empty j d)->t.place[Mt t.place j]?≠some j/\d=none
 |0,p,j,d,hp,e=>by simp[MV]at e
 |n+1,p,j,d,hp,e=>by
  have adv:∀q:Ph,q.dummy=none->(t.advance q).dummy=none:=λq hq=>by
   unfold SetTable.advance
   split
   .exact hq
   .exact hq
  simp only[MV]at e;cases hs:t.slot p.j with
  |empty=>
   rw[hs]at e;simp only[Oy,SetTable.Met.empty.injEq]at e;obtain⟨rfl,rfl⟩:=e;refine⟨λz=>?_,hp⟩;unfold SetTable.slot at hs;simp[z]at hs
  |dummy=>
   unfold SetTable.slot at hs;rw[hd]at hs;have:Nw #[] p.j=false:=by simp[Nw]
   rw[this]at hs;dsimp only at hs
   split at hs<;>simp at hs
  |live i=>
   rw[hs]at e;dsimp only at e
   split at e
   .cases e
   .exact qb hd n _ j d (adv p hp) e
theorem C4{t:SetTable}{h:Int}{q:Nat×Bool}(r:Rs t.place)(hd:t.dummies=#[])(e:t.freeSlot h=some q):Rs (t.put q.1).1.place/\(t.put q.1).1.dummies=#[]:=by
 unfold SetTable.freeSlot at e
 split at e
 .rename_i j d hm
  cases e;obtain⟨h1,h2⟩:=qb hd _ _ _ _ rfl hm;subst h2;refine⟨FL r h1,?_⟩;show (if Nw t.dummies j=true then _ else t.dummies)=#[]
  rw[hd,if_neg (by simp[Nw])]
 .cases e
section
variable {prog:Program}{w:World}{K:Type}[DecidableEq K]{A:Around}{E:Value->Shared->Prop}{s:Shared}
def Pl(t:SetTable):Prop:=t.plain=true->Rs t.place/\t.dummies=#[]
theorem pP(t:SetTable)(n:Nat):(t.orStandIn n).led=t.led/\(Pl t->Pl (t.orStandIn n)):=by
 unfold SetTable.orStandIn
 by_cases q:t.fits n=true
 .rw[if_pos q];exact⟨rfl,id⟩
 .rw[if_neg q];exact⟨rfl,λ_ e=>by cases e⟩
theorem rP(t:SetTable)(es:Array (Int×Value))(h:Int)(x:Value):(layNew t es h x).2.1.led=t.led/\(Pl t->Pl (layNew t es h x).2.1):=by
 unfold layNew;cases hq:t.freeSlot h with
 |some q=>
  have s:=pP (t.put q.1).1 (Mx es (t.put q.1).2 (h,x)).size;exact⟨s.1,λp=>s.2 λe=>C4 (p e).1 (p e).2 hq⟩
 |none=>exact⟨rfl,λ_ e=>by cases e⟩
theorem qB{t t':SetTable}{hs:Array Int}{n:Nat}{o:Array Nat}(e:t.relaid hs n=some (t',o)):t'.led=t.led/\Pl t':=by
 refine⟨?_,λ_=>AZ e⟩;unfold SetTable.relaid N0 at e;cases hq:OR (SetTable.sizeAbove n-1) hs with
 |none=>rw[hq]at e;cases e
 |some q=>rw[hq]at e;cases e;rfl
theorem mq(t:SetTable)(es:Array (Int×Value))(n:Nat):(relayAll t es n).2.1.led=t.led/\Pl (relayAll t es n).2.1:=by
 unfold relayAll;cases hr:t.relaid (es.map (·.1)) n with
 |none=>exact⟨rfl,λz=>by cases z⟩
 |some q=>
  have hq:=qB (t':=q.1) (o:=q.2) hr
  try dsimp only
  split
  .exact hq
  .exact⟨rfl,λz=>by cases z⟩
structure Holds(knd:KeyKind prog w K)(h:Heap)(a:Addr)(led:Bool)(l:List K):Prop where
 ex:∃(o:Obj) (es:Array (Int×Value)) (ep:Nat) (t:SetTable),h.get? a=some o/\o.ExactSet/\o.data=.set es ep t/\ElemsOf knd es.toList/\(∀k,k∈l↔∃e∈es.toList,knd.is k e.2=true)/\es.size=l.length/\t.fits es.size=true/\t.led=led/\Pl t
 nd:l.Nodup
 few:l.length<scanBound
variable {knd:KeyKind prog w K}
theorem stored{h:Heap}{a:Addr}{o:Obj}{es es1:Array (Int×Value)}{ep:Nat}{t t1:SetTable}{led:Bool}{l:List K}(ho:h.get? a=some o)(hx:o.ExactSet)(hd:o.data=.set es ep t)(q1:ElemsOf knd es1.toList)
  (q2:∀k,k∈l↔∃e∈es1.toList,knd.is k e.2=true) (q3:es1.size=l.length) (q4:t1.fits es1.size=true) (q5:t1.led=led) (q6:Pl t1) (nd:l.Nodup) (few:l.length<scanBound):
  (h.update a<|Obj.putSet es1 t1).get? a=some { o with data:=.set es1 (ep+1) t1 }/\Holds knd (h.update a<|Obj.putSet es1 t1) a led l:=by
 have e:=LO (Obj.putSet es1 t1) ho (by rw[putSet_of es1 t1 hd];rfl)
 rw[putSet_of es1 t1 hd]at e;exact⟨e,⟨_,es1,ep+1,t1,e,hx,rfl,q1,q2,q3,q4,q5,q6⟩,nd,few⟩
theorem om{g:Bool->Sem Unit}(hg:∀(b:Bool) (s':Shared) (P:Unit->Shared->Prop),P () s'->wpAny (model prog w) A (g b) P E s'){a:Addr}{o:Obj}{es es1:Array (Int×Value)}{ep:Nat}{t t2:SetTable}{led wd:Bool}{l:List K}{R:Option Bool->Shared->Prop}
  (ho:s.heap.get? a=some o) (hx:o.ExactSet) (hd:o.data=.set es ep t) (q1:ElemsOf knd es1.toList) (q2:∀k,k∈l↔∃e∈es1.toList,knd.is k e.2=true) (q3:es1.size=l.length) (q4:t2.fits es1.size=true) (q5:t2.led=led)
  (q6:Pl t2) (nd:l.Nodup) (few:l.length<scanBound) (hR:∀h',K0 a s.heap h'->Holds knd h' a led l->R (some true) { s with heap:=h' }):
  wpAny (model prog w) A (storeSet a es1 t2 >>= λ_=>if (!wd&&t2.tooFull)=true then g (relayAll t2 es1<|LN es1.size).2.2 >>= λ_=>storeSet a (relayAll t2 es1<|LN es1.size).1 (relayAll t2 es1<|LN es1.size).2.1 >>= λ_=>pure (some true) else pure (some true)) R E s:=by
 obtain⟨e1,H1⟩:=stored (knd:=knd) ho hx hd q1 q2 q3 q4 q5 q6 nd few;have hb:es1.size<scanBound:=by rw[q3];exact few
 refine wpAny_bind (wpAny_storeSet_of ho hd ?_<|fits_of_scanBound hb)
 by_cases hq:(!wd&&t2.tooFull)=true
 .rw[if_pos hq]
  have r1:=relayAll_perm t2 es1 (LN es1.size);have r2:=relayAll_fits t2 es1 (LN es1.size);have r3:=mq t2 es1 (LN es1.size);generalize relayAll t2 es1 (LN es1.size)=L at r1 r2 r3 ⊢;have r4:L.1.size=es1.size:=by rw[<- Kk,r1.length_eq,Kk]
  refine wpAny_bind (hg _ _ _<|wpAny_bind<|wpAny_storeSet_of e1 rfl ?_<|by rw[r4];exact fits_of_scanBound hb)
  obtain⟨_,H2⟩:=stored (knd:=knd) (l:=l) (led:=led) (es1:=L.1) (t1:=L.2.1) e1 hx rfl (q1.perm r1) (λk=>(q2 k).trans ⟨λ⟨e,he,z⟩=>⟨e,r1.mem_iff.mpr he,z⟩,λ⟨e,he,z⟩=>⟨e,r1.mem_iff.mp he,z⟩⟩) (by rw[r4];exact q3) r2 (r3.1.trans q5) r3.2 nd few
  exact wpAny_pure (hR _ ((KQ s.heap a _).trans<|KQ _ a _) H2)
 .rw[if_neg hq]
  exact wpAny_pure (hR _ (KQ s.heap a _) H1)
theorem B6{a:Addr}{led:Bool}{l:List K}{k:K}{x:Value}{Q:Bool->Shared->Prop}(hkey:knd.is k x=true)(hsc:x.scannable=true)(H:Holds knd s.heap a led l)(room:l.length+1<scanBound)
  (h:∀h' b,K0 a s.heap h'->Holds knd h' a led (if k∈l then l else l++[k])->Q b { s with heap:=h' }):wpAny (model prog w) A (setAddHashed a x<|knd.hash k) Q E s:=by
 obtain⟨⟨o,es,ep,t,ho,hx,hd,hel,hm,hsz,hf,hle,hpl⟩,nd,few⟩:=H;have hb:es.size<scanBound:=by rw[hsz];exact few
 unfold setAddHashed setAddHashedIn;refine wpAny_holding (wpAny_bind<|wpAny_setState_of ho hd hf ?_);simp only[byScan_of hsc hb hel,if_true];unfold setAddByScan;refine wpAny_bind (wpAny_bind<|wpAny_rule<|wpAny_bind<|wpAny_setScan_of hkey ho hd hf hel ?_)
 by_cases hk:k∈l
 .obtain⟨e,he,hp⟩:=(hm k).mp hk
  cases hr:es.toList.findIdx? (λe=>knd.is k e.2) with
  |none=>have:=L7.mp hr e he;rw[hp]at this;cases this
  |some j=>
   refine wpAny_pure (wpAny_pure ?_);have:=h s.heap false (Heap.SameBut.refl a s.heap) (by rw[if_pos hk];exact⟨⟨o,es,ep,t,ho,hx,hd,hel,hm,hsz,hf,hle,hpl⟩,nd,few⟩)
   cases s;exact this
 .have hr:es.toList.findIdx? (λe=>knd.is k e.2)=none:=L7.mpr λe he=>by
   cases q:knd.is k e.2 with
   |false=>rfl
   |true=>exact absurd ((hm k).mpr ⟨e,he,q⟩) hk
  rw[hr];have p1:=layNew_perm t es (knd.hash k) x;have p2:=layNew_fits t es (knd.hash k) x;have p3:=rP t es (knd.hash k) x;rw[Array.toList_push]at p1
  try dsimp only
  generalize layNew t es (knd.hash k) x=L at p1 p2 p3 ⊢;obtain⟨es1,t1,wd,gv⟩:=L;dsimp only at p1 p2 p3 ⊢;have q1:ElemsOf knd es1.toList:=(hel.push hkey hsc).perm p1;have q2:∀k',k'∈l++[k]↔∃e∈es1.toList,knd.is k' e.2=true:=λk'=>by
   constructor
   .intro hk'
    rcases JW.mp hk' with z|z
    .obtain⟨e,he,hp⟩:=(hm k').mp z
     exact⟨e,p1.mem_iff.mpr (Ld _ he),hp⟩
    .rw[Ks]at z;subst z
     exact⟨_,p1.mem_iff.mpr (Ka _<|Ks.mpr rfl),hkey⟩
   .rintro⟨e,he,hp⟩
    rcases JW.mp (p1.mem_iff.mp he) with z|z
    .exact Ld _ ((hm k').mpr ⟨e,z,hp⟩)
    .rw[Ks]at z;subst z
     exact Ka _ (Ks.mpr<|knd.inj x k' k hp hkey)
  have q3:es1.size=(l++[k]).length:=by rw[<- Kk,p1.length_eq];simp[hsz]
  have nd':(l++[k]).Nodup:=Mh.mpr ⟨nd,by simp,λy hy z hz=>by rw[Ks]at hz;subst hz;rintro rfl;exact hk hy⟩
  have few':(l++[k]).length<scanBound:=by simp;lia
  have q4:Pl t1:=p3.2 hpl;have hgw:∀(b:Bool) (s':Shared) (P:Unit->Shared->Prop),P () s'->wpAny (model prog w) A (match b with|true=>rule "set.scan.the-table-gave-way"|false=>pure ()) P E s':=λb s' P z=>by
   cases b
   .exact wpAny_pure z
   .exact wpAny_rule z
  have last:∀h',K0 a s.heap h'->Holds knd h' a led (l++[k])->wpAny (model prog w) A (pure true) Q E { s with heap:=h' }:=λh' z H'=>wpAny_pure (h h' true z<|by rw[if_neg hk];exact H')
  refine wpAny_bind (hgw gv s _ ?_)
  by_cases hpn:t1.plain=true
  .rw[if_pos hpn]
   refine wpAny_bind (wpAny_of_eq (hashByValue_scannable 8 hsc) ?_);cases hpk:plainKind x with
   |true=>exact om (knd:=knd) (g:=λb=>match b with|true=>rule "set.scan.the-table-gave-way"|false=>pure ()) hgw ho hx hd q1 q2 q3 p2 (p3.1.trans hle) q4 nd' few' last
   |false=>exact om (knd:=knd) (g:=λb=>match b with|true=>rule "set.scan.the-table-gave-way"|false=>pure ()) (t2:={ t1 with plain:=false }) hgw ho hx hd q1 q2 q3 (SetTable.fits_plain_off p2) (p3.1.trans hle) (λz=>by cases z) nd' few' last
  .rw[if_neg hpn]
   refine wpAny_bind (wpAny_pure ?_);exact om (knd:=knd) (g:=λb=>match b with|true=>rule "set.scan.the-table-gave-way"|false=>pure ()) hgw ho hx hd q1 q2 q3 p2 (p3.1.trans hle) q4 nd' few' last
end
section
variable {prog:Program}{w:World}{K:Type}[DecidableEq K]{A:Around}{E:Value->Shared->Prop}{s:Shared}{knd:KeyKind prog w K}
theorem Holds.keep{h h':Heap}{a:Addr}{led:Bool}{l:List K}(H:Holds knd h a led l)(k:∀o,h.get? a=some o->h'.get? a=some o):Holds knd h' a led l:=by
 obtain⟨⟨o,es,ep,t,ho,r⟩,nd,few⟩:=H;exact⟨⟨o,es,ep,t,k _ ho,r⟩,nd,few⟩
def ci(w:World):Bool:=w.params.followText "set-order"
def bA(led:Bool):Obj:={ cls:=.type "set",dict:=none,data:=.set #[] 0 (.fresh 0 0 led) }
theorem BA(a:Value){Z:Value->Shared->Prop}(h:Z (.ref s.heap.objs.size) { s with heap:=s.heap.push (bA<|!ci w) }):
  codeAny (model prog w) A (.call (.builtin "set.__new__") ⟨[.type "set",a],[]⟩) (wants Z E) s:=by
 apply codeAny_of_tree;show wpAny _ A.in1 (checkBuiltinCall "set.__new__" ⟨[.type "set",a],[]⟩ >>= λ_=>again (.builtin "set.__new__" ⟨[.type "set",a],[]⟩)) _ _ s;apply wpAny_bind;refine wpAny_of_eq (F.newCall_set_1 a) (wpAny_pure ⟨plainId_quiet F.plain_set_new _,codeAny_builtin F.entry_set_new ?_⟩);rw[LU (F.plain_set_new) _];have sub:=sub_set_self;obtain⟨hp,gg,dd,tt,oo⟩:=s;unfold Builtin.«set.__new__» Builtin.Frozenset.newClass;dsimp only;wp_walk;refine wpAny_askSetting (wpAny_pure ?_);simp only[newObj];exact wpAny_bind (wpAny_alloc<|wpAny_pure<|wpAny_pure h)
def hV(l:List K):List K->List K
 |[]=>l
 |k::r=>hV (if k∈l then l else l++[k]) r
theorem E1{P:Nat->Value->Prop}{St:Nat->Heap->Prop}{I S:Addr}{fp:List Addr}{ks:List K}{led:Bool}{R:Result->Shared->Prop}(W:Walks prog w A.in1 I fp [I] ks.length P St)(hS:S∉fp)(hI:S≠I)
  (hP:∀i v,P i v->∃k,ks[i]?=some k/\knd.is k v=true/\v.scannable=true) (few:ks.length+1<scanBound):
  ∀(r i:Nat) (s:Shared) (l:List K),i+r=ks.length->St i s.heap->Holds knd s.heap S led l->l.length<=i->
   (∀h' tk,(∀b o,b≠S->b≠I->s.heap.get? b=some o->h'.get? b=some o)->Holds knd h' S led (hV l<|ks.drop i)->R (.ok<|.ret .none) { s with heap:=h',toks:=tk })->
   codeAny (model prog w) A (.builtin "set.update.loop" ⟨[.ref S,.ref I],[]⟩) R s
 |0,i,s,l,e,st,H,hl,hR=>by
  refine codeAny_builtin MJ ?_;rw[LU (LJ) _];show wpAny _ A.in1 (pyNext (.ref I) >>= _) _ _ s;obtain rfl:i=ks.length:=by lia
  refine wpAny_bind (W.done s _ _ st λh' tk k=>?_);refine wpAny_pure (hR h' tk (λb o _ hb q=>k b o (by simpa using hb) q) ?_)
  rw[List.drop_length];exact H.keep λo q=>k S o (by simpa using hI) q
 |r+1,i,s,l,e,st,H,hl,hR=>by
  refine codeAny_builtin MJ ?_;rw[LU (LJ) _];show wpAny _ A.in1 (pyNext (.ref I) >>= _) _ _ s;refine wpAny_bind (W.item i s _ _ (by lia) st λv h' tk pv st' k=>?_)
  obtain⟨x,hx,ix,sx⟩:=hP i v pv;have H':Holds knd h' S led l:=H.keep λo q=>k S o (by simpa using hI) q
  show wpAny _ A.in1 (holding [v] (setAdd S v) >>= _) _ _ _;refine wpAny_bind (wpAny_holding ?_);unfold setAdd;refine wpAny_holding (wpAny_bind<|knd.pyHash ix ?_);refine B6 (s:={ s with heap:=h',toks:=tk+1 }) ix sx H' (by lia) λh2 b2 sb H2=>?_
  refine wpAny_pure ⟨plainId_quiet LJ _,?_⟩;have hd:ks.drop i=x::ks.drop (i+1):=by
   obtain⟨hlt,hxe⟩:=Kv.mp hx;rw[<- hxe];exact L8 hlt
  have hl2:(if x∈l then l else l++[x]).length<=i+1:=by
   by_cases z:x∈l
   .rw[if_pos z];lia
   .rw[if_neg z,JD,KZ];lia
  refine E1 W hS hI hP few r (i+1) _ _ (by lia) (W.frame _ _ _ st' λb hb o q=>?_) H2 hl2 λh3 tk3 k3 H3=>?_
  .rw[sb.2 b λz=>hS (z▸hb)];exact q
  .refine hR h3 tk3 (λb o hb1 hb2 q=>k3 b o hb1 hb2 ?_) ?_
   .show h2.get? b=some o
    rw[sb.2 b hb1];exact k b o (by simpa using hb2) q
   .rw[hd];exact H3
theorem pY{h:Heap}{a:Addr}{led:Bool}(e:h.get? a=some (bA led)):Holds knd h a led []:=by
 exact⟨⟨_,#[],0,.fresh 0 0 led,e,⟨rfl,rfl,rfl⟩,rfl,λ_ q=>by simp at q,λk=>by simp,rfl,by rfl,rfl,λ_=>⟨Nh,rfl⟩⟩,Nr,by simp[scanBound]⟩
end
section
variable {M:Model}{A:Around}{E:Value->Shared->Prop}
end
section
variable {prog:Program}{w:World}{A:Around}{E:Value->Shared->Prop}{s:Shared}{I a:Addr}{f:Value}{i n ep:Nat}{es:Array (Int×Value)}{t:SetTable}
end
section
variable {prog:Program}{w:World}{A:Around}{E:Value->Shared->Prop}{s:Shared}{I a:Addr}{ep:Nat}{es:Array (Int×Value)}{t:SetTable}
end
end LS
namespace LS
open PySem PySem.W PySem.Calls PyProof.Rows PyProof.V PySem.Spec
section
variable {prog:Program}{w:World}{A:Around}{E:Value->Shared->Prop}{s:Shared}{a:Addr}{ep:Nat}{es:Array (Int×Value)}{t:SetTable}
end
end LS
namespace LS
open PySem
section
variable {prog:Program}{w:World}{A:Around}{E:Value->Shared->Prop}{s:Shared}{a:Addr}
end
structure Ord(K:Type) where
 lt:K->K->Bool
 anti:∀x y,lt x y=false->lt y x=false->x=y
 tr:∀x y z,lt y x=false->lt z y=false->lt z x=false
 asym:∀x y,lt x y=true->lt y x=false
section
variable {K:Type}[DecidableEq K](o:Ord K)
abbrev FX(l:List K):Prop:=l.Pairwise λa b=>o.lt b a=false
def ins(x:K):List K->List K
 |[]=>[x]
 |y::r=>if o.lt y x=true then y::ins x r else x::y::r
def zJ:List K->List K
 |[]=>[]
 |x::r=>ins o x (zJ r)
theorem ku(x:K):∀l:List K,(ins o x l).Perm (x::l)
 |[]=>MU _
 |y::r=>by
  unfold ins
  by_cases h:o.lt y x=true
  .rw[if_pos h];exact(Pe y<|ku x r).trans (List.Perm.swap ..)
  .rw[if_neg h]
theorem dB:∀l:List K,(zJ o l).Perm l
 |[]=>MU _
 |x::r=>(ku o x _).trans (Pe x<|dB r)
theorem uV(x:K):∀l:List K,FX o l->FX o (ins o x l)
 |[],_=>by simp[ins,FX]
 |y::r,h=>by
  unfold ins;have hc:=LD.mp h
  by_cases c:o.lt y x=true
  .rw[if_pos c]
   refine LD.mpr ⟨λz hz=>?_,uV x r hc.2⟩;rcases JM.mp ((ku o x r).mem_iff.mp hz) with rfl|q
   .exact o.asym _ _ c
   .exact hc.1 z q
  .rw[if_neg c]
   have c':o.lt y x=false:=by simpa using c
   refine LD.mpr ⟨λz hz=>?_,h⟩;rcases JM.mp hz with rfl|q
   .exact c'
   .exact o.tr _ _ _ c' (hc.1 z q)
theorem nF:∀l:List K,FX o (zJ o l)
 |[]=>Nh
 |x::r=>uV o x _ (nF r)
theorem A4:∀(a b:List K),FX o a->FX o b->a.Perm b->a=b
 |[],b,_,_,p=>by rw[p.symm.eq_nil]
 |x::a,b,ha,hb,p=>by
  cases b with
  |nil=>have:=p.eq_nil;cases this
  |cons y b=>
   have pa:=LD.mp ha;have pb:=LD.mp hb;have e:x=y:=by
    rcases JM.mp (p.mem_iff.mp<|KP ..) with e|hx
    .exact e
    .rcases JM.mp (p.symm.mem_iff.mp<|KP ..) with e|hy
     .exact e.symm
     .exact o.anti _ _ (pb.1 x hx) (pa.1 y hy)
   subst e;rw[A4 a b pa.2 pb.2 (List.Perm.cons_inv p)]
theorem qW{a l:List K}(ha:FX o a)(p:a.Perm l):a=zJ o l:=A4 o _ _ ha (nF o l) (p.trans (dB o l).symm)
end
end LS
namespace L3
open PySem L2 LS
theorem p7:∀{ss:List Str} {us:List Value},Vals (ss.map V.str) us->N5 us ss
 |[],_,.nil=>.nil
 |_::_,_,.cons r t=>by obtain⟨u,rfl⟩:=r;exact .cons _ _ (p7 t)
theorem oM{K:JF}{H:Hp}:∀(ss:List Str),Rps K H (ss.map D.str) (ss.map V.str)
 |[]=>rfl
 |_::ss=>⟨_,_,rfl,rfl,oM ss⟩
section
variable {X:Cx}{B:Bd}
theorem rz:bootBuiltins "sorted"=some (.builtin "sorted"):=by decide +kernel
theorem CB:bootBuiltins "set"=some (.type "set"):=by decide +kernel
theorem zZ:∀{us:List Value} {ss:List Str},N5 us ss->∀(i:Nat) (v:Value),us[i]?=some v->∃x t,ss[i]?=some x/\v=.str x t
 |_,_,.nil,i,v,h=>by simp at h
 |_,_,.cons x t r,0,v,h=>⟨x,t,by simp,by simpa using h.symm⟩
 |_,_,.cons x t r,i+1,v,h=>by simpa using zZ r i v (by simpa using h)
end
end L3
namespace LS
open PySem
section
variable {prog:Program}{w:World}{A:Around}{E:Value->Shared->Prop}{s:Shared}{a:Addr}
end
end LS
namespace L3
open PySem L2 LS
def cX:List D->Option (List Int)
 |[]=>some []
 |.int i::ds=>match cX ds with
  |some is=>some (i::is)
  |none=>none
 |_=>none
theorem jE:∀ns:List Int,cX (ns.map D.int)=some ns
 |[]=>rfl
 |x::ns=>by rw[JO,cX,jE ns]
theorem pJ{K:JF}{H:Hp}:∀{ds:List D} {vs:List V} {xs:List Int},Rps K H ds vs->cX ds=some xs->vs=xs.map V.int
 |[],vs,xs,r,e=>by cases e;exact r
 |d::ds,vs,xs,r,e=>by
  obtain⟨v,r',rfl,a,b⟩:=r;cases d with
  |int c=>
   simp only[cX]at e
   split at e
   .rename_i xs' e2
    cases e;cases a;rw[pJ b e2];rfl
   .cases e
  |_=>simp[cX]at e
theorem pR:∀{ss:List Int} {us:List Value},Vals (ss.map V.int) us->PyProof.Rows.IntsAre us ss
 |[],_,.nil=>.nil
 |_::_,_,.cons r t=>by obtain⟨u,rfl⟩:=r;exact .cons _ _ (pR t)
section
variable {X:Cx}{B:Bd}
end
end L3
namespace L2
open PySem
section
variable {X:Cx}
end
end L2
namespace L3
open PySem L2 LS
section
variable {X:Cx}{B:Bd}
end
inductive TabR(w:World)(K:JF):List DictEntry->List (Str×D)->Prop
 |nil:TabR w K [] []
 |cons {e:DictEntry} {x:Str} {d:D} {es:List DictEntry} {tab:List (Str×D)}:e.hash=hashStr w x->(∃t,e.key=.str x t)->(∃v,RelV v e.val/\∀H,Rp K H d v)->TabR w K es tab->TabR w K (e::es) ((x,d)::tab)
structure ModTab(w:World)(K:JF)(mg:Str->Option Value)(name:Str)(a:Addr)(tab:List (Str×D)):Prop where
 at_:mg name=some (.ref a)
 sys:(a==sysModules)=false
 nd:(tab.map (·.1)).Nodup
 ex:∃es ep,K.lookup a=some { cls:=.type "dict",dict:=none,data:=.dict es ep,slots:=#[] }/\TabR w K es.toList tab
def bC:List (Str×D)->Str->Option D
 |[],_=>none
 |(y,d)::t,x=>if y=x then some d else bC t x
theorem qo{P:Program}{w:World}{K:JF}:∀{es:List DictEntry} {tab:List (Str×D)},TabR w K es tab->∃kvs:List (Str×Value),(∀e∈es,∃k,(strKind P w).is k e.key=true/\e.hash=(strKind P w).hash k)/\Pairs (strKind P w) es kvs/\kvs.map (·.1)=tab.map (·.1)/\∀x,match bC tab x with
  |some d=>∃u v,valueAt kvs x=some u/\RelV v u/\∀H,Rp K H d v
  |none=>valueAt kvs x=none
 |_,_,.nil=>⟨[],(λe h=>by cases h),Pairs.nil,rfl,λx=>rfl⟩
 |_,_,.cons (e:=e) (x:=x) (d:=d) (tab:=tab) h1 h2 h3 r=>by
  obtain⟨kvs,q1,q2,q3,q4⟩:=qo (P:=P) r;obtain⟨t,ht⟩:=h2;obtain⟨v,hv,hr⟩:=h3;have hk:(strKind P w).is x e.key=true:=by rw[ht];simp[strKind,Mo]
  refine⟨(x,e.val)::kvs,λe' he=>?_,.cons hk rfl q2,by simp[q3],λy=>?_⟩
  .rcases JM.mp he with rfl|he
   .exact⟨x,hk,h1⟩
   .exact q1 e' he
  .unfold bC valueAt
   by_cases c:x=y
   .rw[if_pos c]
    exact⟨e.val,v,by simp[c],hv,hr⟩
   .rw[if_neg c]
    have:=q4 y;unfold valueAt at this;simpa [c] using this
theorem ModTab.map{P:Program}{w:World}{K:JF}{mg:Str->Option Value}{name:Str}{a:Addr}{tab:List (Str×D)}(T:ModTab w K mg name a tab){h:Heap}(kin:K.In h):∃kvs:List (Str×Value),h.DictOf (strKind P w) a kvs/\∀x,match bC tab x with
  |some d=>∃u v,valueAt kvs x=some u/\RelV v u/\∀H,Rp K H d v
  |none=>valueAt kvs x=none:=by
 obtain⟨es,ep,h1,h2⟩:=T.ex;obtain⟨kvs,q1,q2,q3,q4⟩:=qo (P:=P) h2;exact⟨kvs,⟨_,es,ep,kin _ _ h1,⟨rfl,rfl,rfl⟩,rfl,λe he=>q1 e (by simpa using he),q2,by rw[q3];exact T.nd⟩,q4⟩
section
variable {X:Cx}{B:Bd}{name:Str}{a:Addr}{tab:List (Str×D)}
def iO(tab:List (Str×D))(a:Addr):dq:=λx y M Q=>match x,y with
 |.str x,.ref b=>b=a/\Q (.bl<|!(bC tab x).isSome) M
 |_,_=>False
def xL(tab:List (Str×D))(a:Addr):dq:=λx y M Q=>match x,y with
 |.ref b,.str x=>b=a/\match bC tab x with
  |some d=>Q d M
  |none=>False
 |_,_=>False
theorem Am{kvs:List (Str×Value)}(q:match bC tab name with
  |some d=>∃u v,valueAt kvs name=some u/\RelV v u/\∀H,Rp X.K H d v
  |none=>valueAt kvs name=none):(valueAt kvs name).isSome=(bC tab name).isSome:=by
 cases e:bC tab name with
 |some d=>rw[e]at q;obtain⟨u,v,h,_⟩:=q;rw[h];rfl
 |none=>rw[e]at q;rw[show valueAt kvs name=none from q];rfl
theorem xf(T:ModTab X.w X.K X.mg name a tab):ce X (compareOp .NotIn) (liftR2 X<|iO tab a):=by
 intro pins s U H x y v u Q I rx ry h;obtain⟨d1,d2,M,QQ,rh,r1,r2,h,up⟩:=h;unfold iO at h
 split at h
 .rename_i z b
  cases r1;cases r2;cases ry;obtain⟨rfl,h⟩:=h;obtain⟨t,rfl⟩:=rx;obtain⟨kvs,dd,q⟩:=T.map (P:=X.prog) I.kIn;refine wpAny_notIn_of (knd:=strKind X.prog X.w) (k:=z) (by simp[strKind,Mo]) T.sys dd.mapOf ?_
  rw[Am (X:=X) (q z)];exact⟨.bl _,H,I.tok _,rfl,up _ M h _ H rh Frm.refl rfl⟩
 .exact h.elim
theorem ix_T(T:ModTab X.w X.K X.mg name a tab):IxR X (liftR2 X<|xL tab a):=by
 intro value slice pins s U H x y v u Q I rx ry h hs;obtain⟨d1,d2,M,QQ,rh,r1,r2,h,up⟩:=h;unfold xL at h
 split at h
 .rename_i b z
  cases r1;cases r2;cases rx;obtain⟨rfl,h⟩:=h;obtain⟨t,rfl⟩:=ry;obtain⟨kvs,dd,q⟩:=T.map (P:=X.prog) I.kIn;have qz:=q z
  split at h
  .rename_i d e
   rw[e]at qz;obtain⟨u,v,h1,h2,h3⟩:=qz;refine NY dd.typeIs N3.lookup (wpAny_getItem_of (knd:=strKind X.prog X.w) (k:=z) (by simp[strKind,Mo]) dd.mapOf h1 ⟨v,H,I.tok _,h2,up _ M h _ H rh Frm.refl<|h3 H⟩) hs
  .exact h.elim
 .exact h.elim
theorem EU{x:Str}{n:Int}{pos:Pos}(hg:Gl X x)(hm:∃t,X.mg x=some (.int n t))(hd:(x==("__debug__":Str))=false:=by decide):DE X B (.Name x pos) (dC<|.int n):=by
 obtain⟨t,hm⟩:=hm;exact nO (v:=.int n) hg hm ⟨t,rfl⟩ (λ_=>rfl) hd
end
end L3
namespace LS
open PySem
section
variable {prog:Program}{w:World}{K:Type}[DecidableEq K]{A:Around}{E:Value->Shared->Prop}{s:Shared}{knd:KeyKind prog w K}
theorem wD{l:Addr}{items:Array Value}{ks:List K}{Q:Value->Shared->Prop}(hh:A.handled=none)(hl:s.heap.IsTuple l items)(hn:items.size=ks.length)
  (hk:∀(i:Nat) (v:Value),items[i]?=some v->∃k,ks[i]?=some k/\knd.is k v=true/\v.scannable=true) (few:ks.length+1<scanBound)
  (h:∀(h':Heap) (tk:Nat),Holds knd h' s.heap.objs.size (!ci w) (hV [] ks)->(∀b o,s.heap.get? b=some o->h'.get? b=some o)->Q (.ref s.heap.objs.size) { s with heap:=h',toks:=tk }):
  wpAny (model prog w) A (call (.type "set") [.ref l]) Q E s:=by
 have ft:=F.called_set;obtain⟨cc,tl,m1⟩:=ft.mro;have m2:=ft.made;have m3:=ft.sub;apply wpAny_call;apply codeAny_of_tree;refine wpAny_pure ⟨Pn _ (by decide +kernel),codeAny_builtin F.entry_type_call ?_⟩
 rw[Around.under_plain (weight_type_call_type "set" [.ref l] []) (rfl)];have m4:=ft.notType;have m5:=ft.canCreate;have m6:=F.typeCall_set_1 (.ref l)
 repeat (any_goals (first|(assumption)|wp_step))
 refine codeAny_mono (BA (.ref l) (E:=E) (Z:=λo s1=>o=.ref s.heap.objs.size/\s1={ s with heap:=s.heap.push (bA<|!ci w) }) ⟨rfl,rfl⟩) λr s1 hr=>?_;cases r with
 |error e=>exact hr
 |ok fl=>
  cases fl with
  |ret obj=>
   obtain⟨rfl,rfl⟩:=hr;have at0:(s.heap.push<|bA<|!ci w).get? s.heap.objs.size=some (bA<|!ci w):=JH _ rfl;have ty0:Shared.TypeIs { s with heap:=s.heap.push (bA<|!ci w) } (.ref s.heap.objs.size) "set":=⟨_,at0,rfl⟩;have i1:=ft.init.lookup;have i2:=ft.init.bind (.ref s.heap.objs.size)
   repeat (any_goals (first|(assumption)|wp_step))
   refine codeAny_mono (codeAny_call_builtin (R:=wants (λr s2=>r=.none/\∃h' tk,s2={ s with heap:=h',toks:=tk }/\Holds knd h' s.heap.objs.size (!ci w) (hV [] ks)/\∀b o,s.heap.get? b=some o->h'.get? b=some o) E) ft.init.plain F.entry_set_init<|check_set_init_1 ty0 ?_) λr2 s2 hr2=>?_
   .have hl1:(s.heap.push<|bA<|!ci w).IsTuple l items:=hl.push _
    obtain⟨ol,g1,g2,nl,g3⟩:=id hl1;have lt:l<s.heap.objs.size:=let ⟨_,q,_⟩:=hl;JJ q;obtain⟨oc,od,oz,os⟩:=ol;dsimp only at g2 g3;subst g2;subst g3;have n1:=F.sub_tuple_set;have n2:=F.sub_tuple_frozenset;have n3:(Lp "tuple"==Lp "dict")=false:=rfl;have at1:=at0;unfold bA at at1 g1 ⊢;unfold Builtin.«set.__init__» noKeywords Builtin.Frozenset.updateFrom;generalize ei:pyIter=it
    wp_walk
    subst ei;refine wpAny_pyIter_tuple hl1 (wpAny_bind<|wpAny_runValue ?_);have hS:s.heap.objs.size∉[(s.heap.push<|bA<|!ci w).objs.size,l]:=by
     rw[Ke];simp only[JM,Kb,or_false,not_or];exact⟨JS (MT _),LY lt⟩
    have hI:l≠(s.heap.push<|bA<|!ci w).objs.size:=by rw[Ke];exact JS (NO lt)
    have at2:((s.heap.push<|bA<|!ci w).push { cls:=.type "tuple_iterator",data:=.fields #[.ref l,.int 0 0] }).get? s.heap.objs.size=some (bA<|!ci w):=JB _ at0;have W:=Walks.tuple (prog:=prog) (w:=w) (A:=A.in1.in1.in1) (by simpa using hh) (s.heap.push<|bA<|!ci w).objs.size l hI items
    rw[hn]at W;refine E1 (knd:=knd) (led:=!ci w) (ks:=ks) W hS (λz=>hS (by rw[<- z];simp)) hk few ks.length 0 _ [] (by lia) ⟨⟨_,JH _ rfl,rfl,rfl⟩,hl1.push _⟩ (pY at2) (KR _) λh' tk k H=>?_
    refine wpAny_pure (wpAny_pure ⟨rfl,h',tk,rfl,by rw[List.drop_zero]at H;exact H,λb o q=>?_⟩)
    have lb:=JJ q;exact k b o (JS lb) (by rw[Ke];exact JS (NO lb)) (JB _<|JB _ q)
   .cases r2 with
    |error e=>exact hr2
    |ok f2=>
     cases f2 with
     |ret r=>
      obtain⟨rfl,h',tk,rfl,H,k⟩:=hr2
      repeat (any_goals (first|(assumption)|wp_step))
      exact h _ _ H k
     |_=>exact hr2.elim
  |_=>exact hr.elim
end
section
variable {prog:Program}{w:World}{K:Type}[DecidableEq K]{A:Around}{E:Value->Shared->Prop}{s:Shared}{knd:KeyKind prog w K}
theorem yO{a:Addr}{led:Bool}{l:List K}{Q:Value->Shared->Prop}(H:Holds knd s.heap a led l)(hQ:∀t tk,Q (.int (l.length:Nat) t) { s with toks:=tk }):wpAny (model prog w) A (call (.builtin "len") [.ref a]) Q E s:=by
 obtain⟨⟨o,es,ep,t,ho,hx,hd,_,_,hsz,hf,_⟩,_,few⟩:=H;refine call_len_set ho hx hd hf ?_ ?_
 .have:es.size<scanBound:=by rw[hsz];exact few
  have:scanBound<=2 ^ 30:=by decide
  lia
 .rw[hsz];exact hQ _ _
end
end LS
namespace L2
open PySem PySem.Spec
def Its(x:Str):It:=⟨λi _=>i<x.cps.size,λi H v H'=>H'=H/\∃c,x.cps[i]?=some c/\v=.str ⟨#[c]⟩,λi _=>x.cps.size<=i⟩
theorem zQ{P:Program}{w:World}{K:JF}{tg:Expr}(it:Addr)(x:Str)(t:Tok):Turn P w K tg (Its x) [it] it (λi h=>h.IsStrIter it "str_ascii_iterator" x t i) where
 mem:=by simp
 obj:=λi h st b hb=>by
  have e:b=it:=by simpa using hb
  subst e;obtain⟨o,e,_,d⟩:=st;exact⟨o,e,λv z=>by rw[d]at z;cases z⟩
 keep:=λi h h' st k=>by
  obtain⟨o,e,r⟩:=st;exact⟨o,k it (by simp) o e,r⟩
 item:=by
  intro X hP hw hK hc i pins s U H E I hf st hg;subst hP hw hK;obtain⟨f0,f1,f2,f3,f4,f5⟩:=hf it (by simp)
  have hi:i<x.cps.size:=hg;refine wpAny_pyNext_ascii_item st (c:=x.cps[i]) (by simp[hi]) λh' st' sb=>?_
  have I1:Inv X pins U H { s with heap:=h',toks:=s.toks+1 }:=I.turned (λb o hb e=>(sb.2 b hb).trans e) f0 f1 f3 f4 f5;obtain⟨o,e,c,d⟩:=id st';exact⟨_,rfl,vP (s:={ s with heap:=h',toks:=s.toks+1 }) e c d (by decide) ⟨.str ⟨#[x.cps[i]]⟩,H,I1,⟨_,rfl⟩,⟨rfl,_,by simp[hi],rfl⟩,st',λb hb=>(hf b hb).1⟩⟩
 done:=by
  intro X hP hw hK hc i pins s U H E I hf st hg;subst hP hw hK;obtain⟨f0,f1,f2,f3,f4,f5⟩:=hf it (by simp)
  have hi:x.cps.size<=i:=hg;exact wpAny_pyNext_ascii_end (I.ok.hd hc) st (by simp[hi]) λh' eb=>⟨rfl,I.turned (t':=s.toks) (λb o hb e=>eb b o hb e) f0 f1 f3 f4 f5⟩
 self:=λ_ _ _ _ _ st h=>wpAny_pyIter_striter_ascii st h
section
variable {X:Cx}{tg:Expr}
def iStr(tl:TE):TI:=λU H R=>tl U H λx H1=>∃z:Str,x=.str z/\z.cps.all (· < 128)=true/\R (Its z) H1
theorem G8{l:Expr}{tl:TE}(hl:PE X l tl):PI X tg l (iStr tl):=by
 intro pins s U H R I h;refine bG (hl pins s U H _ I h) λv s1 ⟨x,H1,I1,r1,q1⟩=>?_;obtain⟨z,rfl,ha,q⟩:=q1;obtain⟨t,rfl⟩:=r1;refine wpAny_pyIter_ascii ha ?_;refine⟨s1.heap.objs.size,[s1.heap.objs.size],_,_,H1,rfl,I1.kept (t':=s1.toks) λb o e=>JB _ e,zQ _ z t,⟨_,JH _ rfl,rfl,rfl⟩,λb hb=>?_,q⟩;have e:b=s1.heap.objs.size:=by simpa using hb
 subst e;exact I1.fpOk (JE _) (I1.hok.fresh<|JE _)
end
end L2
namespace L3
open PySem L2 LS
section
variable {X:Cx}{B:Bd}{tg:Expr}{K:JF}{H:Hp}{M:Mem}
def dJ(z:Str):List D:=z.cps.toList.map λc=>D.str ⟨#[c]⟩
def Fs(te:bg):xl:=λY M R=>te Y M λd M1=>match d with
 |.str z=>z.cps.all (· < 128)=true/\R ⟨dJ z,[]⟩ M1
 |_=>False
theorem F6{z:Str}:F1 K H ⟨dJ z,[]⟩ (Its z):=λi H2 M2 i2 rh2 _=>by
 have hlen:(dJ z).length=z.cps.size:=by simp[dJ]
 refine⟨λd hd=>?_,λhle=>by rw[hlen]at hle;exact hle⟩
 have hi:i<z.cps.size:=by
  rcases Li i z.cps.size with h|h
  .exact h
  .rw[Ni (by rw[hlen];exact h)]at hd;cases hd
 refine⟨hi,?_⟩
 rintro x H3 ⟨rfl,c,hc,rfl⟩
 have ed:d=.str ⟨#[c]⟩:=by
  simp only[dJ,Kf,KY,hc]at hd;exact(Kl hd).symm
 subst ed;exact⟨Frm.refl,rh2,rfl⟩
theorem Ge{l:Expr}{tl:bg}(hl:DE X B l tl):DI X B tg l (Fs tl):=by
 refine fc (G8 hl) ?_
 rintro U H R ⟨Y,M,RR,s,h,up⟩
 refine⟨Y,M,_,s,h,λd M1 h1 v H1 rh1 i1 r1=>?_⟩
 split at h1
 .cases r1
  exact⟨_,rfl,h1.1,up _ M1 h1.2 _ H1 rh1 i1 F6⟩
 .exact h1.elim
def AE:dq:=λx y M Q=>match x,y with
 |.str a,.str b=>Q (.bl<|!decide (b.cps.toList<a.cps.toList)) M
 |_,_=>False
theorem zL:ce X (compareOp .LtE) (liftR2 X AE):=by
 intro pins s U H x y v u Q I rx ry h;obtain⟨d1,d2,M,QQ,rh,r1,r2,h,up⟩:=h;unfold AE at h
 split at h
 .cases r1;cases r2
  obtain⟨t,rfl⟩:=rx;obtain⟨t2,rfl⟩:=ry
  rename_i a b
  have g:=gives_str_le a b t t2;refine compareOp_gives (op:=.LtE) ?_ ?_ F.slot_str_le ?_ ?_ g (λq=>by cases q) ⟨.bl _,H,I,rfl,up _ M h _ H rh Frm.refl rfl⟩
  .exact typeIs_str ..
  .exact typeIs_str ..
  .exact F.entry_str_le
  .exact F.args_str_le_2 ..
 .exact h.elim
def sS(t:dZ):bg:=λY M Q=>t Y M λds M1=>match ds with
 |[.tup xs]=>match gX xs with
  |some ss=>ss.length<64/\Q (.int ((hV [] ss).length:Nat)) M1
  |none=>False
 |_=>False
def Bw(K:JF)(t:TA):TE:=λU H Q=>t U H λvs H1=>∃(l:Addr) (ss:List Str),vs=[.ref l]/\gL K H1 l (ss.map V.str)/\ss.length<64/\Q (.int ((hV [] ss).length:Nat)) H1
theorem CN:bootBuiltins "len"=some (.builtin "len"):=by decide +kernel
theorem wP{e:Expr}{t:TA}{p p2 pos pos2:Pos}(hc:X.calm=true)(hg:Gl X "set")(hm:X.mg "set"=none)(hg2:Gl X "len")(hm2:X.mg "len"=none)(ha:PA X [e] t)
  (hs:starEach [e] X.env=[(false,eval e X.env)]:=by rfl) (hs3:starEach [Expr.Call (.Name "set" p2) [e] [] pos2] X.env=[(false,eval (.Call (.Name "set" p2) [e] [] pos2) X.env)]:=by rfl):
  PE X (.Call (.Name "len" p) [.Call (.Name "set" p2) [e] [] pos2] [] pos) (Bw X.K t):=by
 intro pins s U H Q I h;refine wpAny_Call_Name_kw (dS I hg2 hm2 CN<|Nm ?_ hs3 rfl);rw[hs3];show wpAny _ _ (spliced ((false,_)::backTo pos [])) _ _ s;refine Pb ?_;refine wpAny_Call_Name_kw (dS I hg hm CB<|KI (bG (ha pos2 pins s U H _ I h) λus s1 ⟨vs,H1,I1,r1,q1⟩=>?_) hs rfl);obtain⟨l,ss,rfl,hq,h64,q⟩:=q1;obtain⟨u,rfl,ru⟩:=fG r1;cases ru;obtain⟨its,rv,pl,hz⟩:=I1.tuple hq;have hlen:=rv.length;rw[JK]at hlen;have sa:=p7 rv;have hh:=I1.ok.hd hc;refine wD (knd:=strKind X.prog X.w) (ks:=ss) hh (show s1.heap.IsTuple l its.toArray from pl) (by simp;lia) (λi v hv=>?_) (NH (Nat.succ_le_of_lt h64)<|by decide) λh2 tk H2 k2=>?_
 .rw[List.getElem?_toArray]at hv
  obtain⟨x,t',e1,e2⟩:=zZ sa i v hv;subst e2;exact⟨x,e1,by simp[strKind,Mo],rfl⟩
 refine Po ?_;refine yO (s:={ s1 with heap:=h2,toks:=tk }) H2 λt2 tk2=>?_;exact⟨.int _,H1,I1.kept (t':=tk2) k2,⟨_,rfl⟩,q⟩
theorem xH{e:Expr}{t:dZ}{p p2 pos pos2:Pos}(hc:X.calm=true)(hg:Gl X "set")(hm:X.mg "set"=none)(hg2:Gl X "len")(hm2:X.mg "len"=none)(ha:DA X B [e] t)
  (hs:starEach [e] X.env=[(false,eval e X.env)]:=by rfl) (hs3:starEach [Expr.Call (.Name "set" p2) [e] [] pos2] X.env=[(false,eval (.Call (.Name "set" p2) [e] [] pos2) X.env)]:=by rfl):
  DE X B (.Call (.Name "len" p) [.Call (.Name "set" p2) [e] [] pos2] [] pos) (sS t):=by
 refine aZ (wP hc hg hm hg2 hm2 ha hs hs3) ?_
 rintro U H Q ⟨Y,M,QQ,s,h,u⟩
 refine⟨Y,M,_,s,h,λds M1 h1 vs H1 rh1 i1 r1=>?_⟩
 split at h1
 .obtain⟨v,rfl,p,vs,rfl,hq,rr⟩:=eF (ds:=[]) r1
  split at h1
  .rename_i ss es
   have:=oK rr es;subst this;exact⟨p,ss,rfl,hq.sq,h1.1,u _ _ h1.2 _ H1 rh1 i1 rfl⟩
  .exact h1.elim
 .exact h1.elim
theorem cQ{a:Addr}{ss:List Str}{us:Array Value}{n:Nat}(h:K.lookup a=some { cls:=.type "tuple",dict:=none,data:=.seq us n,slots:=#[] })(hv:Vals (ss.map V.str) us.toList)(hz:us.size<=sizeLine):∃v,RelV v (.ref a)/\∀H,Rp K H (.mt<|ss.map D.str) v:=
 ⟨.ref a,rfl,λ_=>⟨a,_,rfl,⟨_,us,n,h,rfl,rfl,hz,hv⟩,oM ss⟩⟩
end
end L3
namespace L3
open PySem L2
section
variable {X:Cx}{B:Bd}{pos:Pos}
theorem rN{ta tb tc:bg}{r r':dq}{U:List (Option V)}{H:Hp}{Q:VK}(h:liftE X B (dg r r' ta tb tc) U H Q):qZ (liftR2 X r) (liftR2 X r') (liftE X B ta) (liftE X B tb) (liftE X B tc) U H Q:=by
 obtain⟨Y,M,QQ,s,h,u⟩:=h;refine⟨Y,M,_,s,h,λx M1 h1 v1 H1 rh1 i1 r1=>?_⟩;refine⟨Y,M1,_,s.go rh1 i1,h1,λy M2 h2 v2 H2 rh2 i2 r2=>?_⟩;refine⟨x,y,M2,_,rh2,r1.mf rh1 i2,r2,h2,λz M3 h3 v3 H3 rh3 i3 r3=>?_⟩;cases z with
 |bl k=>
  cases r3;cases k with
  |true=>
   refine⟨true,rfl,?_⟩;rw[if_pos rfl];refine⟨Y,M3,_,s.go rh3 ((i1.trans i2).trans i3),h3,λw M4 h4 v4 H4 rh4 i4 r4=>?_⟩;exact⟨y,w,M4,QQ,rh4,(r2.mf rh2<|i3.trans i4),r4,h4,u.go<|((i1.trans i2).trans i3).trans i4⟩
  |false=>
   refine⟨false,rfl,?_⟩;rw[if_neg JY];exact u _ M3 h3 _ H3 rh3 ((i1.trans i2).trans i3) rfl
 |_=>exact(show False from h3).elim
theorem z7{a b c:Expr}{ta tb tc:bg}{op op':CmpOp}{r r':dq}(ho:ce X (compareOp op) (liftR2 X r))(ho':ce X (compareOp op') (liftR2 X r'))(ha:DE X B a ta)(hb:DE X B b tb)(hc:DE X B c tc)(hm:lastMarks [op,op'] [b,c]=false:=by with_unfolding_all rfl):
  DT X B (.Compare a [op,op'] [b,c] pos) (ao<|dg r r' ta tb tc):=by
 refine iL (zA ho ho' ha hb hc hm) ?_
 rintro U H Q ⟨Y,M,QQ,s,h,u⟩
 have h':liftE X B (dg r r' ta tb tc) U H (λx H'=>∃k,x=.bl k/\Q k H'):=by
  refine⟨Y,M,_,s,h,λd M' q v H' rh i rp=>?_⟩;cases d with
  |bl k=>exact⟨k,rp,u k M' q H' rh i⟩
  |_=>exact(show False from q).elim
 exact rN h'
end
section
variable {X:Cx}{B:Bd}
end
end L3
namespace L3
open PySem L2 LS
section
variable {X:Cx}{B:Bd}
end
end L3
namespace LS
open PySem PySem.W PySem.Calls PyProof.Rows PyProof.V PySem.Spec
section
variable {prog:Program}{w:World}{K:Type}[DecidableEq K]{knd:KeyKind prog w K}{A:Around}{E:Value->Shared->Prop}{s:Shared}{v d:Addr}{ep:Nat}{kvs:List (K×Value)}
end
end LS
namespace L3
open PySem L2 LS
section
variable {X:Cx}{B:Bd}{pos:Pos}
end
end L3
namespace LX
open PySem PySem.W PySem.Spec PySem.Calls PyProof.Rows Builtin Builtin.ObjectAttr Builtin.Getset_descriptor
section
variable {K:Frag}{prog:Program}{w:World}{A:Around}{E:Value->Shared->Prop}{s:Shared}
theorem q_{M:Model}{h:Heap}(X:K.In h){x C:Addr}{name:Str}{a g:Value}(ha:findIn K (.ref C) name=some (some a))(hg:specialIn K a "__get__"=some (some g))(ht:takesIn K a=some true):
  Looks M h (Builtin.ObjectAttr.find (.ref x) (.ref C) name) (.bind g a):=by
 have L1:=looks_findIn (M:=M) X ha;have L2:Looks M h (Builtin.ObjectAttr.getOf<|some a) (some g):=looks_specialIn X hg;have L3:=looks_takesIn (M:=M) X ht;refine L1.andThen (L2.andThen ?_);exact(show Looks M h (Builtin.ObjectAttr.dataDescriptor? (some a)<|some g) (some (g,a)) from L3.andThen .now).andThen (Looks.tag .now)
theorem rU{x C:Addr}{R:Result->Shared->Prop}{tp:Value}(X:K.In s.heap)(L0:∀M:Model,Looks M s.heap (typeOf<|.ref x) (.ref C))(hm:mroIn K C (.type "object")=some true)
  (h:R (.ok<|.ret<|.ref C) s):codeAny (model prog w) A (.call (.builtin "getset_descriptor.__get__") ⟨[.builtin "object.__class__",.ref x,tp],[]⟩) R s:=by
 obtain⟨hh,g,dr,t,os⟩:=s;have L0:=L0 (model prog w);have L1:=looks_mroIn (M:=model prog w) X hm;refine codeAny_call_builtin KF.slot_gs.plain KF.entry_gs (KF.slot_gs.check _ _ _ _ _ _ _ _ KF.type_class (KF.args_gs _ _ _) ?_);unfold Builtin.«getset_descriptor.__get__» descrGet;rw[dga_obj];refine wpAny_bind (wpAny_pure ?_);unfold descrGetter descrCheckInstance descrNameAndClass isInstance;simp only[KF.owner_class]
 repeat lk
 refine⟨Pn _ (by decide +kernel),codeAny_builtin KF.entry_class ?_⟩
 unfold Builtin.«object.__class__» shownTypeOf
 repeat lk
 exact h
theorem Ap{M:Model}{A:Around}{E:Value->Shared->Prop}{s:Shared}{x:Addr}{v:Value}{Q:Unit->Shared->Prop}(L:Looks M s.heap (isInstance (.ref x)<|.type "BaseException") true)(hQ:Q () s):
  wpAny M A (checkBuiltinCall "BaseException.__getattribute__" ⟨[.ref x,v],[]⟩) Q E s:=by
 have hsplit:splitId "BaseException.__getattribute__"=some ("BaseException","__getattribute__"):=by decide +kernel
 have hkind:(Pj "BaseException").bind (·.attrs.lookup "__getattribute__")=some .slot:=by decide +kernel
 have hk:builtinKind "BaseException.__getattribute__"=(Pj "BaseException").bind (·.attrs.lookup "__getattribute__"):=by simp only[builtinKind,hsplit]
 have ha:argsOk "BaseException.__getattribute__" ⟨[.ref x,v],[]⟩:=F.args_bexc_ga _ _;simp only[checkBuiltinCall,hk,hkind,hsplit];refine wpAny_bind (L.at ?_);simp only[Kz,JQ,if_false];cases hsig:Manifest.signature? "BaseException.__getattribute__" with
 |none=>exact wpAny_pure hQ
 |some sig=>
  simp only[argsOk,hsig]at ha;have h2:Bind.checkArgs "BaseException.__getattribute__" sig ⟨[.ref x,v],[]⟩=pure ():=ha;show wpAny M A (Bind.checkArgs "BaseException.__getattribute__" sig ⟨[.ref x,v],[]⟩) Q E s;rw[h2];exact wpAny_pure hQ
theorem slot_ga:Slot "ValueError" "__getattribute__" "BaseException.__getattribute__":=F.excAttr_ValueError.ga
theorem xS{x D:Addr}{ox:Obj}(hga:findIn K (.ref D) "__getattribute__"=some (some<|.builtin "BaseException.__getattribute__"))(hgh:findIn K (.ref D) "__getattr__"=some none)
  (ha:findIn K (.ref D) "__class__"=some (some<|.builtin "object.__class__"))
  (hn:specialIn K (.builtin "object.__class__") "__get__"=some (some<|.builtin "getset_descriptor.__get__")) (htk:takesIn K (.builtin "object.__class__")=some true) (hm:mroIn K D (.type "object")=some true)
  (hbe:mroIn K D (.type "BaseException")=some true)
  {Q:Option Value->Shared->Prop} (X:K.In s.heap) (I:s.heap.get? x=some ox/\ox.cls=.ref D) (h:Q (some<|.ref D) { s with toks:=s.toks+1 }):wpAny (model prog w) A (getAttr? (.ref x) "__class__") Q E s:=by
 obtain⟨hh,g,d,t,os⟩:=s;have L00:∀M:Model,Looks M hh (typeOf<|.ref x) (.ref D):=λM=>I.2▸(Looks.ld I.1).andThen .now;have L0:=L00 (model prog w);have L1:=looks_findIn (M:=model prog w) X hga;have L2:=looks_findIn (M:=model prog w) X hgh;have L3:=q_ (M:=model prog w) (x:=x) X ha hn htk;have L4:Looks (model prog w) hh (isInstance (.ref x)<|.type "BaseException") true:=L0.andThen (looks_mroIn (M:=model prog w) X hbe);unfold getAttr? getAttrBy? getAttrBy;refine wpAny_bind (wpAny_mkText<|wpAny_bind<|wpAny_attempt<|wpAny_holding<|wpAny_bind<|L0.at<|wpAny_bind<|L1.at ?_);show wpAny _ _ (getAttrByItsOwn _ _ _ _ _ _) _ _ _;unfold getAttrByItsOwn hookBefore;refine wpAny_bind (L2.at ?_);refine wpAny_bind (wpAny_attempt<|wpAny_holding ?_);show wpAny _ _ (boundAndCalled _ _ _) _ _ _;unfold boundAndCalled;rw[slot_ga.bind];refine wpAny_bind (wpAny_pure ?_);refine wpAny_call ?_;refine codeAny_call_builtin slot_ga.plain F.entry_bexc_ga (Ap L4 ?_);unfold Builtin.«object.__getattribute__» slotArgs;refine wpAny_bind (wpAny_pure<|wpAny_bind<|wpAny_pure<|wpAny_bind<|L0.at<|wpAny_bind<|L3.at ?_);show wpAny _ _ (Builtin.ObjectAttr.bindTo _ _ _ _) _ _ _;refine wpAny_bind (wpAny_holding<|wpAny_call<|rU (s:=⟨hh,g,d,t+1,os⟩) X L00 hm ?_);refine wpAny_pure ?_;exact handed_on rfl (wpAny_pure h)
end
end LX
namespace LX
open PySem PySem.W PySem.Spec PySem.Calls PyProof.Rows
structure XC(K:Frag)(C:Addr):Prop where
 ga:findIn K (.ref C) "__getattribute__"=some (some<|.builtin "BaseException.__getattribute__")
 gh:findIn K (.ref C) "__getattr__"=some none
 dct:hasDictIn K C=true
 cl:findIn K (.ref C) "__class__"=some (some<|.builtin "object.__class__")
 sp:specialIn K (.builtin "object.__class__") "__get__"=some (some<|.builtin "getset_descriptor.__get__")
 tk:takesIn K (.builtin "object.__class__")=some true
 ob:mroIn K C (.type "object")=some true
 be:mroIn K C (.type "BaseException")=some true
theorem yK{K:Frag}{x D:Addr}{ox:Obj}(Z:XC K D):KitX K (.ref x) (.ref D) (λh=>h.get? x=some ox/\ox.cls=.ref D) where
 ty:=λ_ _ _ I=>I.2▸(Looks.ld I.1).andThen .now
 it:=λ_ _ X _=>by
  obtain⟨cdD,hcD,_⟩:=any_some Z.dct;unfold clsIn at hcD
  split at hcD
  .rename_i c' d' cd' sl' ho
   intro A' Q' E' s' k q;unfold isType loadHead;exact wpAny_bind (wpAny_loadPart (k _ _<|X _ _ ho)<|wpAny_pure q)
  .cases hcD
 ne:=λh tp dd its n sl X htp=>by
  obtain⟨cdD,hcD,_⟩:=any_some Z.dct;refine NK.mpr λq=>?_;have e:D=tp:=Pg (beq_iff_eq.mp q);subst e;unfold clsIn at hcD
  split at hcD
  .rename_i c' d' cd' sl' ho
   have z:=(X _ _ ho).symm.trans htp;cases z
  .cases hcD
 ca:=λX I k=>xS Z.ga Z.gh Z.cl Z.sp Z.tk Z.ob Z.be X I k
theorem zm{K:Frag}{M:Model}{A:Around}{E:Value->Shared->Prop}{s:Shared}{e C S:Addr}{oe:Obj}{Q:Bool->Shared->Prop}(X:K.In s.heap)(h1:instIn K (.ref S) (.type "tuple")=some false)(h2:(clsIn K S).isSome=true)
  (h3:mroIn K S (.type "BaseException")=some true) (h4:mroIn K C (.ref S)=some true) (he:s.heap.get? e=some oe) (hcls:oe.cls=.ref C) (hq:Q true s):wpAny M A (excMatches (.ref e)<|.ref S) Q E s:=by
 have L1:=looks_instIn (M:=M) X h1;have L3:=looks_mroIn (M:=M) X h3;have L4:=looks_mroIn (M:=M) X h4;have L2:Looks M s.heap (isType<|.ref S) true:=by
  unfold clsIn at h2
  split at h2
  .rename_i c' d' cd' sl' ho
   intro A' Q' E' s' k q;unfold isType loadHead;exact wpAny_bind (wpAny_loadPart (k _ _<|X _ _ ho)<|wpAny_pure q)
  .cases h2
 have L5:Looks M s.heap (typeOf<|.ref e) (.ref C):=hcls▸(Looks.ld he).andThen .now;obtain⟨hh,g,d,t,os⟩:=s;unfold excMatches isExcClass;refine wpAny_bind (L1.at ?_);simp only[JQ,if_false];refine wpAny_bind (wpAny_pure ?_);rw[Mb];refine wpAny_bind (wpAny_bind<|wpAny_bind<|wpAny_bind<|L2.at ?_);simp only[if_true];refine L3.at ?_;simp only[Kz,JQ,if_false];refine wpAny_pure ?_
 try dsimp only
 rw[MA];refine wpAny_pure (wpAny_bind<|L5.at ?_);rw[Mb];refine wpAny_bind (wpAny_bind<|wpAny_bind<|L4.at ?_);simp only[if_true];refine wpAny_pure ?_
 try dsimp only
 exact wpAny_pure (wpAny_pure hq)
end LX
namespace L2
open PySem PySem.Spec PyProof.Rows
section
variable {X:Cx}{pins:List (Addr×Obj)}{U:St}{H:Hp}{s:Shared}{e:Value}
theorem Inv.track{a:Addr}{o:Obj}(I:Inv X pins U H s)(ho:s.heap.get? a=some o)(hn:H a=none)(hf:∀u,X.s₀.heap.get? a≠some u)(hL:a≠X.env.locals)(hc:∀x c,X.env.cells.lookup x=some c->c≠a)(hp:∀p∈X.pn++pins,p.1≠a):Inv X pins U (upd H a<|.frz o<|.own 0) s:=by
 have ne:∀{b:Addr},b≠a->upd H a (.frz o<|.own 0) b=H b:=λh=>by simp[upd,h]
 refine⟨I.ok,I.os,I.bare,⟨λb u q n=>I.base.keep b u q n,λb u q n=>I.base.slot b u q n,λb u q n hx=>?_,I.base.there,λb xs q=>?_,λb ob u q=>?_,λb ps q=>?_⟩,I.loc,I.cell,?_,λx c q=>?_,λp q=>?_,λb ob q=>?_,I.len⟩
 .by_cases hb:b=a
  .subst hb;exact absurd q (hf u)
  .rw[ne hb];exact I.base.free b u q n hx
 .have z:=I.base.tups b xs q
  rw[ne (λhb=>by rw[hb,hn]at z;cases z)];exact z
 .have z:=I.base.frzs b ob u q
  rw[ne (λhb=>by rw[hb,hn]at z;cases z)];exact z
 .obtain⟨m,z⟩:=I.base.tbls b ps q
  exact⟨m,by rw[ne (λhb=>by rw[hb,hn]at z;cases z)];exact z⟩
 .rw[ne (Kw hL)];exact I.free
 .rw[ne (hc x c q)];exact I.freeC x c q
 .obtain⟨z1,z2,z3⟩:=I.pin p q
  exact⟨z1,by rw[ne (hp p q)];exact z2,z3⟩
 .by_cases hb:b=a
  .subst hb
   have:ob=.frz o (.own 0):=by
    have:upd H b (.frz o<|.own 0) b=some (.frz o<|.own 0):=by simp[upd]
    rw[this]at q;cases q;rfl
   subst this;exact⟨ho,o,ho⟩
  .rw[ne hb]at q
   exact(I.hok b ob q).stay (λc w' _ q'=>q') (λc q'=>by rw[ne (λhb=>by rw[hb,hn]at q';cases q')];exact q') λc xs q'=>by rw[ne (λhb=>by rw[hb,hn]at q';cases q')];exact q'
theorem xj{M:Model}{A:Around}{E:Value->Shared->Prop}{i:Nat}{x:Str}{pos:Pos}{Q:Unit->Shared->Prop}(I:Inv X pins U H s)(hN:X.N.Nodup)(hi:X.N[i]?=some x)(hk:X.env.kindOf x=some .local)
  (h:∀s',Inv X pins (U.set i none) H s'->Q () s'):wpAny M A (do bindName X.env x .none;unbindBehindTheSuite X.env x pos) Q E s:=by
 obtain⟨m,hn,hl⟩:=id I.loc;have hcls:(X.env.scope.kind==.class||(X.env.scope.kind==.module&&X.env.locals != X.env.globals))=false:=by rw[I.ok.kind];rfl
 have hiσ:i<U.length:=by rw[I.len];exact(Kv.mp hi).1
 have cne:=I.cne;refine wpAny_nameGoes_keeps hk hn hcls (λh' v hn' hs=>?_);obtain⟨oL,_,_,hoL,_⟩:=id hn;have tracked:HOk X.prog X.w H h':=λb ob e=>by
  refine (I.hok b ob e).stay (λc w' hc q=>(hs.2 c ?_).trans q) (λ_ q=>q) λ_ _ q=>q
  rintro rfl
  have hfree:=I.free;rcases hc with rfl|hc
  .rw[hfree]at e;cases e
  .rw[hfree]at hc;cases hc
 refine h _ ⟨I.ok,I.os,I.bare,⟨λb o e n hb hx=>?_,λb o e n hb hx=>?_,I.base.free,λb o e hx=>?_,I.base.tups,I.base.frzs,I.base.tbls⟩,⟨_,hn',λj y v' e1 e2 e3=>?_⟩,λy c e=>?_,I.free,I.freeC,λp hp=>?_,tracked,by simpa using I.len⟩
 .exact(hs.2 b<|JS<|JX (JJ e) I.ok.above).trans (I.base.keep b o e n hb hx)
 .obtain⟨sl,e1⟩:=I.base.slot b o e n hb hx
  exact⟨sl,(hs.2 b<|JS<|JX (JJ e) I.ok.above).trans e1⟩
 .obtain⟨o',e1⟩:=I.base.there b o e hx
  exact⟨o',(hs.2 b<|JS<|JX (JJ e) I.ok.above).trans e1⟩
 .by_cases hj:j=i
  .subst hj
   rw[Mj hiσ]at e2;cases e2
  .rw[Nt (Kw hj)]at e2
   obtain⟨u',r',q⟩:=hl j y v' e1 e2 e3;refine⟨u',r',?_⟩;rcases q with⟨k,e⟩|⟨k,c,e,z⟩
   .refine .inl ⟨k,?_⟩
    have:y≠x:=λe=>hj (kb hN e1 (e▸hi));simp[this,e]
   .exact .inr ⟨k,c,e,z.sameBut hs<|cne y c e⟩
 .obtain⟨w',z⟩:=I.cell y c e
  exact⟨w',z.sameBut hs<|cne y c e⟩
 .obtain⟨e,n,ne,nf,d⟩:=I.pin p hp
  exact⟨(hs.2 p.1 ne).trans e,n,ne,nf,d⟩
def ExcH(H:Hp)(C ea:Addr):Prop:=∃o,H ea=some (.frz o<|.own 0)/\o.cls=.ref C
structure XS(K:JF)(C S:Addr):Prop where
 tu:W.instIn K (.ref S) (.type "tuple")=some false
 cl:(W.clsIn K S).isSome=true
 be:Lh K S (.type "BaseException")=some true
 mr:Lh K C (.ref S)=some true
def He(C:Addr)(sp:Sp)(ta:TA)(i j:Nat)(ts:Addr->TS):TS:=λD U H=>ta U H λvs H1=>sp vs H1 (λv H2=>D.nx (U.set i<|some v) H2)
 (λ_ _ H2=>∀ea H3,(∀b,b≠ea->H3 b=H2 b)->H2 ea=none->ExcH H3 C ea->ts ea { nx:=λσ' H'=>D.nx (σ'.set j none) H',rt:=λ_ _=>False } (U.set j<|some<|.ref ea) H3)
theorem zg{C S f:Addr}{k:Nat}{fd:FuncData}{ps:List Str}{sp:Sp}{x cx y n:Str}{i j:Nat}{p cp ep np hpos pos yp:Pos}{e:Expr}{es:List Expr}{ta:TA}{b₀:Stmt}{suite:List Stmt}{ts:Addr->TS}
  (hst:X.stack=X.env::X.outer) (hfL:X.env.frame=some X.env.locals) (hex:X.ex=[]) (F:FnOk X.prog X.w X.K X.mg X.base (qA X.prog X.w C) k f fd ps sp) (hr:Room k X.A) (hg:Gl X x) (hm:X.mg x=some (.ref f)) (hk:Md X.K (.ref f)=true) (hb:Binds X.K fd ps [])
  (ha:PA X.nox (e::es) ta) (ES:XS X.K C S) (hgC:Gl X cx) (hmC:X.mg cx=some (.ref S)) (hsu:∀ea:Addr,rK (X.marked<|.ref ea) (b₀::suite) (ts ea))
  (hN:X.N.Nodup) (hi:X.N[i]?=some y) (hy:wa X.env.scope y) (hj:X.N[j]?=some n) (hn:X.env.kindOf n=some .local)
  (hdb:(x==("__debug__":Str))=false:=by decide) (hdC:(cx==("__debug__":Str))=false:=by decide) (he:starEach (e::es) X.env=(false,eval e X.env)::starEach es X.env:=by rfl) (hpl:(backTo cp<|starEach es X.env).any (·.1)=false:=by rfl)
  (hsw:swapsWith (.Call (.Name x p) (e::es) [] cp) (some<|.Name y yp) ep.line X.env=pure false:=by rfl)
  (hf:X.fn y=true\/X.env.scope.names.lookup y=some .local:=by first|exact .inl rfl|exact .inr rfl|assumption) (hfn:X.fn n=true\/X.env.scope.names.lookup n=some .local:=by first|exact .inl rfl|exact .inr rfl|assumption):
  PS X (.Try [.Assign [.Name y yp] (.Call (.Name x p) (e::es) [] cp) ep] [.ExceptHandler (some<|.Name cx np) (some n) (b₀::suite) hpos] [] [] pos) (He C sp ta i j ts):=by
 intro pins s U H D I h;refine wpAny_Try_except (wpAny_execs_cons<|wpAny_Assign_Name ?_ hsw);refine wpAny_Call_Name_kw (dO I hg hm ?_ hdb);refine NX (h₀:=X.base) I.ok.mod.kin hk (wpAny_mono (ha cp pins s U H _ (I.wish _) h) (λus s1 ⟨vs,H1,I1',r,q⟩=>?_) λ_ _ z=>Kr z) he hpl;have I1:Inv X pins U H1 s1:=I1'.unwish;refine⟨I1.kIn,?_⟩;have hl:us.length=ps.length:=by rw[<- r.length];exact F.len _ _ _ _ q
 have hb1:=hb s1 us I1.kIn (by rw[JR];exact hl)
 rw[JR]at hb1;refine wpAny_call (codeAny_mono (F.run X.A X.stack s1 H1 ⟨us,[]⟩ us vs _ _ hr I1.env0 hb1 r q) λrr s' hq=>?_);cases rr with
 |ok fl=>
  cases fl with
  |ret u=>
   obtain⟨x',H2,I2,r2,q2⟩:=I1.after hq;refine eQ I2 hN hi hy r2 (λs2 I3=>?_) hf;exact wpAny_execs_nil (wpAny_execs_nil ⟨_,H2,I3,q2⟩)
  |next=>exact Kr hq
  |brk=>exact Kr hq
  |cont=>exact Kr hq
 |error er=>
  obtain⟨ea,H',B,a0,rfl,hos,hbare,un,hok,hfl,sT,sA,hE⟩:=hq;have nf:∀b∈fk X.stack,∀o,s1.heap.get? b=some o->∀vs,o.data≠.fields vs:=λb hb' o q' vs=>by
   obtain⟨_,o',ho',hd'⟩:=I1.stack.mem (show b∈_ from hb');rw[q']at ho';cases ho';exact hd' vs
  have shift:∀h':Heap,B.StaysIn h'->s'.heap.UpToSlots h'->Inv X pins U H' { s' with heap:=h' }:=λh' k up=>
   I1.call' (s':={ s' with heap:=h' }) hos (qQ un hfl.1 k up sA nf λb hb'=>I1.stkFree b hb') (o9 hok hfl.1 k sT) hbare λb z=>absurd (show b∈([]:List Addr) from z) (by simp)
  rw[hst]at hfl;have hfr:X.A.frames=some (X.env::X.outer):=by rw[<- hst];exact I1.ok.frames
  refine wpAny_looks_onW hfr hfL hfl λh4 held4 up4=>?_;refine wpAny_landsW held4 λh5 hfl5 up5=>?_;have I5:=(shift h5 hfl5.1<|up4.trans up5).mark (.ref ea);obtain⟨ob,hob,hobc⟩:=hfl5.there;refine wpAny_handleBy_cons (codeAny_handlers_test<|dO I5 hgC hmC ?_ hdC) (by intro q';cases q')
  refine LX.zm I5.kIn ES.tu ES.cl ES.be ES.mr hob hobc (codeAny_handlers_suite_as ?_);refine lands_againW hfl5 λh6 hfl6 up6=>?_;have I6:=shift h6 hfl6.1 ((up4.trans up5).trans up6);obtain⟨oe,ws,hoe,hoec,hoed,_⟩:=hfl6.first
  have hn':H' ea=none:=by
   cases q':H' ea with
   |none=>rfl
   |some u=>obtain⟨o',z⟩:=sT ea u q';rw[hfl6.2.1]at z;cases z
  have new1:∀u,s1.heap.get? ea≠some u:=λu q'=>by
   by_cases hb':ea∈fk X.stack
   .obtain⟨_,o',ho',hd'⟩:=I6.stack.mem (show ea∈_ from hb')
    rw[show ({ s' with heap:=h6 }:Shared).heap.get? ea=some oe from hoe]at ho';cases ho';exact hd' ws hoed
   .obtain⟨o',z⟩:=sA ea u q' hb'
    rw[hfl6.2.1]at z;cases z
  have I7:=I6.track (o:=oe) hoe hn' (λu q'=>by
    obtain⟨o',z⟩:=I1.base.there ea u q' (by rw[hex];simp)
    exact new1 _ z) (λq'=>by
    obtain⟨m,⟨oL,_,_,hoL,_⟩,_⟩:=I1.loc;exact new1 _ (q'▸hoL)) (λy c q' z=>by
    obtain⟨v,o',ho',_⟩:=I1.cell y c q';exact new1 _ (z▸ho')) (λp' q' z=>by
    exact new1 _ (z▸(I1.pin p' q').1))
  refine eQ I7 hN hj (.inl hn) (show RelV (.ref ea) (.ref ea) from rfl) (λs8 I8=>?_) hfn;have h8:=hE ea (upd H' ea<|.frz oe<|.own 0) (λb hb'=>by simp[upd,hb']) hn' ⟨oe,by simp[upd],hoec⟩
  refine wpAny_mono (hsu ea pins _ _ _ _ (I8.mark<|.ref ea) h8) (λfl s9 q9=>?_) λ_ _ z=>Kr z;cases fl with
  |next=>
   obtain⟨σ',H9,I9,q9⟩:=q9;exact xj (I9.unmark I.ok) hN hj hn λs10 I10=>⟨_,H9,I10,q9⟩
  |ret u=>obtain⟨_,_,_,_,_,z⟩:=q9;exact Kr z
  |brk=>obtain⟨_,_,_,z⟩:=q9;exact Kr z
  |cont=>obtain⟨_,_,_,z⟩:=q9;exact Kr z
end
structure RoomN(k:Nat)(A:Around):Prop where
 dp:A.depth+3*k+5<recursionLimit
 un:A.units+16*k+200<cLine
 gd:A.guards=some []
theorem Room.n{k:Nat}{A:Around}(r:Room k A)(e:Option Value):RoomN k (A.mark e):=⟨r.dp,r.un,r.gd⟩
theorem RoomN.deeper{k:Nat}{A:Around}(r:RoomN (k+1) A)(env:Env):RoomN k (A.deeper env):=
 ⟨by have:=r.dp;show A.depth+1+3*k+5<_;lia,by have:=r.un;show A.units+3+16*k+200<_;lia,r.gd⟩
theorem RoomN.depth{k:Nat}{A:Around}(r:RoomN k A):A.depth<recursionLimit:=by have:=r.dp;lia
theorem RoomN.units{k:Nat}{A:Around}(r:RoomN k A):A.units+64<cLine:=by have:=r.un;lia
structure FnOkN(P:Program)(w:World)(K:JF)(mg:Str->Option Value)(base:Heap)(CX:iJ)(k:Nat)(f:Addr)(fd:FuncData)(ps:List Str)(sp:Sp):Prop where
 len:∀vs H Q E,sp vs H Q E->vs.length=ps.length
 run:∀(A:Around) (outer:List Env) (s:Shared) (H:Hp) (args:Args) (us:List Value) (vs:List V) (Q:VK) (E:XK),RoomN k A->Env0 P w K mg base A outer s H->BindsTo s fd args (ps.zip us)->Vals vs us->sp vs H Q E->
  codeAny (model P w) A (.call (.ref f) args) (CR CX outer P w H s Q E) s
def m7(CX:iJ)(P:Program)(w:World)(K:JF)(mg:Str->Option Value)(base:Heap)(N:List Str)(qual:Str)(scope:Scope)(f:Addr)(cd:Value)(A:Around)(outer:List Env)(s:Shared)(H:Hp)(E:XK):Cx where
 prog:=P
 w:=w
 K:=K
 mg:=mg
 base:=base
 A:=A.deeper (envOfC qual scope s.heap.objs.size f cd)
 N:=N
 s₀:=s
 H₀:=H
 env:=envOfC qual scope s.heap.objs.size f cd
 outer:=outer
 stack:=envOfC qual scope s.heap.objs.size f cd::outer
 ex:=[]
 calm:=false
 fn:=λ_=>true
 pn:=[]
 xe:=λe s'=>wpAny (model P w) (A.deeper<|envOfC qual scope s.heap.objs.size f cd) (leaving (envOfC qual scope s.heap.objs.size f cd) e) (λ_ s''=>CX outer H s E e s'') (λe' s''=>CX outer H s E e' s'') s'
theorem qD{CX:iJ}{P:Program}{w:World}{K:JF}{mg:Str->Option Value}{base:Heap}{N ps:List Str}{qual:Str}{scope:Scope}{f:Addr}{cd:Value}{A:Around}{outer:List Env}{s s1:Shared}{H:Hp}{E:XK}{us:List Value}{vs:List V}
  (S:FnScope N ps scope) (e0:Env0 P w K mg base A outer s H) (hl:vs.length=ps.length) (r:Vals vs us)
  (x:InCallC s s.heap.objs.size (bindL (envOfC qual scope s.heap.objs.size f cd).kindOf (ps.zip us) λ_=>none) (cellsFrom (s.heap.objs.size+1) scope.names []) (bindC (envOfC qual scope s.heap.objs.size f cd).kindOf (ps.zip us) λ_=>none) s1):
  Inv (m7 CX P w K mg base N qual scope f cd A outer s H E) [] (start N vs) H s1:=by
 have e1:Env0 P w K mg base { A with handled:=none } outer s H:=⟨e0.frames,e0.mod,e0.bs,e0.bsz,e0.funs,e0.frf,e0.hok,e0.bare⟩;have I:=me (CX:=CX) (E:=E) (A:={ A with handled:=none }) (qual:=qual) (f:=f) (cd:=cd) S rfl e1 hl r x;exact⟨⟨I.ok.mod,I.ok.kind,I.ok.glob,I.ok.blt,I.ok.above,I.ok.inj,I.ok.has,I.ok.cab,λz=>(NW z),I.ok.frames,I.ok.stk,I.ok.exf,I.ok.bs,I.ok.bsz,I.ok.noex,I.ok.exfs,I.ok.funs,I.ok.frf⟩,I.os,I.bare,I.base,I.loc,I.cell,I.free,I.freeC,I.pin,I.hok,I.len⟩
theorem Gc{CX:iJ}{P:Program}{w:World}{K:JF}{mg:Str->Option Value}{base:Heap}{k:Nat}{f:Addr}{name qual:Str}{params:Arguments}{body:List Stmt}{scope:Scope}{dV kV doc pm cdv ct oc:Value}{an od:Option Addr}
  {osl:Array (Option Value)} {N ps:List Str} {sp:Sp} (lk:K.lookup f=some ⟨oc,od,.func (Nj name qual params body scope dV kV doc pm an cdv ct),osl⟩) (hcd:W.codeIn K cdv qual=true) (S:FnScope N ps scope)
  (len:∀vs H Q E,sp vs H Q E->vs.length=ps.length)
  (hbody:∀(A:Around) (outer:List Env) (s:Shared) (H:Hp) (vs:List V) (Q:VK) (E:XK),RoomN k (A.deeper<|envOfC qual scope s.heap.objs.size f cdv)->sp vs H Q E->
   ∃t,rK (m7 CX P w K mg base N qual scope f cdv A outer s H E) body t/\t { nx:=λ_ H'=>Q .non H',rt:=Q } (start N vs) H):
  FnOkN P w K mg base CX (k+1) f (Nj name qual params body scope dV kV doc pm an cdv ct) ps sp:=by
 refine⟨len,λA outer s H args us vs Q E hr e0 hb r hsp=>?_⟩;have hl:=len _ _ _ _ hsp;have KX:K.In s.heap:=e0.mod.kin.keeps λb o e=>(e0.bs b o e).1;have lim:s.heap.NoLimit:=e0.mod.nolimit.keeps λb o e=>(e0.bs b o e).1;have hkind:∀y∈ps.zip us,scope.names.lookup y.1=some .local\/(scope.names.lookup y.1=some .cell/\((cellsFrom (s.heap.objs.size+1) scope.names []).lookup y.1).isSome=true):=λ⟨n,v⟩ hy=>by
  rcases S.par n (Nc hy).1 with q|q
  .exact .inl q
  .exact .inr ⟨q,Ob _ _ _<|.inl q⟩
 refine codeAny_call_function hr.depth (KX _ _ lk) rfl S.co S.gen rfl (W.codeRec_of KX hcd) (hb _ _ _ _ ?_);refine wpAny_newFunctionEnv_cells S.kind hkind λenv he s1 x=>?_;subst he;refine⟨lim.keeps x.toInCall.keep,codeAny_func ?_⟩;obtain⟨t,ht,hq⟩:=hbody A outer s H vs Q E (hr.deeper _) hsp;have I:Inv (m7 CX P w K mg base N qual scope f cdv A outer s H E) [] (start N vs) H s1:=qD S e0 hl r x;refine wpAny_mono (ht [] s1 (start N vs) H _ I hq) (λfl s' hs=>?_) λe s' hs=>hs;have fin:∀{σ':St} {H':Hp} {v:V} {u:Value},Inv (m7 CX P w K mg base N qual scope f cdv A outer s H E) [] σ' H' s'->RelV v u->Q v H'->CE outer P w H s Q u s':=
  λ{σ' H' v u} J rv q=>⟨v,H',J.os,J.bare,J.base,J.hok,rv,q⟩
 cases fl with
 |ret u=>
  obtain⟨v,σ',H',J,rv,q⟩:=hs;exact fin J rv q
 |next=>
  obtain⟨σ',H',J,q⟩:=hs;exact fin (v:=V.non) (u:=KN) J rfl q
 |brk=>
  obtain⟨_,_,_,q⟩:=hs;exact Kr q
 |cont=>
  obtain⟨_,_,_,q⟩:=hs;exact Kr q
theorem zX{X:Cx}{CX:iJ}{k:Nat}{f:Addr}{fd:FuncData}{ps:List Str}{sp:Sp}{E:XK}{x:Str}{p pos:Pos}{e:Expr}{es:List Expr}{t:TA}(F:FnOkN X.prog X.w X.K X.mg X.base CX k f fd ps sp)(hr:RoomN k X.A)(hg:Gl X x)(hm:X.mg x=some (.ref f))(hk:Md X.K (.ref f)=true)(hb:Binds X.K fd ps [])(hx:cy CX X E)
  (ha:PA X (e::es) t) (hdb:(x==("__debug__":Str))=false:=by decide) (he:starEach (e::es) X.env=(false,eval e X.env)::starEach es X.env:=by rfl) (hpl:(backTo pos<|starEach es X.env).any (·.1)=false:=by rfl):
  PE X (.Call (.Name x p) (e::es) [] pos) (Dm sp [] E t):=by
 intro pins s U H Q I h;refine wpAny_Call_Name_kw (dO I hg hm ?_ hdb);refine NX (h₀:=X.base) I.ok.mod.kin hk (bG (ha pos pins s U H _ I h) λus s1 ⟨vs,H1,I1,r,q⟩=>⟨I1.kIn,?_⟩) he hpl;have q:sp (vs++[]) H1 Q E:=q;rw[JR]at q;have hl:us.length=ps.length:=by rw[<- r.length];exact F.len _ _ _ _ q
 have hb1:=hb s1 us I1.kIn (by rw[JR];exact hl)
 rw[JR]at hb1;refine wpAny_call (codeAny_mono (F.run X.A X.stack s1 H1 ⟨us,[]⟩ us vs _ _ hr I1.env0 hb1 r q) λrr s' hq=>?_);cases rr with
 |ok fl=>
  cases fl with
  |ret u=>exact I1.after hq
  |next=>exact Kr hq
  |brk=>exact Kr hq
  |cont=>exact Kr hq
 |error er=>exact hx pins U H1 s1 er s' I1 hq
end L2
namespace L2
open PySem
theorem o8{X:Cx}:bz X (.builtin "isinstance") (λxs H Q=>∃ea C c cv b,xs=[.ref ea,c]/\ExcH H C ea/\LX.XC X.K C/\(∀u,RelV c u->u=cv)/\Mv X.K (.ref C) cv=some b/\Q (.bl b) H):=by
 intro pins s U H xs us Q I r h;obtain⟨ea,C,c,cv,b,rfl,⟨o,ho,hc⟩,Z,hv,e,q⟩:=h;obtain⟨u,w,rfl,rx,rc⟩:=r.two;obtain rfl:u=Kh ea:=rx;obtain rfl:=hv _ rc;obtain⟨h1,_⟩:=(show ObjOk X.prog X.w H s.heap ea (.frz o<|.own 0) from I.hok ea _ ho);exact LR (LX.yK Z) I.kIn ⟨h1,hc⟩ e (λz=>nomatch z) λtk=>⟨.bl b,H,I.tok tk,rfl,q⟩
end L2
namespace L3
open PySem L2
section
variable {X:Cx}{B:Bd}{K:JF}{H H':Hp}{M M1 M':Mem}
theorem Aw{C ea:Addr}(f:Frm M H M' H')(h:ExcH H C ea)(n:M ea=none):ExcH H' C ea:=let ⟨o,a,b⟩:=h;⟨o,(f.keep ea _ a n).1,b⟩
theorem ExcH.none{C ea:Addr}(h:ExcH H C ea)(r:RepH K H M):M ea=none:=by
 obtain⟨o,a,_⟩:=h;cases q:M ea with
 |none=>rfl
 |some u=>
  have z:=r _ _ q;cases u with
  |lst xs=>obtain⟨_,z,_⟩:=z;rw[a]at z;cases z
  |dK xs=>obtain⟨_,z,_⟩:=z;rw[a]at z;cases z
  |dT xs=>obtain⟨_,z,_⟩:=z;rw[a]at z;cases z
  |ins c xs=>obtain⟨_,_,z,_⟩:=z;rw[a]at z;cases z
def fQ(K:JF)(C:Addr)(c:D)(b:Bool):Prop:=match c with
 |.ref D=>Mv K (.ref C) (.ref D)=some b
 |.ty T=>Mv K (.ref C) (.type T)=some b
 |_=>False
def gQ(ea:Addr)(c:D)(b:Bool)(t:dZ):bg:=λY M Q=>t Y M λvs M1=>vs=[.ref ea,c]/\Q (.bl b) M1
theorem Gd{x:Str}{e:Expr}{es:List Expr}{t:dZ}{C ea:Addr}{c:D}{b:Bool}{p pos:Pos}(h0:∀M H,B.p M H->ExcH H C ea)(Z:LX.XC X.K C)(hc:fQ X.K C c b)(hg:Gl X x)(hm:X.mg x=none)(hv:bootBuiltins x=some (.builtin "isinstance"))(ha:DA X B (e::es) t)(hn:x≠"__name__":=by decide)(hdb:(x==("__debug__":Str))=false:=by decide)
  (he:starEach (e::es) X.env=(false,eval e X.env)::starEach es X.env:=by rfl) (hpl:(backTo pos<|starEach es X.env).any (·.1)=false:=by rfl):DE X B (.Call (.Name x p) (e::es) [] pos) (gQ ea c b t):=by
 refine aZ (oF o8 hg hm hv ha hn hdb he hpl) ?_
 rintro U H Q ⟨Y,M,QQ,s,h,u⟩
 refine⟨Y,M,_,s,h,λds M1 h1 vs H1 rh1 i1 r1=>?_⟩;obtain⟨rfl,h1⟩:=h1;obtain⟨v,w,rfl,rv,rw'⟩:=yq r1;cases rv;have hE:ExcH H1 C ea:=h0 _ _ (B.go s.i0 i1);cases c with
 |ref a=>cases rw';exact⟨ea,C,_,.ref a,b,rfl,hE,Z,λu q=>q,hc,u _ M1 h1 _ H1 rh1 i1 rfl⟩
 |ty T=>cases rw';exact⟨ea,C,_,.type T,b,rfl,hE,Z,λu q=>q,hc,u _ M1 h1 _ H1 rh1 i1 rfl⟩
 |non=>exact hc.elim
 |bl _=>exact hc.elim
 |int _=>exact hc.elim
 |str _=>exact hc.elim
 |tup _=>exact hc.elim
 |lst _=>exact hc.elim
 |mt _=>exact hc.elim
 |ml _=>exact hc.elim
end
def fi(K:JF)(C:Addr)(T:Addr->Sd):Sp:=λvs H Q E=>∃ea,ExcH H C ea/\vs=[.ref ea]/\∃M QQ EE,RepH K H M/\T ea [.ref ea] M QQ EE/\Up K M H QQ Q/\UpX K M H EE E
section
variable {P:Program}{w:World}{K:JF}{mg:Str->Option Value}{base:Heap}{f:Addr}{fd:FuncData}
theorem fnE{x qual:Str}{st:Stmt}{N ps:List Str}{k:Nat}{C:Addr}{T:Addr->DX->ar}(F:Fun K x qual st f fd)(S:FnScope N ps (aQ st))(hps:ps.length=1)
  (hb:∀(ea:Addr) (cdv:Value) (A:Around) (outer:List Env) (s:Shared) (H:Hp) (E:XK) (B:Bd) (EE:DX),RoomN k (A.deeper<|Mm qual (aQ st) s.heap.objs.size f cdv)->y1 K B EE E->(∀M' H',B.p M' H'->ExcH H' C ea)->
   y3 (m7 (lg P w) P w K mg base N qual (aQ st) f cdv A outer s H E) B (cm st) (T ea EE)):
  FnOkN P w K mg base (lg P w) (k+1) f fd ps (fi K C λea=>aP N (T ea)):=by
 obtain⟨oc,od,kV,doc,pm,an,cdv,ct,osl,rfl,lk,hcd⟩:=F.ex;refine Gc lk hcd S (λvs H Q E h=>by obtain⟨ea,_,rfl,_⟩:=h;exact hps.symm) λA outer s H vs Q E hr hsp=>?_
 obtain⟨ea,hE,rfl,M,QQ,EE,rh,hT,u,ux⟩:=hsp;refine⟨_,hb ea cdv A outer s H E (Bd.of M H) (aJ EE) hr ux.drp (λM' H' f=>Aw f hE (ExcH.none hE rh)),startN N [.ref ea],M,{ nx:=λ_ M'=>drp QQ .non M',rt:=drp QQ },⟨Frm.refl,rh,.startN N<|.cons rfl .nil⟩,hT,⟨?_,u.drp,?_,?_⟩⟩
 .exact λY M' q U H' f s'=>u.drp _ M' q _ H' s'.rh f rfl
 .exact λY M' q=>(show False from q).elim
 .exact λY M' q=>(show False from q).elim
end
section
variable {X:Cx}{B:Bd}{K:JF}{H H':Hp}{M M1 M':Mem}
theorem pq{C ea:Addr}{T:Addr->Sd}{EE:DX}{Q:DK}{QV:VK}{E:XK}{b:BxQ EE Q}(hE:ExcH H C ea)(h:calls (T ea) EE [.ref ea] M Q b)(rh:RepH K H M)(u:Up K M H Q QV)(ux:UpX K M H EE E):fi K C T [.ref ea] H QV E:=by
 obtain⟨M1,s,h⟩:=h.go;refine⟨ea,hE,rfl,M1,_,_,rh.sub s,h,λd M' q v H' rh' f r'=>?_,λC M' q H' rh' f=>?_⟩
 .exact u d _ (q<|rh.dis f) v H' (rh.plus s rh' f) (f.plus s) r'
 .exact ux C _ (q<|rh.dis f) H' (rh.plus s rh' f) (f.plus s)
theorem RepS.unset{Y:Dl}{U:L2.St}{i:Nat}(r:RepS K H Y U):RepS K H (Y.set i none) (U.set i none):=by
 refine⟨by simp[r.len],λj e q=>?_⟩
 rw[List.getElem?_set]at q ⊢
 by_cases hij:i=j
 .rw[if_pos hij]at q
  split at q<;>cases q
 .rw[if_neg hij]at q ⊢
  exact r.get j e q
def mF(C:Addr)(T:Sd)(m:Nat)(ta:dZ)(i j l:Nat)(Tk:Addr->Sd):ar:=λD Y M=>Y[j]?.isSome=true/\ta Y M λds M1=>ds.length=m/\
 calls T (λC' M2=>C'=C/\∀ea,calls (Tk ea) (λ_ _=>False) [.ref ea] M2 (λd M3=>D.nx (((Y.set j<|some<|.ref ea).set l<|some d).set j none) M3) ⟨⟩) ds M1 (λd M2=>D.nx (Y.set i<|some d) M2) ⟨⟩
theorem A0{C S f g:Addr}{k k2 m:Nat}{fd fg:FuncData}{ps pg:List Str}{T:Sd}{Tk:Addr->Sd}{x cx y n z gx:Str}{i j l:Nat}{p cp ep np hpos pos yp zp gp np2 gcp zep:Pos}{e:Expr}{es:List Expr}{ta:dZ}
  (hst:X.stack=X.env::X.outer) (hfL:X.env.frame=some X.env.locals) (hex:X.ex=[]) (F:FnOk X.prog X.w X.K X.mg X.base (lg X.prog X.w) k f fd ps (cj X.K m T)) (hr:Room k X.A) (hg:Gl X x) (hm:X.mg x=some (.ref f)) (hk:Md X.K (.ref f)=true) (hb:Binds X.K fd ps [])
  (ha:DA X.nox B (e::es) ta) (ES:XS X.K C S) (hgC:Gl X cx) (hmC:X.mg cx=some (.ref S))
  (G:FnOkN X.prog X.w X.K X.mg X.base (lg X.prog X.w) k2 g fg pg (fi X.K C Tk)) (hr2:Room k2 X.A) (hgg:Gl X gx) (hmg:X.mg gx=some (.ref g)) (hkg:Md X.K (.ref g)=true) (hbg:Binds X.K fg pg [])
  (hN:X.N.Nodup) (hi:X.N[i]?=some y) (hy:wa X.env.scope y) (hj:X.N[j]?=some n) (hn:X.env.kindOf n=some .local) (hl:X.N[l]?=some z) (hz:wa X.env.scope z)
  (hdb:(x==("__debug__":Str))=false:=by decide) (hdC:(cx==("__debug__":Str))=false:=by decide) (hdg:(gx==("__debug__":Str))=false:=by decide) (hdn:(n==("__debug__":Str))=false:=by decide) (hcn:(n==("__classdict__":Str))=false:=by decide)
  (he:starEach (e::es) X.env=(false,eval e X.env)::starEach es X.env:=by rfl) (hpl:(backTo cp<|starEach es X.env).any (·.1)=false:=by rfl)
  (hsw:swapsWith (.Call (.Name x p) (e::es) [] cp) (some<|.Name y yp) ep.line X.env=pure false:=by rfl) (hsw2:swapsWith (.Call (.Name gx gp) [.Name n np2] [] gcp) (some<|.Name z zp) zep.line X.env=pure false:=by rfl)
  (hf:X.fn y=true\/X.env.scope.names.lookup y=some .local:=by first|exact .inl rfl|exact .inr rfl|assumption) (hfn:X.fn n=true\/X.env.scope.names.lookup n=some .local:=by first|exact .inl rfl|exact .inr rfl|assumption) (hfz:X.fn z=true\/X.env.scope.names.lookup z=some .local:=by first|exact .inl rfl|exact .inr rfl|assumption):
  DS X B (.Try [.Assign [.Name y yp] (.Call (.Name x p) (e::es) [] cp) ep] [.ExceptHandler (some<|.Name cx np) (some n) [.Assign [.Name z zp] (.Call (.Name gx gp) [.Name n np2] [] gcp) zep] hpos] [] [] pos) (mF C T m ta i j l Tk):=by
 have hsu:∀ea:Addr,rK (X.marked<|.ref ea) [.Assign [.Name z zp] (.Call (.Name gx gp) [.Name n np2] [] gcp) zep] _:=λea=>
  uS (zK (X:=X.marked (.ref ea)) hN hl hz (zX (X:=X.marked (.ref ea)) (E:=E0) G (hr2.n _) hgg hmg hkg hbg qJ (mV (zT (X:=X.marked (.ref ea)) hj (.inl hn) hdn hcn) rn) hdg) hsw2 hfz)
 refine ck (zg (C:=C) hst hfL hex (BF F) hr hg hm hk hb ha ES hgC hmC hsu hN hi hy hj hn hdb hdC he hpl hsw hf hfn) ?_
 rintro D U H ⟨Y,M,DD,s,⟨hjj,h⟩,up⟩
 refine⟨Y,M,_,⟨s.i0,s.rh,s.rs⟩,h,λds M1 h1 vs H1 rh1 i1 r1=>?_⟩
 try dsimp only
 refine fU h1.2 rh1 r1 (by rw[<- r1.length];exact h1.1) (λd M2 h2 v H2 rh2 i2 r2=>?_) λC' M2 h2 H2 rh2 i2=>?_
 .have s2:=s.go rh2 (i1.trans i2)
  exact up.nx _ _ h2 _ H2 (i1.trans i2) ⟨s2.i0,s2.rh,s2.rs.set r2⟩
 .obtain⟨rfl,h2⟩:=h2
  refine⟨rfl,λea H3 h3 hn2 hE=>?_⟩;have fr:Frm M2 H2 M2 H3:=⟨λb u q n=>⟨by rw[h3 b (λz=>by rw[z,hn2]at q;cases q)];exact q,n⟩⟩
  have rh3:RepH X.K H3 M2:=λb o q=>(rh2 b o q).keep (fr.imm rh2) (by
   obtain⟨u,hu⟩:=(rh2 b o q).obj;rw[h3 b (λz=>by rw[z,hn2]at hu;cases hu)])
  have s3:=s.go rh3 ((i1.trans i2).trans fr);have hj':j<U.length:=by
   rw[<- s.rs.len];obtain⟨o,ho⟩:=Ol.mp hjj;exact(Kv.mp ho).1
  show GV j (U.set j<|some<|V.ref ea) H3 _;unfold GV;refine⟨.ref ea,by rw[Mj hj'],?_⟩
  show fi X.K C' Tk [V.ref ea] H3 _ E0;refine pq hE (h2 ea) rh3 (λd M4 h4 v H4 rh4 i4 r4=>?_) (λ_ _ z=>z.elim);have f4:=((i1.trans i2).trans fr).trans i4;have s4:=s.go rh4 f4;exact up.nx _ _ h4 _ H4 f4 ⟨s4.i0,s4.rh,((s4.rs.set (d:=.ref ea) rfl).set r4).unset⟩
end
end L3
namespace L3
open PySem L2 LS
section
variable {X:Cx}{B:Bd}
def n_:x6:=λx ds M Q=>match ds with
 |[.bl b]=>match cz M x with
  |some xs=>match eA xs with
   |some bs=>Q (.int ((bs.countP (·==b):Nat):Int)) M
   |none=>False
  |none=>False
 |_=>False
def nj:x6:=λx ds M Q=>match ds with
 |[.bl b]=>match cz M x with
  |some xs=>match eA xs with
   |some bs=>bs.length<=1000/\match bs.findIdx? (·==b) with
    |some j=>Q (.int (j:Nat)) M
    |none=>False
   |none=>False
  |none=>False
 |_=>False
theorem km{pins:List (Addr×Obj)}{U:L2.St}{H:Hp}{s:Shared}{p:Addr}{vs:List V}(I:Inv X pins U H s)(h:Rd H p (.lst vs)):∃(its:List Value) (o:Array (Option Value)) (n:Nat),Vals vs its/\s.heap.get? p=some { cls:=.type "list",dict:=none,data:=.seq its.toArray n,slots:=o }:=by
 obtain⟨its,rr,⟨o,n,eo,hc,hdn,hdt⟩,_⟩:=I.list (.inl h);obtain⟨oc,od,ot,os⟩:=o;simp only at hc hdn hdt;subst hc hdn hdt;exact⟨its,os,n,rr,eo⟩
theorem nL:∀{bs:List Bool} {its:List Value},Vals (bs.map V.bl) its->its=bs.map Lq
 |[],_,h=>by cases h;rfl
 |b::bs,_,h=>by
  cases h with
  |cons a r=>cases (show _=Lq b from a);rw[nL r];rfl
theorem pM(bs:List Bool)(b:Bool):(bs.map Lq).countP (λv=>match v with|.bool y=>y==b|_=>false)=bs.countP (·==b):=by
 rw[List.countP_map];rfl
theorem xx:x_ X "list.count" (liftM X n_):=by
 intro pins s U H x vs v us Q I rx rv h;obtain⟨d,ds,M,QQ,rh,r,rs,h,up⟩:=h;unfold n_ at h
 split at h
 .rename_i b
  split at h
  .rename_i xs ex
   split at h
   .rename_i bs eb
    obtain⟨w,rfl,rw'⟩:=eF (ds:=[]) rs;cases rw';obtain⟨p,ws,rfl,hp,rr⟩:=cO rh r ex;have:=fj rr eb;subst this;cases rx;obtain⟨u,rfl,ru⟩:=fG rv;cases ru;obtain⟨its,os,n,rv2,eo⟩:=km I hp;have:=nL rv2;subst this
    refine call_meets Oi ⟨_,eo,rfl⟩ PySem.F.entry_list_count (PySem.F.args_list_count_2 _ _)
     (SeqAt.list_countAt p (bs.map Lq).toArray n none os (.bool b) λv=>match v with|.bool y=>y==b|_=>false) ⟨eo,λy hy=>?_,?_⟩
    .obtain⟨y',_,rfl⟩:=La.mp (by simpa using hy:y∈bs.map Lq)
     exact MM y' b
    .rw[Pc,pM]
     exact⟨.int _,H,I.tok _,⟨_,rfl⟩,up _ M h _ H rh Frm.refl rfl⟩
   .exact h.elim
  .exact h.elim
 .exact h.elim
theorem wN:x_ X "list.index" (liftM X nj):=by
 intro pins s U H x vs v us Q I rx rv h;obtain⟨d,ds,M,QQ,rh,r,rs,h,up⟩:=h;unfold nj at h
 split at h
 .rename_i b
  split at h
  .rename_i xs ex
   split at h
   .rename_i bs eb
    obtain⟨hl,h⟩:=h
    split at h
    .rename_i j ej
     obtain⟨w,rfl,rw'⟩:=eF (ds:=[]) rs;cases rw';obtain⟨p,ws,rfl,hp,rr⟩:=cO rh r ex;have:=fj rr eb;subst this;cases rx;obtain⟨u,rfl,ru⟩:=fG rv;cases ru;obtain⟨its,os,n,rv2,eo⟩:=km I hp;have:=nL rv2;subst this;rw[Me]at ej;obtain⟨hj,e1,e2⟩:=ej;have hjs:j<(bs.map Lq).toArray.size:=by simpa using hj
     refine call_meets L9 ⟨_,eo,rfl⟩ Oc (N4 _ _)
      (O9 p (bs.map Lq).toArray n none os (.bool b) (λv=>match v with|.bool y=>y==b|_=>false) j hjs (by have:=hl;lia) ?_ λm hm hmj=>?_) ⟨eo,λy hy=>?_,?_⟩
     .simpa using e1
     .have:=e2 m hmj
      simpa using this
     .obtain⟨y',_,rfl⟩:=La.mp (by simpa using hy:y∈bs.map Lq)
      exact MM y' b
     .exact⟨.int (j:Int),H,I.tok _,⟨_,rfl⟩,up _ M h _ H rh Frm.refl rfl⟩
    .exact h.elim
   .exact h.elim
  .exact h.elim
 .exact h.elim
end
end L3
namespace L3
open PySem L2
theorem jQ:bootBuiltins "ValueError"=some (.type "ValueError"):=by decide +kernel
theorem pH{K:JF}{C:Addr}(h:KH K C=true):(W.clsIn K C).isSome=true:=by
 obtain⟨cd,hc,_⟩:=W.any_some h;rw[hc];rfl
theorem dk{K:JF}{C D:Addr}{b:Bool}(hs:Lh K C (.ref C)=some true)(hd:KH K D=true)(ht:Mc K (.ref D)=some (.type "type"))(hm:Lh K C (.ref D)=some b):fQ K C (.ref D) b:=by
 show Mv K (.ref C) (.ref D)=some b;unfold Mv
 split
 .rename_i q
  have e:C=D:=Pg (beq_iff_eq.mp q);subst e;rw[hs]at hm;exact hm
 .unfold W.kitCls
  simp only[pH hd,ht,beq_self_eq_true,Bool.and_self,if_true];exact hm
theorem EL{K:JF}{C:Addr}{b:Bool}(hm:Lh K C (.type "ValueError")=some b):fQ K C (.ty "ValueError") b:=by
 show Mv K (.ref C) (.type "ValueError")=some b;unfold Mv;rw[if_neg (by intro q;cases beq_iff_eq.mp q)]
 unfold W.kitCls
 try dsimp only
 rw[if_pos (by decide +kernel)]
 exact hm
section
variable {X:Cx}{B:Bd}
def uu:dq:=λx y M Q=>match x,y with
 |.bl c,.bl d=>Q (.bl (c != d)) M
 |_,_=>False
theorem yr:ce X (compareOp .IsNot) (liftR2 X uu):=by
 intro pins s U H x y v u Q I rx ry h;obtain⟨d1,d2,M,QQ,rh,r1,r2,h,up⟩:=h;unfold uu at h
 split at h
 .cases r1;cases r2;cases rx;cases ry
  exact PyProof.Rows.isnot_bool (rS I (up _ M h _ H rh Frm.refl rfl) rfl)
 .exact h.elim
end
section
variable {X:Cx}{B:Bd}
variable {C:Addr}{f:Str}{o value:Expr}{ta tv:bg}{pos tpos:Pos}
end
section
variable {X:Cx}{B:Bd}{CX:iJ}{k n:Nat}{f C:Addr}{fd:FuncData}{ps:List Str}{T:Sd}{E:XK}{EE:DX}{x:Str}{p pos:Pos}
end
section
variable {X:Cx}{B:Bd}{K:JF}{H H':Hp}{M M1 M':Mem}{pos:Pos}
end
section
variable {X:Cx}{B:Bd}
end
end L3
namespace LS
open PySem PySem.W PySem.Calls PyProof.Rows PyProof.V PySem.Spec
section
variable {prog:Program}{w:World}{A:Around}{E:Value->Shared->Prop}{s:Shared}{it d:Addr}{i n ep:Nat}{ok ov:Value}{od:Obj}{es:Array DictEntry}
end
end LS
namespace L2
open PySem PySem.Spec PyProof.Rows LS
theorem Jy{X:Cx}{pins:List (Addr×Obj)}{U:St}{H:Hp}{s:Shared}{d:Addr}{od:Obj}{kvs:List (List bw×V)}{es:Array DictEntry}{ep:Nat}(I:Inv X pins U H s)(e:H d=some (.frz od<|.dT kvs))(hd:od.data=.dict es ep):
  s.heap.get? d=some od/\∃xs:List (List bw×Addr×Value),KT H kvs xs/\es.toList=xs.map (entryOfKey<|tupleKind<|a_ X.prog X.w):=by
 obtain⟨h1,_,_,xs,r,o,es',ep',h2,_,h4,h5,_⟩:=(show ObjOk X.prog X.w H s.heap d (.frz od<|.dT kvs) from I.hok d _ e);rw[h1]at h2;cases h2;rw[hd]at h4;cases h4;exact⟨h1,xs,r,h5⟩
end L2
namespace L3
open PySem L2 LS
section
variable {X:Cx}{B:Bd}
end
end L3
namespace LS
open PySem PySem.W PySem.Calls PyProof.Rows PyProof.V PySem.Spec L2
theorem du:entryFor table "list.__getattribute__"=some Builtin.«object.__getattribute__»:=entryFor_alias (id':="object.__getattribute__") (by kernel_rfl) (by decide +kernel) (by decide +kernel) (by kernel_rfl)
theorem gw:typeLookup (.type "list") "__getattr__"=pure none:=by rw[typeLookup_type];rw[builtinLookup_eq_fast];kernel_rfl
theorem mB:typeLookup (.type "list") "keys"=pure none:=by rw[typeLookup_type];rw[builtinLookup_eq_fast];kernel_rfl
abbrev Ct(h:Heap)(a:Addr)(its:Array Value)(n:Nat):Prop:=h.get? a=some { cls:=.type "list",dict:=none,data:=.seq its n,slots:=#[] }
theorem iz(a:Addr)(its:Array Value)(n:Nat)(name:Str)(u:Tok)(hmiss:typeLookup (.type "list") name=pure none)(hname:(["__module__","__name__","__qualname__","__doc__","__annotations__"]:List Str).contains name=false)(hsz:name.length+100<=sizeLine):
  Meets (Builtin.«object.__getattribute__» ⟨[.ref a,.str name u],[]⟩) (λA R s=>Ct s.heap a its n/\raisesAttr (.ref a) name A R s):=
 Meets.of_wp λprog w A R s hs=>by
  obtain⟨hp,g,d,tk,os⟩:=s;obtain⟨hx,hs⟩:=hs;have hT:(⟨hp,g,d,tk,os⟩:Shared).TypeIs (.ref a) "list":=⟨_,hx,rfl⟩;unfold Builtin.«object.__getattribute__»
  repeat (any_goals (first|assumption|wp_step))
  simp only[hname,JQ,if_false]
  repeat (any_goals (first|assumption|wp_step))
  exact wpAny_raiseAttrError hs.1 hs.2 (attrMsg_fits (by decide +kernel) hsz)
section
variable {prog:Program}{w:World}{A:Around}{E:Value->Shared->Prop}{s:Shared}
theorem ke{a:Addr}{its:Array Value}{n:Nat}{Q:Option Value->Shared->Prop}(hx:Ct s.heap a its n)(hA:A.handled=none)
  (h:∀h' tk,(∀b o,s.heap.get? b=some o->h'.get? b=some o)->Q none { s with heap:=h',toks:=tk }):wpAny (model prog w) A (getAttr? (.ref a) "keys") Q E s:=by
 obtain⟨hp,g,d,tk,os⟩:=s;have hT:∀tk',(⟨hp,g,d,tk',os⟩:Shared).TypeIs (.ref a) "list":=λ_=>⟨_,hx,rfl⟩;have f1':=sub_AttributeError;have f3:=Ml.lookup;have f4:=Ml.bind (.ref a);have f5:=gw;unfold getAttr? getAttrBy? getAttrBy
 repeat (any_goals (first|assumption|exact hT _|((with_reducible show wpAny _ _ (call (Value.builtin "list.__getattribute__") _ _) _ _ _);refine call_meets Ml (hT _) du (PySem.F.args_list_getattribute_2 _ _) (iz a its n "keys" _ mB (by decide +kernel)<|by decide +kernel) ⟨hx,hA,λh' tk' e hx'=>?_⟩)|wp_step))
 obtain⟨t',u',he⟩:=hx'.there;show wpAny _ _ (getattributeRaised _ _ _ _ _ _ _) _ _ _;unfold getattributeRaised
 repeat (any_goals (first|assumption|wp_step))
 exact h _ _ hx'.keeps
end
def Az(h:Heap)(T:Addr)(k v:Value):Prop:=∃o n,h.get? T=some o/\o.cls=.type "tuple"/\o.data=.seq #[k,v] n
theorem xn{prog:Program}{w:World}{A:Around}{R:Result->Shared->Prop}{l it d:Addr}{ps:List (Value×Value)}{Ts:List Addr}(hh:A.handled=none)(P:Nat->Heap->Prop)
  (stay:∀i h h',P i h->(∀b o,b≠it->h.get? b=some o->h'.get? b=some o)->P i h')
  (step:∀(i:Nat) (hi:i<ps.length) (s:Shared) (Q:Unit->Shared->Prop) (E:Value->Shared->Prop),P i s.heap->(∀h' tk,P (i+1) h'->K0 d s.heap h'->Q () { s with heap:=h',toks:=tk })->wpAny (model prog w) A.in1 (dictSet d ps[i].1 ps[i].2) Q E s)
  (hl:Ts.length=ps.length) (n1:l≠it) (n2:d≠it) (n3:l≠d) (nT:∀T∈Ts,T≠it/\T≠d):
  ∀(n i:Nat) (s:Shared),n=ps.length-i->i<=ps.length->s.heap.IsListIter it l i->s.heap.IsList l (Ts.map Kh).toArray->(∀(i:Nat) (h1:i<Ts.length) (h2:i<ps.length),Az s.heap Ts[i] ps[i].1 ps[i].2)->P i s.heap->
   (∀s':Shared,s'.os=s.os->s'.gens=s.gens->s'.drawn=s.drawn->P ps.length s'.heap->(∀c o,c≠it->c≠d->s.heap.get? c=some o->s'.heap.get? c=some o)->R (.ok<|.ret .none) s')->
   ∀tk:Nat,codeAny (model prog w) A (.builtin "dict.update.loop" ⟨[.ref d,.ref it,rawInt tk,.none],[]⟩) R s:=by
 intro n
 induction n with
 |zero=>
  intro i s hn hi hit hls _ hP hR tk;have hin:i=ps.length:=by lia
  refine codeAny_builtin c_ ?_;rw[LU bL _];show wpAny _ A.in1 (pyNext (.ref it) >>= _) _ _ s;refine wpAny_bind (wpAny_pyNext_list_end (A:=A.in1) hh hit hls (by simp;lia) λh' hk'=>?_)
  refine wpAny_bind (m:=Builtin.Dict.addKeywords d []) (wpAny_pure<|wpAny_pure (hR _ rfl rfl rfl ?_ λc o c1 c2 e=>hk' c o c1 e));rw[<- hin];exact stay i _ _ hP λb o hb e=>hk' b o hb e
 |succ n ih=>
  intro i s hn hi hit hls hpr hP hR tk;have hlt:i<ps.length:=by lia
  have hlT:i<Ts.length:=by lia
  refine codeAny_builtin c_ ?_;rw[LU bL _];show wpAny _ A.in1 (pyNext (.ref it) >>= _) _ _ s;refine wpAny_bind (wpAny_pyNext_list_item (x:=.ref Ts[i]) hit hls (by simp[hlT]) λh' hit' sb=>?_)
  obtain⟨nTi,nTd⟩:=nT Ts[i] (Mq hlT);have k1:∀b o,b≠it->s.heap.get? b=some o->h'.get? b=some o:=λb o hb e=>sb.extBut b o hb e;obtain⟨oT,m,e1,e2,e3⟩:=hpr i hlT hlt;have e1':=k1 _ _ nTi e1;have hTy:({ s with heap:=h' }:Shared).TypeIs (.ref Ts[i]) "tuple":=⟨_,e1',e2⟩;refine wpAny_bind (wpAny_holding<|wpAny_bind<|wpAny_tryCatch ?_);unfold Builtin.Dict.pairItems;refine wpAny_bind (wpAny_typeOf hTy ?_);rw[if_pos (by decide)]
  refine wpAny_bind (wpAny_seqItems (s:={ s with heap:=h' }) e1' e3<|wpAny_pure ?_);show wpAny _ _ (holding [ps[i].1,ps[i].2]<|dictSet d ps[i].1 ps[i].2) _ _ _;refine wpAny_holding (step i hlt { s with heap:=h' } _ _ (stay i _ _ hP k1) λh'' tk2 hP' hs''=>?_);have k2:∀b o,b≠it->b≠d->s.heap.get? b=some o->h''.get? b=some o:=λb o hb hd e=>hs''.extBut b o hd (k1 b o hb e);refine wpAny_pure ⟨plainId_quiet bL _,?_⟩;refine ih (i+1) { s with heap:=h'',toks:=tk2 } (by lia) hlt (hit'.at λo e=>hs''.extBut _ o n2.symm e) ?_ (λj h1 h2=>?_) hP' (λs' q1 q2 q3 q4 q5=>hR s' q1 q2 q3 q4 λc o c1 c2 e=>q5 c o c1 c2 (k2 c o c1 c2 e)) (tk+1)
  .obtain⟨o,z1,z2⟩:=hls
   exact⟨o,k2 _ _ n1 n3 z1,z2⟩
  .obtain⟨o,m,z1,z2⟩:=hpr j h1 h2
   obtain⟨q1,q2⟩:=nT Ts[j] (Mq h1);exact⟨o,m,k2 _ _ q1 q2 z1,z2⟩
theorem xc{prog:Program}{w:World}{A:Around}{E:Value->Shared->Prop}{s:Shared}{l:Addr}{m:Nat}{ps:List (Value×Value)}{Ts:List Addr}{Q:Value->Shared->Prop}(hh:A.handled=none)(P:Nat->Heap->Prop)
  (h0:∀h',(∀b o,s.heap.get? b=some o->h'.get? b=some o)->h'.get? s.heap.objs.size=some { cls:=.type "dict",data:=.dict #[] }->P 0 h')
  (stay:∀i h h',P i h->(∀b o,b<=s.heap.objs.size->h.get? b=some o->h'.get? b=some o)->P i h')
  (step:∀(i:Nat) (hi:i<ps.length) (s':Shared) (Q:Unit->Shared->Prop) (E:Value->Shared->Prop),P i s'.heap->(∀h' tk,P (i+1) h'->K0 s.heap.objs.size s'.heap h'->Q () { s' with heap:=h',toks:=tk })->wpAny (model prog w) A.in1.in1 (dictSet s.heap.objs.size ps[i].1 ps[i].2) Q E s')
  (hl:Ts.length=ps.length) (hls:Ct s.heap l (Ts.map Kh).toArray m) (hpr:∀(i:Nat) (h1:i<Ts.length) (h2:i<ps.length),Az s.heap Ts[i] ps[i].1 ps[i].2)
  (h:∀s':Shared,s'.os=s.os->s'.gens=s.gens->s'.drawn=s.drawn->P ps.length s'.heap->(∀c o,s.heap.get? c=some o->s'.heap.get? c=some o)->Q (.ref s.heap.objs.size) s'):
  wpAny (model prog w) A (call (.type "dict") [.ref l]) Q E s:=by
 refine callType_codes (Q₁:=λobj s₁=>obj=.ref s.heap.objs.size/\s₁={ s with heap:=s.heap.push { cls:=.type "dict",data:=.dict #[] } }) L2.F.called_dict (L2.F.typeCall_dict_1 _) PySem.F.entry_dict_init (lB _ ⟨rfl,rfl⟩) ?_
 rintro obj s₁ ⟨rfl,rfl⟩
 have up:∀c o,s.heap.get? c=some o->(s.heap.push { cls:=.type "dict",data:=.dict #[] }).get? c=some o:=λc o e=>JB _ e;have lt:∀{c o},s.heap.get? c=some o->c<s.heap.objs.size:=λe=>JJ e;have hnew:(s.heap.push { cls:=.type "dict",data:=.dict #[] }).get? s.heap.objs.size=some { cls:=.type "dict",data:=.dict #[] }:=JH _ rfl;have hTd:({ s with heap:=s.heap.push { cls:=.type "dict",data:=.dict #[] } }:Shared).TypeIs (.ref s.heap.objs.size) "dict":=⟨_,hnew,rfl⟩;refine⟨hTd,PySem.F.args_dict_init_2 _ _,?_⟩;unfold Builtin.«dict.__init__» Builtin.Dict.selfAndRest;refine wpAny_bind (wpAny_bind<|wpAny_notOrdered_dict hTd<|wpAny_pure ?_);show wpAny _ _ (NM "dict.__init__" s.heap.objs.size (.ref l) [] .none) _ _ _;unfold NM;refine wpAny_bind (wpAny_typeOf (T:="list") ⟨_,up _ _ hls,rfl⟩ ?_);rw[if_pos (by decide)]
 refine wpAny_bind (ke (s:={ s with heap:=s.heap.push { cls:=.type "dict",data:=.dict #[] } }) (up _ _ hls) hh λh₁ tk1 hk₁=>?_);rw[if_pos (show (none:Option Value).isNone=true from rfl)];have up1:∀c o,s.heap.get? c=some o->h₁.get? c=some o:=λc o e=>hk₁ c o (up c o e);have isl:h₁.IsList l (Ts.map Kh).toArray:=⟨_,up1 _ _ hls,rfl,m,rfl⟩;refine wpAny_bind (wpAny_rule<|wpAny_bind<|wpAny_pyIter_list (s:={ s with heap:=h₁,toks:=tk1 }) isl<|wpAny_pure ⟨plainId_quiet bL _,?_⟩);have hd1:=hk₁ _ _ hnew;have dlt:s.heap.objs.size<h₁.objs.size:=JJ hd1;have up2:∀c o,h₁.get? c=some o->(h₁.push { cls:=.type "list_iterator",data:=.fields #[.ref l,.int 0 0] }).get? c=some o:=λc o e=>JB _ e;have ltn:∀{c o},s.heap.get? c=some o->c≠h₁.objs.size/\c≠s.heap.objs.size:=λ{c o} e=>⟨JS (NN (lt e) dlt),JS<|lt e⟩;refine xn (A:=A.in1) (l:=l) (it:=h₁.objs.size) (d:=s.heap.objs.size) (ps:=ps) (Ts:=Ts) hh P (λi h h' hP hk=>stay i h h' hP λb o hb e=>hk b o (JS<|NH hb dlt) e) step hl (ltn hls).1 (JS dlt) (ltn hls).2 (λT hT=>?_) ps.length 0 { s with heap:=h₁.push { cls:=.type "list_iterator",data:=.fields #[.ref l,.int 0 0] },toks:=tk1 } (by simp) (KR _) ⟨_,JH _ rfl,rfl,rfl⟩ ?_ (λi h1 h2=>?_) (h0 _ (λb o e=>up2 b o (up1 b o e))<|up2 _ _ hd1) (λs' q1 q2 q3 q4 q5=>?_) 0
 .obtain⟨i,hi,rfl⟩:=O6.mp hT
  obtain⟨o,n,e,_⟩:=hpr i hi (by lia)
  exact ltn e
 .obtain⟨o,z1,z2⟩:=isl
  exact⟨o,up2 _ _ z1,z2⟩
 .obtain⟨o,n,e,r⟩:=hpr i h1 h2
  exact⟨o,n,up2 _ _ (up1 _ _ e),r⟩
 .exact⟨rfl,h s' q1 q2 q3 q4 λc o e=>q5 c o (ltn e).1 (ltn e).2 (up2 _ _<|up1 _ _ e)⟩
end LS
namespace L2
open PySem PySem.Spec PyProof.Rows LS
inductive PrT(H:Hp):List V->List (List bw×V)->Prop
 |nil:PrT H [] []
 |cons {T b:Addr} {k:List bw} {x:V} {vs:List V} {kvs:List (List bw×V)} (hT:H T=some (.tup [.ref b,x])) (hb:H b=some (.tup<|k.map kV)) (r:PrT H vs kvs):PrT H (.ref T::vs) ((k,x)::kvs)
section
variable {X:Cx}{pins:List (Addr×Obj)}{U:St}{H:Hp}{s:Shared}
theorem Inv.pair{T:Addr}{y x:V}(I:Inv X pins U H s)(h:H T=some (.tup [y,x])):∃k v,RelV y k/\RelV x v/\Az s.heap T k v:=by
 obtain⟨_,its,r,o,e,⟨c,n,d⟩,_⟩:=(show ObjOk X.prog X.w H s.heap T (.tup [y,x]) from I.hok T _ h);obtain⟨k,v,rfl,r1,r2⟩:=r.two;exact⟨k,v,r1,r2,o,n,e,c,d⟩
theorem Inv.prT(I:Inv X pins U H s):∀{vs:List V} {kvs:List (List bw×V)},PrT H vs kvs->∃(Ts:List Addr) (rs:List (List bw×Addr×Value)),vs=Ts.map V.ref/\KT H kvs rs/\Ts.length=rs.length/\∀(i:Nat) (h1:i<Ts.length) (h2:i<rs.length),Az s.heap Ts[i] (.ref rs[i].2.1) rs[i].2.2
 |_,_,.nil=>⟨[],[],rfl,.nil,rfl,λi h=>absurd h (Oe _)⟩
 |_,_,.cons (T:=T) (b:=b) (k:=k) hT hb r=>by
  obtain⟨Ts,rs,rfl,q,hl,hp⟩:=I.prT r;obtain⟨kk,v,r1,r2,p⟩:=I.pair hT;cases r1;refine⟨T::Ts,(k,b,v)::rs,rfl,.cons ⟨rfl,hb,r2⟩ q,by simp[hl],λi h1 h2=>?_⟩
  cases i with
  |zero=>exact p
  |succ i=>exact hp i (by simpa using h1) (by simpa using h2)
theorem oE{xs:List (List bw×Addr×Value)}{k:List bw}{b:Addr}{u:Value}:(storedH xs k b u).length<=xs.length+1:=by
 unfold storedH
 split
 .rw[JK];lia
 .simp
theorem ie:∀(rs xs:List (List bw×Addr×Value)),(rs.foldl (λa r=>storedH a r.1 r.2.1 r.2.2) xs).length<=xs.length+rs.length
 |[],xs=>by simp
 |r::rs,xs=>by
  have:=ie rs (storedH xs r.1 r.2.1 r.2.2);have:=oE (xs:=xs) (k:=r.1) (b:=r.2.1) (u:=r.2.2);rw[Lf,JC];lia
theorem wz:∀{kvs:List (List bw×V)} {rs:List (List bw×Addr×Value)},KT H kvs rs->∀{a:List (List bw×V)} {xs:List (List bw×Addr×Value)},KT H a xs->KT H (kvs.foldl (λa p=>dy a p.1 p.2) a) (rs.foldl (λa r=>storedH a r.1 r.2.1 r.2.2) xs)
 |_,_,.nil,a,xs,h=>h
 |_,_,.cons (a:=p) (b:=q) h t,a,xs,h0=>by
  rw[Lf,Lf];refine wz t ?_;rw[<- h.1];exact h0.put p.1 h.2.1 h.2.2
theorem Inv.ls{l:Addr}{vs:List V}(I:Inv X pins U H s)(e:Rd H l (.lst vs)):∃its n,Vals vs its/\Ct s.heap l its.toArray n:=by
 obtain⟨_,its,n,r,q⟩:=(show ObjOk X.prog X.w H s.heap l (.lst vs) from e.ok I.hok);exact⟨its,n,r,q⟩
theorem lD:∀{Ts:List Addr} {its:List Value},Vals (Ts.map V.ref) its->its=Ts.map Kh
 |[],_,h=>by cases h;rfl
 |T::Ts,_,h=>by
  cases h with
  |cons r t=>
   have r':_=Kh T:=r;rw[r',lD t];rfl
theorem rA(hc:X.calm=true)(hu:X.A.units+2<cLine):bz X (.type "dict") (λxs H Q=>∃l vs kvs,xs=[.ref l]/\Rd H l (.lst vs)/\PrT H vs kvs/\kvs.length<=1000000/\∀p,H p=none->Q (.ref p) (upd H p<|.dT<|kvs.foldl (λa p=>dy a p.1 p.2) [])):=by
 intro pins s U H xs us Q I r h;obtain⟨l,vs,kvs,rfl,hl,pr,hz,q⟩:=h;obtain⟨u,rfl,ru⟩:=r.one;cases ru;obtain⟨Ts,rs,rfl,kt,hlen,hpr⟩:=I.prT pr;obtain⟨its,n,rv,hls⟩:=I.ls hl;have:=lD rv;subst this;have hrl:rs.length<=1000000:=by rw[<- LF kt];exact hz
 have hkeys:∀x∈rs,(tupleKind<|a_ X.prog X.w).is s.heap x.1 x.2.1:=by
  have all:∀{a:List (List bw×V)} {m:List (List bw×Addr×Value)},KT H a m->∀x∈m,(tupleKind<|a_ X.prog X.w).is s.heap x.1 x.2.1:=by
   intro a m q
   induction q with
   |nil=>intro x hx;exact nomatch hx
   |@cons p q ps qs hq t ih=>
    intro x hx;rcases JM.mp hx with e|hx
    .subst e;exact gU I.hok (by rw[<- hq.1];exact hq.2.1)
    .exact ih x hx
  exact all kt
 have is_keep:∀{h h':Heap} {k:List bw} {a:Addr},(tupleKind<|a_ X.prog X.w).is h k a->(∀o,h.get? a=some o->h'.get? a=some o)->(tupleKind<|a_ X.prog X.w).is h' k a:=λ{h h' k a} z hk=>by
  obtain⟨o,its,n,e,r⟩:=z;exact⟨o,its,n,hk o e,r⟩
 have klt:∀x∈rs,x.2.1<s.heap.objs.size:=λx hx=>by
  obtain⟨o,_,_,e,_⟩:=hkeys x hx;exact JJ e
 refine xc (ps:=rs.map λr=>(Kh r.2.1,r.2.2)) (Ts:=Ts) (I.ok.hd hc) (λi h=>h.DictOfH (tupleKind<|a_ X.prog X.w) s.heap.objs.size ((rs.take i).foldl (λa r=>storedH a r.1 r.2.1 r.2.2) [])/\∀x∈rs,(tupleKind<|a_ X.prog X.w).is h x.1 x.2.1) ?_ ?_ ?_ (by simp[hlen]) hls (λi h1 h2=>?_) ?_
 .intro h' hk hd
  exact⟨⟨_,#[],0,hd,⟨rfl,rfl,rfl⟩,rfl,rfl,λ_ hx=>by simp at hx,Nr⟩,λx hx=>is_keep (hkeys x hx) λo e=>hk _ o e⟩
 .rintro i h h' ⟨⟨o,es,ep,e1,e2,e3,e4,e5,e6⟩,hk⟩ hk'
  have hk2:∀x∈rs,(tupleKind<|a_ X.prog X.w).is h' x.1 x.2.1:=λx hx=>is_keep (hk x hx) λo e=>hk' _ o (LG<|klt x hx) e;refine⟨⟨o,es,ep,hk' _ o (JE _) e1,e2,e3,e4,λx hx=>is_keep (e5 x hx) λo e=>hk' _ o ?_ e,e6⟩,hk2⟩;have sub:∀(ys zs:List (List bw×Addr×Value)) (x:List bw×Addr×Value),x∈ys.foldl (λa r=>storedH a r.1 r.2.1 r.2.2) zs->(∃y∈ys,y.2.1=x.2.1)\/∃y∈zs,y.2.1=x.2.1:=by
   intro ys
   induction ys with
   |nil=>intro zs x hx;exact .inr ⟨x,hx,rfl⟩
   |cons y ys ih=>
    intro zs x hx;rcases ih _ x hx with⟨z,hz,e⟩|⟨z,hz,e⟩
    .exact .inl ⟨z,JZ _ hz,e⟩
    .replace hz:z∈storedH zs y.1 y.2.1 y.2.2:=hz
     unfold storedH at hz
     split at hz
     .obtain⟨z',hz',rfl⟩:=La.mp hz
      refine .inr ⟨z',hz',?_⟩;rw[<- e];unfold putAt;split<;>rfl
     .rcases JW.mp hz with hz|hz
      .exact .inr ⟨z,hz,e⟩
      .rw[Ks]at hz;subst hz;exact .inl ⟨y,by simp,e⟩
  rcases sub _ _ x hx with⟨y,hy,e⟩|⟨y,hy,_⟩
  .rw[<- e];exact LG (klt y<|List.mem_of_mem_take hy)
  .cases hy
 .rintro i hi s' Q' E' ⟨hd,hk⟩ hQ
  have hi':i<rs.length:=by simpa using hi
  simp only[NU];have hlen':((rs.take i).foldl (λa r=>storedH a r.1 r.2.1 r.2.2) ([]:List (List bw×Addr×Value))).length<=sizeLine:=by
   have:=ie (rs.take i) [];have h2:(1000000:Nat)<=sizeLine:=by decide
   simp only[JT,MP]at this;lia
  refine wpAny_dictSet_heap (knd:=tupleKind (a_ X.prog X.w)) (show X.A.units+1+1<cLine from hu) (hk rs[i] (Mq hi')) hd (λh' hd' sb=>hQ h' _ ⟨?_,λx hx=>?_⟩ sb) hlen'
  .rw[List.take_succ_eq_append_getElem hi',List.foldl_append]
   exact hd'
  .exact is_keep (hk x hx) λo e=>sb.extBut _ o (JS<|klt x hx) e
 .have h2':i<rs.length:=by simpa using h2
  simp only[NU];exact hpr i h1 h2'
 .rintro s' o1 o2 o3 ⟨hd,_⟩ hk
  simp only[JK,List.take_length]at hd;have hbig:=I.big;have hn:H s.heap.objs.size=none:=I.hok.fresh (JE _);obtain⟨hh',g',d',t',os'⟩:=s';obtain rfl:os'=s.os:=o1;obtain rfl:g'=s.gens:=o2;obtain rfl:d'=s.drawn:=o3;have ktf:=wz kt (H:=H) (a:=[]) (xs:=[]) .nil;obtain⟨o,es,ep,e1,e2,e3,e4,e5,e6⟩:=hd;refine⟨.ref s.heap.objs.size,_,I.laid (a:=s.heap.objs.size) (o:=.dT (kvs.foldl (λa p=>dy a p.1 p.2) [])) (t':=t') hk (JE _) ⟨?_,beq_eq_false_iff_ne.mpr (LY hbig),_,ktf.keeps λb ys e=>by rw[az (aT e hn)];exact e,o,es,ep,e1,e2,e3,e4,e6⟩,rfl,q _ hn⟩
  rw[LF ktf];have:=ie rs [];have h2:(1000000:Nat)<=sizeLine:=by decide
  simp only[JT]at this;lia
end
end L2
namespace L3
open PySem L2 LS
section
variable {X:Cx}{B:Bd}{K:JF}{H:Hp}
def w_:List D->Option (List (List bw×D))
 |[]=>some []
 |.tup [k,v]::ds=>match At k,w_ ds with
  |some ks,some r=>some ((ks,v)::r)
  |_,_=>none
 |_=>none
theorem yx:∀{ds:List D} {vs:List V} {kvs:List (List bw×D)},Rps K H ds vs->w_ ds=some kvs->∃ws,PrT H vs ws/\Rkv K H kvs ws
 |[],vs,kvs,r,e=>by cases e;cases r;exact⟨[],.nil,.nil⟩
 |d::ds,vs,kvs,r,e=>by
  obtain⟨v,r',rfl,a,b⟩:=r;unfold w_ at e
  split at e
  .rename_i h;cases h
  .rename_i k x ds' h
   cases h
   split at e
   .rename_i ks q e1 e2
    cases e;obtain⟨ws,h1,h2⟩:=yx b e2;obtain⟨T,us,rfl,hT,ru⟩:=a;obtain⟨u1,us',rfl,ru1,ru2⟩:=ru;obtain⟨u2,us'',rfl,ru2,ru3⟩:=ru2;cases ru3;obtain⟨bb,rfl,hb⟩:=kE ru1 e1;exact⟨(ks,u2)::ws,.cons hT hb h1,.cons ⟨rfl,ru2⟩ h2⟩
   .cases e
  .cases e
theorem oH{κ:Type}[DecidableEq κ]:∀{a:List (κ×D)} {b:List (κ×V)},Rkv K H a b->∀{a0:List (κ×D)} {b0:List (κ×V)},Rkv K H a0 b0->Rkv K H (a.foldl (λx p=>lm x p.1 p.2) a0) (b.foldl (λx p=>dy x p.1 p.2) b0)
 |_,_,.nil,a0,b0,h=>h
 |_,_,.cons (a:=p) (b:=q) h t,a0,b0,h0=>by
  rw[Lf,Lf];refine oH t ?_;rw[<- h.1];exact h0.put p.1 h.2
theorem C_{M:Mem}{d:D}{v:V}{xs:List D}(rh:RepH K H M)(r:Rp K H d v)(e:cz M d=some xs)(hm:∀ys,d≠.ml ys):∃l vs,v=.ref l/\Rd H l (.lst vs)/\Rps K H xs vs:=by
 cases d with
 |lst ys=>
  cases e;obtain⟨p,vs,rfl,⟨o,h⟩,r⟩:=r;exact⟨p,vs,rfl,.inr ⟨o,h⟩,r⟩
 |ml ys=>exact absurd rfl (hm ys)
 |ref a=>
  simp only[cz]at e
  split at e
  .rename_i ys q
   cases e;cases r;obtain⟨vs,h1,h2⟩:=rh _ _ q;exact⟨a,vs,rfl,.inl h1,h2⟩
  .cases e
 |_=>cases e
def GK:D->Bool
 |.ml _=>false
 |_=>true
theorem BQ{d:D}(h:GK d=true):∀ys,d≠.ml ys:=λys e=>by subst e;cases h
def mE:nW:=λds M Q=>match ds with
 |[d]=>GK d=true/\match cz M d with
  |some xs=>match w_ xs with
   |some kvs=>kvs.length<=1000000/\∀p,M p=none->Q (.ref p) (M.upd p<|.dT<|kvs.foldl (λa p=>lm a p.1 p.2) [])
   |none=>False
  |none=>False
 |_=>False
theorem oW(hc:X.calm=true)(hu:X.A.units+64<cLine):bz X (.type "dict") (liftC X mE):=by
 intro pins s U H xs us Q I r h;obtain⟨ds,M,QQ,rh,rp,h,up⟩:=h;unfold mE at h
 split at h
 .obtain⟨v,rfl,rv⟩:=eF (ds:=[]) rp
  obtain⟨hm,h⟩:=h
  split at h
  .rename_i ys e
   split at h
   .rename_i kvs e2
    obtain⟨l,vs,rfl,hq,rr⟩:=C_ rh rv e (BQ hm);obtain⟨ws,h1,h2⟩:=yx rr e2;refine rA hc (by lia) pins s U H _ us Q I r ⟨l,vs,ws,rfl,hq,h1,by rw[<- h2.length];exact h.1,λp hp=>?_⟩
    exact up _ _ (h.2 p<|rh.fresh hp) _ _ (rh.put (by rw[hp];trivial) ⟨_,upd_same,(oH h2 .nil).mono<|Imm.new hp⟩) (Frm.put<|.inl hp) rfl
   .exact h.elim
  .exact h.elim
 .exact h.elim
end
end L3
namespace LS
open PySem PySem.W PySem.Calls PyProof.Rows PyProof.V PySem.Spec L2
theorem BM{prog:Program}{w:World}{A:Around}{E:Value->Shared->Prop}{s:Shared}{d:Addr}{o:Obj}{es:Array DictEntry}{ep:Nat}{Q:Value->Shared->Prop}(hd:(d==sysModules)=false)(ho:s.heap.get? d=some o)(hc:o.ExactDict)(hdat:o.data=.dict es ep)(hfit:(es.size:Int)<2 ^ 63)
  (h:Q (.int es.size (s.toks+1)) { s with toks:=s.toks+1+1 }):wpAny (model prog w) A (call (.builtin "len") [.ref d]) Q E s:=by
 have hT:s.TypeIs (.ref d) "dict":=⟨o,ho,hc.1⟩;refine Oj kind_len plain_len entry_len (args_len1 _) ?_;unfold Builtin.«len»;refine wpAny_bind (m:=oneArg "len" _) (wpAny_pure<|wpAny_bind (m:=callSpecial? (.ref d) (JL "__len__"))<|wpAny_callSpecial?_slot (name:=JL "__len__") hT Ow<|wpAny_call_entry Ow hT PySem.F.entry_dict_len ?_<|PySem.F.args_dict_len_1 _);show wpAny _ _ (dictSize d >>= _) _ _ s;unfold dictSize;refine wpAny_bind (wpAny_bind<|wpAny_dictEntries ho hdat<|wpAny_pure ?_);show wpAny _ _ (Builtin.Dict.pendingCount d >>= _) _ _ s;refine wpAny_bind (wpAny_pendingCount_other hd<|wpAny_ret_mkInt ?_);rw[Int.natCast_zero,Int.add_zero];show wpAny _ _ _ _ _ { s with toks:=s.toks+1 };refine wpAny_bind (wpAny_holding<|wpAny_pure ?_);refine wpAny_bind (wpAny_letGo ?_);show wpAny _ _ (if ((es.size:Nat):Int)<0 then _ else _) _ _ _
 rw[if_neg (by lia)]
 show wpAny _ _ (if ((es.size:Nat):Int)>=2 ^ 63 then _ else _) _ _ _
 rw[if_neg (by lia)]
 exact wpAny_bind (wpAny_mkInt<|wpAny_pure ⟨_,rfl,h⟩)
end LS
namespace L3
open PySem L2 LS
section
variable {X:Cx}{B:Bd}
def s_:nW:=λds M Q=>match ds with
 |[.ref a]=>match M a with
  |some (.dT kvs)=>Q (.int kvs.length) M
  |_=>False
 |_=>False
theorem sv:bz X (.builtin "len") (liftC X s_):=by
 intro pins s U H xs us Q I r h;obtain⟨ds,M,QQ,rh,rp,h,up⟩:=h;unfold s_ at h
 split at h
 .rename_i a
  obtain⟨v,rfl,rv⟩:=eF (ds:=[]) rp;cases rv
  split at h
  .rename_i kvs e
   obtain⟨u,rfl,ru⟩:=r.one;cases ru;obtain⟨ws,h1,h2⟩:=rh _ _ e;obtain⟨z,y,xs,rr,o,es,ep,g1,g2,g3,g4,g5⟩:=(show ObjOk X.prog X.w H s.heap a (.dT ws) from I.hok a _ h1);have hs:es.size=kvs.length:=by rw[<- Kk,g4,JK,<- LF rr,<- h2.length]
   refine BM y g1 g2 g3 ?_ ?_
   .rw[hs,h2.length];rw[sizeLine_eq]at z;lia
   .rw[hs]
    exact⟨.int kvs.length,H,I.tok _,⟨_,rfl⟩,up _ M h _ H rh Frm.refl rfl⟩
  .exact h.elim
 .exact h.elim
end
end L3
namespace L3
open PySem PySem.W PySem.Calls PyProof.Rows PyProof.V PySem.Spec L2
section
variable {X:Cx}{B:Bd}{pins:List (Addr×Obj)}{U:L2.St}{H:Hp}{s:Shared}{M:Mem}
end
end L3
namespace L3
open PySem L2 LS
section
variable {X:Cx}{B:Bd}
end
end L3
namespace L2
open PySem PySem.Spec PyProof.Rows
section
variable {X:Cx}{e:Expr}{te:TE}{st:Expr}{ts:TO}{p2 pos:Pos}
end
end L2
namespace L3
open PySem L2
section
variable {X:Cx}{B:Bd}{K:JF}{H:Hp}{M:Mem}{e:Expr}{te:bg}{st:Expr}{ts:DU}{pos p2:Pos}
end
end L3
namespace L2
open PySem PySem.Spec PyProof.Rows
abbrev aY(h:Heap)(T:Addr)(a b c:Value):Prop:=h.get? T=some { cls:=.type "tuple",data:=.seq #[a,b,c] }
structure ZA3(z TI TO i1 i2 i3:Addr):Prop where
 TIz:TI≠z
 TOz:TO≠z
 i1z:i1≠z
 i2z:i2≠z
 i3z:i3≠z
 TITO:TI≠TO
 TIi1:TI≠i1
 TIi2:TI≠i2
 TIi3:TI≠i3
 TOi1:TO≠i1
 TOi2:TO≠i2
 TOi3:TO≠i3
 i12:i1≠i2
 i13:i1≠i3
 i23:i2≠i3
structure Of3(z TO i1 i2 i3 l:Addr):Prop where
 z:l≠z
 TO:l≠TO
 i1:l≠i1
 i2:l≠i2
 i3:l≠i3
section
variable {prog:Program}{w:World}{A:Around}{E:Value->Shared->Prop}{s:Shared}
theorem bO{T:Addr}{a b c x:Value}{k:Nat}{Q:Unit->Shared->Prop}(hT:aY s.heap T a b c)
  (h:∀h',h'.get? T=some { cls:=.type "tuple",data:=.seq ((#[a,b,c]:Array Value).setIfInBounds k x) }->K0 T s.heap h'->Q () { s with heap:=h' }):
  wpAny (model prog w) A (updateSeq T (·.setIfInBounds k x)) Q E s:=by
 refine wpAny_updateSeq hT rfl (h _ ?_<|KQ ..);rw[LO _ hT rfl];simp[KG]
theorem wM{b1 b2 b3:Bool}{z TI TO i1 i2 i3 l1 l2 l3:Addr}{n1 n2 n3:Nat}{xs ys us:Array Value}{x y u a b c:Value}{Q:Value->Shared->Prop}(D:ZA3 z TI TO i1 i2 i3)(O1:Of3 z TO i1 i2 i3 l1)(O2:Of3 z TO i1 i2 i3 l2)(O3:Of3 z TO i1 i2 i3 l3)
  (hz:IsZip s.heap z TI TO .none) (hTI:aY s.heap TI (.ref i1) (.ref i2) (.ref i3)) (hTO:aY s.heap TO a b c)
  (h1:SrcTn b1 i1 l1 n1 s.heap) (h2:SrcTn b2 i2 l2 n2 s.heap) (h3:SrcTn b3 i3 l3 n3 s.heap) (hl1:SrcSq b1 s.heap l1 xs) (hl2:SrcSq b2 s.heap l2 ys) (hl3:SrcSq b3 s.heap l3 us) (hx:xs[n1]?=some x) (hy:ys[n2]?=some y) (hu:us[n3]?=some u)
  (hQ:∀h',IsZip h' z TI TO (rawInt s.heap.objs.size)->aY h' TO x y u->SrcTn b1 i1 l1 (n1+1) h'->SrcTn b2 i2 l2 (n2+1) h'->SrcTn b3 i3 l3 (n3+1) h'->aY h' s.heap.objs.size x y u->h'.objs.size=s.heap.objs.size+1->
   (∀c o,c≠z->c≠TO->c≠i1->c≠i2->c≠i3->s.heap.get? c=some o->h'.get? c=some o)->Q (.ref s.heap.objs.size) { s with heap:=h' }):
  wpAny (model prog w) A (Builtin.«zip.__next__» ⟨[.ref z],[]⟩) (λfin s'=>∃v,fin=.done (.ret v)/\Q v s') E s:=by
 show wpAny _ _ (field (.ref z) 2 >>= _) _ _ _;refine wpAny_bind (wpAny_field hz rfl (x:=.bool false) rfl ?_);show wpAny _ _ (field (.ref z) 3 >>= _) _ _ _;refine wpAny_bind (wpAny_field hz rfl (x:=.ref TI) rfl ?_);refine wpAny_bind (wpAny_seqItems hTI rfl ?_);show wpAny _ _ (Kd (.ref z) >>= _) _ _ _;refine wpAny_bind ?_;unfold Kd;refine wpAny_bind (wpAny_field hz rfl (x:=.none) rfl<|wpAny_pure ?_);simp only[if_true];refine wpAny_bind (wpAny_rule ?_);refine wpAny_bind (wpAny_field hz rfl (x:=.ref TO) rfl ?_);refine wpAny_bind (wpAny_setField_rec hz (by simp) λh₁ hz1 hs1=>?_)
 replace hz1:IsZip h₁ z TI TO .ellipsis:=hz1
 refine wpAny_bind ?_;simp only[Mp,Nb,Mb,MA];refine wpAny_bind (wpAny_bind<|wpAny_onRaise ?_);show wpAny _ _ (JV (.ref i1) >>= _) _ _ _;refine wpAny_bind (aR (h1.keep λo e=>hs1.extBut _ o D.i1z e) (hl1.keep λo e=>hs1.extBut _ o O1.z e) hx λh₂ h12 hs₂=>wpAny_pure ?_);have k₂:∀c o,c≠z->c≠i1->s.heap.get? c=some o->h₂.get? c=some o:=λc o c1 c2 e=>hs₂.extBut _ _ c2 (hs1.extBut _ _ c1 e);have hTO2:aY h₂ TO a b c:=k₂ _ _ D.TOz D.TOi1 hTO;refine wpAny_bind (wpAny_seqItems hTO2 rfl ?_);refine wpAny_bind (bO hTO2 λh₃ hTO3 hs₃=>?_)
 replace hTO3:aY h₃ TO x b c:=hTO3
 refine wpAny_bind (wpAny_letGo<|wpAny_pure ?_);have k₃:∀c o,c≠z->c≠i1->c≠TO->s.heap.get? c=some o->h₃.get? c=some o:=λc o c1 c2 c3 e=>hs₃.extBut _ _ c3 (k₂ c o c1 c2 e);refine wpAny_bind (wpAny_bind<|wpAny_onRaise ?_);show wpAny _ _ (JV (.ref i2) >>= _) _ _ _;refine wpAny_bind (aR (h2.keep λo e=>k₃ _ o D.i2z D.i12.symm D.TOi2.symm e) (hl2.keep λo e=>k₃ _ o O2.z O2.i1 O2.TO e) hy λh₄ h24 hs4=>wpAny_pure ?_);have hTO4:aY h₄ TO x b c:=hs4.extBut _ _ D.TOi2 hTO3;refine wpAny_bind (wpAny_seqItems hTO4 rfl ?_);refine wpAny_bind (bO hTO4 λh₅ hTO5 hs5=>?_)
 replace hTO5:aY h₅ TO x y c:=hTO5
 refine wpAny_bind (wpAny_letGo<|wpAny_pure ?_);have k₅:∀c o,c≠z->c≠i1->c≠TO->c≠i2->s.heap.get? c=some o->h₅.get? c=some o:=λc o c1 c2 c3 c4 e=>hs5.extBut _ _ c3 (hs4.extBut _ _ c4<|k₃ c o c1 c2 c3 e);refine wpAny_bind (wpAny_bind<|wpAny_onRaise ?_);show wpAny _ _ (JV (.ref i3) >>= _) _ _ _;refine wpAny_bind (aR (h3.keep λo e=>k₅ _ o D.i3z D.i13.symm D.TOi3.symm D.i23.symm e) (hl3.keep λo e=>k₅ _ o O3.z O3.i1 O3.TO O3.i2 e) hu λh₆ h36 hs6=>wpAny_pure ?_);have hTO6:aY h₆ TO x y c:=hs6.extBut _ _ D.TOi3 hTO5;refine wpAny_bind (wpAny_seqItems hTO6 rfl ?_);refine wpAny_bind (bO hTO6 λh₇ hTO7 hs7=>?_)
 replace hTO7:aY h₇ TO x y u:=hTO7
 refine wpAny_bind (wpAny_letGo<|wpAny_pure<|wpAny_pure ?_);refine wpAny_bind (wpAny_seqItems hTO7 rfl ?_);refine wpAny_bind (wpAny_newTuple ?_);have hsz:h₇.objs.size=s.heap.objs.size:=by rw[hs7.1,hs6.1,hs5.1,hs4.1,hs₃.1,hs₂.1,hs1.1]
 have hz7:IsZip h₇ z TI TO .ellipsis:=hs7.extBut _ _ D.TOz.symm (hs6.extBut _ _ D.i3z.symm<|hs5.extBut _ _ D.TOz.symm<|hs4.extBut _ _ D.i2z.symm<|hs₃.extBut _ _ D.TOz.symm<|hs₂.extBut _ _ D.i1z.symm hz1);have k₇:∀c o,c≠z->c≠TO->c≠i1->c≠i2->c≠i3->s.heap.get? c=some o->h₇.get? c=some o:=λc o c1 c2 c3 c4 c5 e=>hs7.extBut _ _ c2 (hs6.extBut _ _ c5<|k₅ c o c1 c3 c2 c4 e);have h17:SrcTn b1 i1 l1 (n1+1) h₇:=h12.keep λo e=>hs7.extBut _ o D.TOi1.symm (hs6.extBut _ o D.i13<|hs5.extBut _ o D.TOi1.symm<|hs4.extBut _ o D.i12<|hs₃.extBut _ o D.TOi1.symm e);have h27:SrcTn b2 i2 l2 (n2+1) h₇:=h24.keep λo e=>hs7.extBut _ o D.TOi2.symm (hs6.extBut _ o D.i23<|hs5.extBut _ o D.TOi2.symm e);have h37:SrcTn b3 i3 l3 (n3+1) h₇:=h36.keep λo e=>hs7.extBut _ o D.TOi3.symm e;have hzlt:z<h₇.objs.size:=JJ hz7;show wpAny _ _ (KW (.ref z) (.ref h₇.objs.size) >>= _) _ _ _;refine wpAny_bind ?_;unfold KW;have hz₈:IsZip (h₇.push { cls:=.type "tuple",data:=.seq #[x,y,u] }) z TI TO .ellipsis:=JB _ hz7;refine wpAny_bind (wpAny_setField_rec hz₈ (by simp) λh₉ hz9 hs9=>?_)
 replace hz9:IsZip h₉ z TI TO (rawInt h₇.objs.size):=hz9
 refine wpAny_setField_rec hz9 (by simp) λhA hzA hsA=>?_
 replace hzA:IsZip hA z TI TO (rawInt h₇.objs.size):=hzA
 have up:∀c o,c≠z->h₇.get? c=some o->hA.get? c=some o:=λc o c1 e=>hsA.extBut _ _ c1 (hs9.extBut _ _ c1<|JB _ e);have hTA:aY hA h₇.objs.size x y u:=hsA.extBut _ _ (LY hzlt) (hs9.extBut _ _ (LY hzlt)<|JH _ rfl);have hzs:hA.objs.size=h₇.objs.size+1:=by rw[hsA.1,hs9.1,Ke]
 rw[hsz]at hzA hTA hzs;refine wpAny_pure ⟨_,rfl,?_⟩;show Q (.ref h₇.objs.size) _;rw[hsz];exact hQ hA hzA (up _ _ D.TOz hTO7) (h17.keep λo e=>up _ o D.i1z e) (h27.keep λo e=>up _ o D.i2z e) (h37.keep λo e=>up _ o D.i3z e) hTA hzs λc o c1 c2 c3 c4 c5 e=>up c o c1 (k₇ c o c1 c2 c3 c4 c5 e)
theorem A6{b1 b2 b3:Bool}{z TI TO i1 i2 i3 l1 l2 l3:Addr}{n1 n2 n3:Nat}{xs ys us:Array Value}{a b c:Value}{Q:Fin->Shared->Prop}(hh:A.handled=none)(D:ZA3 z TI TO i1 i2 i3)(O1:Of3 z TO i1 i2 i3 l1)(O2:Of3 z TO i1 i2 i3 l2)(O3:Of3 z TO i1 i2 i3 l3)
  (hz:IsZip s.heap z TI TO .none) (hTI:aY s.heap TI (.ref i1) (.ref i2) (.ref i3)) (hTO:aY s.heap TO a b c)
  (h1:SrcTn b1 i1 l1 n1 s.heap) (h2:SrcTn b2 i2 l2 n2 s.heap) (h3:SrcTn b3 i3 l3 n3 s.heap) (hl1:SrcSq b1 s.heap l1 xs) (hl2:SrcSq b2 s.heap l2 ys) (hl3:SrcSq b3 s.heap l3 us) (hend:xs[n1]?=none\/ys[n2]?=none\/us[n3]?=none)
  (hE:∀h' e,(∀c o,c≠z->c≠TO->c≠i1->c≠i2->c≠i3->s.heap.get? c=some o->h'.get? c=some o)->(∃o,h'.get? e=some o/\o.cls=.type "StopIteration")->E (.ref e) { s with heap:=h' }):
  wpAny (model prog w) A (Builtin.«zip.__next__» ⟨[.ref z],[]⟩) Q E s:=by
 show wpAny _ _ (field (.ref z) 2 >>= _) _ _ _;refine wpAny_bind (wpAny_field hz rfl (x:=.bool false) rfl ?_);show wpAny _ _ (field (.ref z) 3 >>= _) _ _ _;refine wpAny_bind (wpAny_field hz rfl (x:=.ref TI) rfl ?_);refine wpAny_bind (wpAny_seqItems hTI rfl ?_);show wpAny _ _ (Kd (.ref z) >>= _) _ _ _;refine wpAny_bind ?_;unfold Kd;refine wpAny_bind (wpAny_field hz rfl (x:=.none) rfl<|wpAny_pure ?_);simp only[if_true];refine wpAny_bind (wpAny_rule ?_);refine wpAny_bind (wpAny_field hz rfl (x:=.ref TO) rfl ?_);refine wpAny_bind (wpAny_setField_rec hz (by simp) λh₁ hz1 hs1=>?_)
 replace hz1:IsZip h₁ z TI TO .ellipsis:=hz1
 refine wpAny_bind ?_;simp only[Mp,Nb,Mb,MA];refine wpAny_bind (wpAny_bind<|wpAny_onRaise ?_);show wpAny _ _ (JV (.ref i1) >>= _) _ _ _;cases hx:xs[n1]? with
 |none=>
  refine wpAny_bind (bn hh (h1.keep λo e=>hs1.extBut _ o D.i1z e) (hl1.keep λo e=>hs1.extBut _ o O1.z e) hx λh₂ e hs₂ he=>?_);obtain⟨oe,hoe,hce⟩:=he;have hz2:IsZip h₂ z TI TO .ellipsis:=hs₂ _ _ D.i1z.symm hz1;have hez:e≠z:=λx=>by subst x;rw[hz2]at hoe;cases hoe;simp at hce
  refine wpAny_setField_rec hz2 (by simp) λh₃ _ hs₃=>hE h₃ e (λc o c1 _ c3 _ _ x=>hs₃.extBut _ _ c1 (hs₂ _ _ c3<|hs1.extBut _ _ c1 x)) ⟨oe,hs₃.extBut _ _ hez hoe,hce⟩
 |some x=>
  refine wpAny_bind (aR (h1.keep λo e=>hs1.extBut _ o D.i1z e) (hl1.keep λo e=>hs1.extBut _ o O1.z e) hx λh₂ h12 hs₂=>wpAny_pure ?_);have k₂:∀c o,c≠z->c≠i1->s.heap.get? c=some o->h₂.get? c=some o:=λc o c1 c2 e=>hs₂.extBut _ _ c2 (hs1.extBut _ _ c1 e);have hTO2:aY h₂ TO a b c:=k₂ _ _ D.TOz D.TOi1 hTO;refine wpAny_bind (wpAny_seqItems hTO2 rfl ?_);refine wpAny_bind (bO hTO2 λh₃ hTO3 hs₃=>?_)
  replace hTO3:aY h₃ TO x b c:=hTO3
  refine wpAny_bind (wpAny_letGo<|wpAny_pure ?_);have k₃:∀c o,c≠z->c≠i1->c≠TO->s.heap.get? c=some o->h₃.get? c=some o:=λc o c1 c2 c3 e=>hs₃.extBut _ _ c3 (k₂ c o c1 c2 e);have hz3:IsZip h₃ z TI TO .ellipsis:=hs₃.extBut _ _ D.TOz.symm (hs₂.extBut _ _ D.i1z.symm hz1);refine wpAny_bind (wpAny_bind<|wpAny_onRaise ?_);show wpAny _ _ (JV (.ref i2) >>= _) _ _ _;cases hy:ys[n2]? with
  |none=>
   refine wpAny_bind (bn hh (h2.keep λo e=>k₃ _ o D.i2z D.i12.symm D.TOi2.symm e) (hl2.keep λo e=>k₃ _ o O2.z O2.i1 O2.TO e) hy λh₄ e hs4 he=>?_);obtain⟨oe,hoe,hce⟩:=he;have hz4:IsZip h₄ z TI TO .ellipsis:=hs4 _ _ D.i2z.symm hz3;have hez:e≠z:=λx=>by subst x;rw[hz4]at hoe;cases hoe;simp at hce
   refine wpAny_setField_rec hz4 (by simp) λh₅ _ hs5=>hE h₅ e (λc o c1 c2 c3 c4 _ x=>hs5.extBut _ _ c1 (hs4 _ _ c4<|k₃ c o c1 c3 c2 x)) ⟨oe,hs5.extBut _ _ hez hoe,hce⟩
  |some y=>
   have hu:us[n3]?=none:=by
    rcases hend with h|h|h
    .rw[hx]at h;cases h
    .rw[hy]at h;cases h
    .exact h
   refine wpAny_bind (aR (h2.keep λo e=>k₃ _ o D.i2z D.i12.symm D.TOi2.symm e) (hl2.keep λo e=>k₃ _ o O2.z O2.i1 O2.TO e) hy λh₄ h24 hs4=>wpAny_pure ?_);have hTO4:aY h₄ TO x b c:=hs4.extBut _ _ D.TOi2 hTO3;refine wpAny_bind (wpAny_seqItems hTO4 rfl ?_);refine wpAny_bind (bO hTO4 λh₅ hTO5 hs5=>?_);refine wpAny_bind (wpAny_letGo<|wpAny_pure ?_);have k₅:∀c o,c≠z->c≠i1->c≠TO->c≠i2->s.heap.get? c=some o->h₅.get? c=some o:=λc o c1 c2 c3 c4 e=>hs5.extBut _ _ c3 (hs4.extBut _ _ c4<|k₃ c o c1 c2 c3 e);have hz5:IsZip h₅ z TI TO .ellipsis:=hs5.extBut _ _ D.TOz.symm (hs4.extBut _ _ D.i2z.symm hz3);refine wpAny_bind (wpAny_bind<|wpAny_onRaise ?_);show wpAny _ _ (JV (.ref i3) >>= _) _ _ _;refine wpAny_bind (bn hh (h3.keep λo e=>k₅ _ o D.i3z D.i13.symm D.TOi3.symm D.i23.symm e) (hl3.keep λo e=>k₅ _ o O3.z O3.i1 O3.TO O3.i2 e) hu λh₆ e hs6 he=>?_);obtain⟨oe,hoe,hce⟩:=he;have hz6:IsZip h₆ z TI TO .ellipsis:=hs6 _ _ D.i3z.symm hz5;have hez:e≠z:=λx=>by subst x;rw[hz6]at hoe;cases hoe;simp at hce
   refine wpAny_setField_rec hz6 (by simp) λh₇ _ hs7=>hE h₇ e (λc o c1 c2 c3 c4 c5 x=>hs7.extBut _ _ c1 (hs6 _ _ c5<|k₅ c o c1 c3 c2 c4 x)) ⟨oe,hs7.extBut _ _ hez hoe,hce⟩
theorem h7{b1 b2 b3:Bool}{z TI TO i1 i2 i3 l1 l2 l3:Addr}{n1 n2 n3:Nat}{xs ys us:Array Value}{x y u a b c:Value}{Q:Option Value->Shared->Prop}(D:ZA3 z TI TO i1 i2 i3)(O1:Of3 z TO i1 i2 i3 l1)(O2:Of3 z TO i1 i2 i3 l2)(O3:Of3 z TO i1 i2 i3 l3)
  (hz:IsZip s.heap z TI TO .none) (hTI:aY s.heap TI (.ref i1) (.ref i2) (.ref i3)) (hTO:aY s.heap TO a b c)
  (h1:SrcTn b1 i1 l1 n1 s.heap) (h2:SrcTn b2 i2 l2 n2 s.heap) (h3:SrcTn b3 i3 l3 n3 s.heap) (hl1:SrcSq b1 s.heap l1 xs) (hl2:SrcSq b2 s.heap l2 ys) (hl3:SrcSq b3 s.heap l3 us) (hx:xs[n1]?=some x) (hy:ys[n2]?=some y) (hu:us[n3]?=some u)
  (hQ:∀h',IsZip h' z TI TO (rawInt s.heap.objs.size)->aY h' TO x y u->SrcTn b1 i1 l1 (n1+1) h'->SrcTn b2 i2 l2 (n2+1) h'->SrcTn b3 i3 l3 (n3+1) h'->aY h' s.heap.objs.size x y u->h'.objs.size=s.heap.objs.size+1->
   (∀c o,c≠z->c≠TO->c≠i1->c≠i2->c≠i3->s.heap.get? c=some o->h'.get? c=some o)->Q (some<|.ref s.heap.objs.size) { s with heap:=h' }):
  wpAny (model prog w) A (pyNext<|.ref z) Q E s:=by
 have hT:s.TypeIs (.ref z) "zip":=⟨_,hz,rfl⟩;unfold pyNext
 exact wpAny_bind (wpAny_attempt (wpAny_callSpecial?_slot (name:=JL "__next__") hT Lr
  (wpAny_call_entry Lr hT M0 (wM D O1 O2 O3 hz hTI hTO h1 h2 h3 hl1 hl2 hl3 hx hy hu λh' a1 a2 a3 a4 a5 a6 a7 a8=>wpAny_pure (hQ h' a1 a2 a3 a4 a5 a6 a7 a8))<|MN _)))
theorem iH{b1 b2 b3:Bool}{z TI TO i1 i2 i3 l1 l2 l3:Addr}{n1 n2 n3:Nat}{xs ys us:Array Value}{a b c:Value}{Q:Option Value->Shared->Prop}(hh:A.handled=none)(D:ZA3 z TI TO i1 i2 i3)(O1:Of3 z TO i1 i2 i3 l1)(O2:Of3 z TO i1 i2 i3 l2)(O3:Of3 z TO i1 i2 i3 l3)
  (hz:IsZip s.heap z TI TO .none) (hTI:aY s.heap TI (.ref i1) (.ref i2) (.ref i3)) (hTO:aY s.heap TO a b c)
  (h1:SrcTn b1 i1 l1 n1 s.heap) (h2:SrcTn b2 i2 l2 n2 s.heap) (h3:SrcTn b3 i3 l3 n3 s.heap) (hl1:SrcSq b1 s.heap l1 xs) (hl2:SrcSq b2 s.heap l2 ys) (hl3:SrcSq b3 s.heap l3 us) (hend:xs[n1]?=none\/ys[n2]?=none\/us[n3]?=none)
  (hQ:∀h',(∀c o,c≠z->c≠TO->c≠i1->c≠i2->c≠i3->s.heap.get? c=some o->h'.get? c=some o)->Q none { s with heap:=h' }):wpAny (model prog w) A (pyNext<|.ref z) Q E s:=by
 have hT:s.TypeIs (.ref z) "zip":=⟨_,hz,rfl⟩;unfold pyNext
 refine wpAny_bind (wpAny_attempt (wpAny_callSpecial?_slot (name:=JL "__next__") hT Lr
  (wpAny_call_entry Lr hT M0 (A6 hh D O1 O2 O3 hz hTI hTO h1 h2 h3 hl1 hl2 hl3 hend λh' e hk he=>?_)<|MN _)))
 obtain⟨o,ho,hc⟩:=he;refine wpAny_bind (wpAny_isInstance (T:="StopIteration") (b:=true) ⟨o,ho,hc⟩ isSubtype_stop ?_);exact wpAny_pure (hQ _ hk)
end
theorem k9(a b c:Value):checkTypeCall "zip" ⟨[a,b,c],[]⟩=pure ():=by kernel_rfl
theorem lj(a b c:Value):checkBuiltinCall "zip.__new__" ⟨[.type "zip",a,b,c],[]⟩=pure ():=by kernel_rfl
theorem fT(a b c d:Value):argsOk "object.__init__" ⟨[a,b,c,d],[]⟩:=by
 unfold argsOk;rw[signature?_of (id:="object.__init__") (n:=['_','_','t','i','n','i','_','_']) (o:=['t','c','e','j','b','o']) (by kernel_rfl) F.owner_object];kernel_rfl
abbrev AG(c1 c2 c3:String)(h:Heap)(l1 l2 l3:Addr):Heap:=(DZ c1 c2 h l1 l2).push { cls:=.type c3,data:=.fields #[.ref l3,.int 0 0] }
abbrev BI(c1 c2 c3:String)(h:Heap)(l1 l2 l3:Addr):Heap:=(AG c1 c2 c3 h l1 l2 l3).push { cls:=.type "tuple",data:=.seq #[.ref h.objs.size,.ref (G6 c1 h l1).objs.size,.ref (DZ c1 c2 h l1 l2).objs.size] }
abbrev C6(c1 c2 c3:String)(h:Heap)(l1 l2 l3:Addr):Heap:=(BI c1 c2 c3 h l1 l2 l3).push { cls:=.type "tuple",data:=.seq #[.none,.none,.none] }
abbrev oC(c1 c2 c3:String)(h:Heap)(l1 l2 l3:Addr):Heap:=(C6 c1 c2 c3 h l1 l2 l3).push { cls:=.type "zip",data:=.fields #[.none,.bool false,.bool false,.ref (AG c1 c2 c3 h l1 l2 l3).objs.size,.ref (BI c1 c2 c3 h l1 l2 l3).objs.size] }
theorem rQ(b1 b2 b3:Bool)(l1 l2 l3:Addr)(xs ys us:Array Value):
  Meets (Builtin.«zip.__new__» ⟨[.type "zip",.ref l1,.ref l2,.ref l3],[]⟩) (λ_ R s=>SrcSq b1 s.heap l1 xs/\SrcSq b2 s.heap l2 ys/\SrcSq b3 s.heap l3 us/\
   R (.ok<|.ret<|.ref (C6 (ay b1) (ay b2) (ay b3) s.heap l1 l2 l3).objs.size) { s with heap:=oC (ay b1) (ay b2) (ay b3) s.heap l1 l2 l3 }):=
 .of_wp λprog w A R s h=>by
  obtain⟨hp,g,d,tk,os⟩:=s;obtain⟨hl1,hl2,hl3,h⟩:=h;have hsub:=sub_zip;have hL1:SrcSq b1 (MC ⟨hp,g,d,tk,os⟩) l1 xs:=hl1;have hL2:SrcSq b2 (MC ⟨hp.push { cls:=.type (ay b1),data:=.fields #[.ref l1,.int 0 0] },g,d,tk,os⟩) l2 ys:=SrcSq.keep hl2 λo e=>JB _ e;have hL3:SrcSq b3 (MC ⟨(hp.push { cls:=.type (ay b1),data:=.fields #[.ref l1,.int 0 0] }).push { cls:=.type (ay b2),data:=.fields #[.ref l2,.int 0 0] },g,d,tk,os⟩) l3 us:=SrcSq.keep hl3 λo e=>JB _ (JB _ e)
  wp_walk using bS hL1,bS hL2,bS hL3
  exact⟨_,rfl,h⟩
section
variable {prog:Program}{w:World}{A:Around}{E:Value->Shared->Prop}{s:Shared}
theorem xb{b1 b2 b3:Bool}{l1 l2 l3:Addr}{xs ys us:Array Value}{Q:Value->Shared->Prop}(hl1:SrcSq b1 s.heap l1 xs)(hl2:SrcSq b2 s.heap l2 ys)(hl3:SrcSq b3 s.heap l3 us)
  (h:∀h',IsZip h' (s.heap.objs.size+5) (s.heap.objs.size+3) (s.heap.objs.size+4) .none->aY h' (s.heap.objs.size+3) (.ref s.heap.objs.size) (.ref (s.heap.objs.size+1)) (.ref (s.heap.objs.size+2))->
   aY h' (s.heap.objs.size+4) .none .none .none->SrcTn b1 s.heap.objs.size l1 0 h'->SrcTn b2 (s.heap.objs.size+1) l2 0 h'->SrcTn b3 (s.heap.objs.size+2) l3 0 h'->h'.objs.size=s.heap.objs.size+6->
   (∀c o,s.heap.get? c=some o->h'.get? c=some o)->Q (.ref (s.heap.objs.size+5)) { s with heap:=h' }):
  wpAny (model prog w) A (call (.type "zip") [.ref l1,.ref l2,.ref l3]) Q E s:=by
 refine callType_new F.called_zip (by decide) (k9 _ _ _) (lj _ _ _) (λobj=>fT obj _ _ _) F.entry_zip_new (rQ b1 b2 b3 l1 l2 l3 xs ys us) ⟨hl1,hl2,hl3,?_⟩
 generalize e1:ay b1=c1;generalize e2:ay b2=c2;generalize e3:ay b3=c3;have z1:(G6 c1 s.heap l1).objs.size=s.heap.objs.size+1:=Ke ..;have z2:(DZ c1 c2 s.heap l1 l2).objs.size=s.heap.objs.size+2:=by rw[Ke,z1]
 have z3:(AG c1 c2 c3 s.heap l1 l2 l3).objs.size=s.heap.objs.size+3:=by rw[Ke,z2]
 have z4:(BI c1 c2 c3 s.heap l1 l2 l3).objs.size=s.heap.objs.size+4:=by rw[Ke,z3]
 have z5:(C6 c1 c2 c3 s.heap l1 l2 l3).objs.size=s.heap.objs.size+5:=by rw[Ke,z4]
 have z6:(oC c1 c2 c3 s.heap l1 l2 l3).objs.size=s.heap.objs.size+6:=by rw[Ke,z5]
 have g6:(oC c1 c2 c3 s.heap l1 l2 l3).get? (C6 c1 c2 c3 s.heap l1 l2 l3).objs.size=some _:=JH _ rfl;have g5:(oC c1 c2 c3 s.heap l1 l2 l3).get? (BI c1 c2 c3 s.heap l1 l2 l3).objs.size=some _:=JB _ (JH _ rfl);have g4:(oC c1 c2 c3 s.heap l1 l2 l3).get? (AG c1 c2 c3 s.heap l1 l2 l3).objs.size=some _:=JB _ (JB _<|JH _ rfl);have g3:(oC c1 c2 c3 s.heap l1 l2 l3).get? (DZ c1 c2 s.heap l1 l2).objs.size=some _:=JB _ (JB _<|JB _<|JH _ rfl);have g2:(oC c1 c2 c3 s.heap l1 l2 l3).get? (G6 c1 s.heap l1).objs.size=some _:=JB _ (JB _<|JB _<|JB _<|JH _ rfl);have g1:(oC c1 c2 c3 s.heap l1 l2 l3).get? s.heap.objs.size=some _:=JB _ (JB _<|JB _<|JB _<|JB _<|JH _ rfl);show _/\_;rw[z3,z4,z5]at g6;rw[z1,z2,z3]at g4;rw[z4]at g5;rw[z2]at g3;rw[z1]at g2;rw[z5];refine⟨⟨_,g6,rfl⟩,h _ g6 g4 g5 (fo<|by rw[e1];exact g1) (fo<|by rw[e2];exact g2) (fo<|by rw[e3];exact g3) z6 λc o x=>?_⟩
 exact JB _ (JB _<|JB _<|JB _<|JB _<|JB _ x)
end
def IF(K:JF)(b1 b2 b3:Bool)(l1 l2 l3:Addr):It:=
 ⟨λi H=>∃xs ys us x y u,fW K b1 H l1 xs/\fW K b2 H l2 ys/\fW K b3 H l3 us/\xs[i]?=some x/\ys[i]?=some y/\us[i]?=some u,
  λi H v H'=>∃T x y u,H T=none/\v=.ref T/\H'=upd H T (.tup [x,y,u])/\(∀xs,fW K b1 H l1 xs->xs[i]?=some x)/\(∀ys,fW K b2 H l2 ys->ys[i]?=some y)/\(∀us,fW K b3 H l3 us->us[i]?=some u),
  λi H=>∃xs ys us,fW K b1 H l1 xs/\fW K b2 H l2 ys/\fW K b3 H l3 us/\(xs.length<=i\/ys.length<=i\/us.length<=i)⟩
theorem wQ{P:Program}{w:World}{K:JF}{elts:List Expr}{x1:Nat}{tp:Pos}(b1 b2 b3:Bool)(l1 l2 l3 z TI TO i1 i2 i3:Addr)(D:ZA3 z TI TO i1 i2 i3):
  Turn P w K (.Tuple elts x1 tp) (IF K b1 b2 b3 l1 l2 l3) [z,TI,TO,i1,i2,i3] z (λi h=>IsZip h z TI TO .none/\aY h TI (.ref i1) (.ref i2) (.ref i3)/\(∃a b c,aY h TO a b c)/\SrcTn b1 i1 l1 i h/\SrcTn b2 i2 l2 i h/\SrcTn b3 i3 l3 i h) where
 mem:=by simp
 obj:=λi h st b hb=>by
  obtain⟨hz,hTI,⟨a,c,d,hTO⟩,h1,h2,h3⟩:=st;have hb':b=z\/b=TI\/b=TO\/b=i1\/b=i2\/b=i3:=by simpa using hb
  rcases hb' with e|e|e|e|e|e<;>subst e
  .exact⟨_,hz,λv q=>nomatch q⟩
  .exact⟨_,hTI,λv q=>nomatch q⟩
  .exact⟨_,hTO,λv q=>nomatch q⟩
  .exact h1.lt
  .exact h2.lt
  .exact h3.lt
 keep:=λi h h' st k=>by
  obtain⟨hz,hTI,⟨a,c,d,hTO⟩,h1,h2,h3⟩:=st;exact⟨k z (by simp) _ hz,k TI (by simp) _ hTI,⟨a,c,d,k TO (by simp) _ hTO⟩,h1.keep λo e=>k i1 (by simp) o e,h2.keep λo e=>k i2 (by simp) o e,h3.keep λo e=>k i3 (by simp) o e⟩
 item:=by
  intro X hP hw hK hc i pins s U H E I hf st hg;subst hP hw hK;obtain⟨xs,ys,us,x,y,u,q1,q2,q3,hx,hy,hu⟩:=hg;obtain⟨hz,hTI,⟨a,c,d,hTO⟩,h1,h2,h3⟩:=st;obtain⟨its1,r1,s1,z1⟩:=I.src q1;obtain⟨its2,r2,s2,z2⟩:=I.src q2;obtain⟨its3,r3,s3,z3⟩:=I.src q3;obtain⟨vx,hvx,rx⟩:=r1.get hx;obtain⟨vy,hvy,ry⟩:=r2.get hy;obtain⟨vu,hvu,ru⟩:=r3.get hu;have O1:Of3 z TO i1 i2 i3 l1:=⟨I.src_ne q1 (hf z<|by simp),I.src_ne q1 (hf TO<|by simp),I.src_ne q1 (hf i1<|by simp),I.src_ne q1 (hf i2<|by simp),I.src_ne q1<|hf i3<|by simp⟩
  have O2:Of3 z TO i1 i2 i3 l2:=⟨I.src_ne q2 (hf z<|by simp),I.src_ne q2 (hf TO<|by simp),I.src_ne q2 (hf i1<|by simp),I.src_ne q2 (hf i2<|by simp),I.src_ne q2<|hf i3<|by simp⟩
  have O3:Of3 z TO i1 i2 i3 l3:=⟨I.src_ne q3 (hf z<|by simp),I.src_ne q3 (hf TO<|by simp),I.src_ne q3 (hf i1<|by simp),I.src_ne q3 (hf i2<|by simp),I.src_ne q3<|hf i3<|by simp⟩
  refine h7 D O1 O2 O3 hz hTI hTO h1 h2 h3 s1 s2 s3 (x:=vx) (y:=vy) (u:=vu) (by simpa using hvx) (by simpa using hvy) (by simpa using hvu) λh' a1 a2 a3 a4 a4' a5 a6 hk=>?_
  refine⟨_,rfl,wpAny_letOwnedTupleGo_zip a1 λh'' hz'' hs''=>?_⟩;have hzs:z≠s.heap.objs.size:=JS (JJ hz);have kk:∀b o,b∉[z,TI,TO,i1,i2,i3]->s.heap.get? b=some o->h''.get? b=some o:=λb o hb e=>
   hs''.extBut b o (λq=>hb (by simp[q])) (hk b o (λq=>hb (by simp[q])) (λq=>hb (by simp[q])) (λq=>hb (by simp[q])) (λq=>hb (by simp[q])) (λq=>hb (by simp[q])) e)
  have hT:h''.get? s.heap.objs.size=some { cls:=.type "tuple",data:=.seq #[vx,vy,vu] }:=hs''.extBut _ _ hzs.symm a5;have lv:∀b∈[z,TI,TO,i1,i2,i3],∃o,s.heap.get? b=some o:=λb hb=>by
   have hb':b=z\/b=TI\/b=TO\/b=i1\/b=i2\/b=i3:=by simpa using hb
   rcases hb' with e|e|e|e|e|e<;>subst e
   .exact⟨_,hz⟩
   .exact⟨_,hTI⟩
   .exact⟨_,hTO⟩
   .obtain⟨o,e,_⟩:=h1.lt;exact⟨o,e⟩
   .obtain⟨o,e,_⟩:=h2.lt;exact⟨o,e⟩
   .obtain⟨o,e,_⟩:=h3.lt;exact⟨o,e⟩
  have m1:SrcTn b1 i1 l1 (i+1) h'':=a3.keep λo e=>hs''.extBut _ o D.i1z e;have m2:SrcTn b2 i2 l2 (i+1) h'':=a4.keep λo e=>hs''.extBut _ o D.i2z e;have m3:SrcTn b3 i3 l3 (i+1) h'':=a4'.keep λo e=>hs''.extBut _ o D.i3z e;have nTI:aY h'' TI (.ref i1) (.ref i2) (.ref i3):=hs''.extBut _ _ D.TIz (hk _ _ D.TIz D.TITO D.TIi1 D.TIi2 D.TIi3 hTI);have nTO:aY h'' TO vx vy vu:=hs''.extBut _ _ D.TOz a2;have lv':∀b∈[z,TI,TO,i1,i2,i3],∃o,h''.get? b=some o:=λb hb=>by
   have hb':b=z\/b=TI\/b=TO\/b=i1\/b=i2\/b=i3:=by simpa using hb
   rcases hb' with e|e|e|e|e|e<;>subst e
   .exact⟨_,hz''⟩
   .exact⟨_,nTI⟩
   .exact⟨_,nTO⟩
   .obtain⟨o,e,_⟩:=m1.lt;exact⟨o,e⟩
   .obtain⟨o,e,_⟩:=m2.lt;exact⟨o,e⟩
   .obtain⟨o,e,_⟩:=m3.lt;exact⟨o,e⟩
  have hTn:H s.heap.objs.size=none:=I.hok.fresh (JE _);refine⟨.ref s.heap.objs.size,_,I.turnedNew (s:=s) (h':=h'') (t':=s.toks) (zs:=[x,y,u]) (us:=[vx,vy,vu]) hf kk lv lv' hT rfl ⟨_,rfl⟩ (.cons rx<|.cons ry<|.cons ru .nil) rfl (by show 3<=sizeLine;decide),rfl,⟨_,x,y,u,hTn,rfl,rfl,λzs hzs'=>?_,λzs hzs'=>?_,λzs hzs'=>?_⟩,⟨hz'',nTI,⟨_,_,_,nTO⟩,m1,m2,m3⟩,λb hb=>?_⟩
  .rw[I.src_inj hzs' q1];exact hx
  .rw[I.src_inj hzs' q2];exact hy
  .rw[I.src_inj hzs' q3];exact hu
  .obtain⟨o,e⟩:=lv b hb
   rw[az (JS<|JJ e)];exact(hf b hb).1
 done:=by
  intro X hP hw hK hc i pins s U H E I hf st hg;subst hP hw hK;obtain⟨xs,ys,us,q1,q2,q3,hx⟩:=hg;obtain⟨hz,hTI,⟨a,c,d,hTO⟩,h1,h2,h3⟩:=st;obtain⟨its1,r1,s1,z1⟩:=I.src q1;obtain⟨its2,r2,s2,z2⟩:=I.src q2;obtain⟨its3,r3,s3,z3⟩:=I.src q3;have l1':=r1.length;have l2':=r2.length;have l3':=r3.length;have O1:Of3 z TO i1 i2 i3 l1:=⟨I.src_ne q1 (hf z<|by simp),I.src_ne q1 (hf TO<|by simp),I.src_ne q1 (hf i1<|by simp),I.src_ne q1 (hf i2<|by simp),I.src_ne q1<|hf i3<|by simp⟩
  have O2:Of3 z TO i1 i2 i3 l2:=⟨I.src_ne q2 (hf z<|by simp),I.src_ne q2 (hf TO<|by simp),I.src_ne q2 (hf i1<|by simp),I.src_ne q2 (hf i2<|by simp),I.src_ne q2<|hf i3<|by simp⟩
  have O3:Of3 z TO i1 i2 i3 l3:=⟨I.src_ne q3 (hf z<|by simp),I.src_ne q3 (hf TO<|by simp),I.src_ne q3 (hf i1<|by simp),I.src_ne q3 (hf i2<|by simp),I.src_ne q3<|hf i3<|by simp⟩
  refine iH (I.ok.hd hc) D O1 O2 O3 hz hTI hTO h1 h2 h3 s1 s2 s3 ?_ λh' hk=>⟨rfl,I.turned4 (t':=s.toks) hf λb o hb e=>hk b o (λq=>hb (by simp[q])) (λq=>hb (by simp[q])) (λq=>hb (by simp[q])) (λq=>hb (by simp[q])) (λq=>hb (by simp[q])) e⟩
  rcases hx with hx|hx|hx
  .exact .inl (by simp;lia)
  .exact .inr (.inl<|by simp;lia)
  .exact .inr (.inr<|by simp;lia)
 self:=λ_ _ _ _ _ st h=>wpAny_pyIter_zip st.1 h
section
variable {X:Cx}
theorem Ix{zs:List V}{us:List Value}{x y u:V}(h:Vals (x::y::u::zs) us):∃a b c r,us=a::b::c::r/\RelV x a/\RelV y b/\RelV u c/\Vals zs r:=by
 cases h with
 |cons r1 t=>
  cases t with
  |cons r2 t=>
   cases t with
   |cons r3 t=>exact⟨_,_,_,_,rfl,r1,r2,r3,t⟩
def IZ(K:JF)(t:TA):TI:=λU H R=>t U H λvs H1=>∃b1 b2 b3 l1 l2 l3 xs ys us,vs=[.ref l1,.ref l2,.ref l3]/\fW K b1 H1 l1 xs/\fW K b2 H1 l2 ys/\fW K b3 H1 l3 us/\R (IF K b1 b2 b3 l1 l2 l3) H1
theorem Bg{a b c:Expr}{elts:List Expr}{x1:Nat}{tp:Pos}{ta:TA}{p pos:Pos}(hg:Gl X "zip")(hm:X.mg "zip"=none)(ha:PA X [a,b,c] ta)
  (hs:starEach [a,b,c] X.env=[(false,eval a X.env),(false,eval b X.env),(false,eval c X.env)]:=by rfl) (hs2:starEach [b,c] X.env=[(false,eval b X.env),(false,eval c X.env)]:=by rfl):
  PI X (.Tuple elts x1 tp) (.Call (.Name "zip" p) [a,b,c] [] pos) (IZ X.K ta):=by
 intro pins s U H R I h;refine Call_ (dS I hg hm (by decide +kernel:bootBuiltins "zip"=some (.type "zip"))<|KI (bG (ha pos pins s U H _ I h) λvals s1 ⟨vs,H1,I1,r1,q1⟩=>?_) (by rw[hs,hs2])<|by rw[hs2];rfl)
 obtain⟨b1,b2,b3,l1,l2,l3,xs,ys,us,e,q1,q2,q3,q⟩:=q1;subst e;obtain⟨u1,u2,u3,u4,rfl,ru1,ru2,ru3,ru4⟩:=Ix r1;cases ru1;cases ru2;cases ru3;cases ru4;obtain⟨its1,rv1,sq1,z1⟩:=I1.src q1;obtain⟨its2,rv2,sq2,z2⟩:=I1.src q2;obtain⟨its3,rv3,sq3,z3⟩:=I1.src q3;refine xb sq1 sq2 sq3 λh' hz hTI hTO h1 h2 h3 hsz hk=>?_;have I2:Inv X pins U H1 { s1 with heap:=h' }:=I1.kept (t':=s1.toks) hk;refine wpAny_pyIter_zip (s:={ s1 with heap:=h' }) hz ?_;have D:ZA3 (s1.heap.objs.size+5) (s1.heap.objs.size+3) (s1.heap.objs.size+4) s1.heap.objs.size (s1.heap.objs.size+1) (s1.heap.objs.size+2):=by constructor<;>exact(show (_:Nat)≠(_:Nat) by lia)
 refine⟨s1.heap.objs.size+5,[s1.heap.objs.size+5,s1.heap.objs.size+3,s1.heap.objs.size+4,s1.heap.objs.size,s1.heap.objs.size+1,s1.heap.objs.size+2],_,_,H1,rfl,I2,wQ b1 b2 b3 l1 l2 l3 _ _ _ _ _ _ D,⟨hz,hTI,⟨_,_,_,hTO⟩,h1,h2,h3⟩,λb hb=>?_,q⟩;have hb':s1.heap.objs.size<=b:=by
  have hb2:b=s1.heap.objs.size+5\/b=s1.heap.objs.size+3\/b=s1.heap.objs.size+4\/b=s1.heap.objs.size\/b=s1.heap.objs.size+1\/b=s1.heap.objs.size+2:=by simpa using hb
  rcases hb2 with e|e|e|e|e|e<;>rw[e]<;>first|exact NZ _ _|exact JE _
 exact I1.fpOk (H':=H1) hb' (I1.hok.fresh hb')
end
end L2
namespace L3
open PySem L2
section
variable {X:Cx}{B:Bd}{K:JF}{H:Hp}
theorem rps3{vs:List V}{d e f:D}(r:Rps K H [d,e,f] vs):∃v w u,vs=[v,w,u]/\Rp K H d v/\Rp K H e w/\Rp K H f u:=by
 obtain⟨v,w,rfl,a,b⟩:=r;obtain⟨v',w',rfl,a',b⟩:=b;obtain⟨v2,w2,rfl,a2,b⟩:=b;cases b;exact⟨v,v',v2,rfl,a,a',a2⟩
def cJ:List D->List D->List D->List D
 |x::xs,y::ys,u::us=>.tup [x,y,u]::cJ xs ys us
 |_,_,_=>[]
theorem mj:∀{xs ys us:List D} {i:Nat} {d:D},(cJ xs ys us)[i]?=some d->∃x y u,xs[i]?=some x/\ys[i]?=some y/\us[i]?=some u/\d=.tup [x,y,u]
 |x::xs,y::ys,u::us,0,d,h=>by simp only[cJ,dt,Oy]at h;exact⟨x,y,u,rfl,rfl,rfl,h.symm⟩
 |x::xs,y::ys,u::us,i+1,d,h=>by simp only[cJ,JA]at h ⊢;exact mj h
 |[],_,_,_,_,h=>by simp[cJ]at h
 |_::_,[],_,_,_,h=>by simp[cJ]at h
 |_::_,_::_,[],_,_,h=>by simp[cJ]at h
theorem md:∀{xs ys us:List D} {i:Nat},(cJ xs ys us).length<=i->xs.length<=i\/ys.length<=i\/us.length<=i
 |x::xs,y::ys,u::us,0,h=>by simp[cJ]at h
 |x::xs,y::ys,u::us,i+1,h=>by
  have:=md (xs:=xs) (ys:=ys) (us:=us) (i:=i) (by simpa [cJ] using h)
  simpa using this
 |[],_,_,_,_=>.inl (by simp)
 |_::_,[],_,_,_=>.inr (.inl<|by simp)
 |_::_,_::_,[],_,_=>.inr (.inr<|by simp)
def pe(t:dZ):xl:=λY M R=>t Y M λds M1=>match ds with
 |[d,e,f]=>match aH M1 d,aH M1 e,aH M1 f with
  |some xs,some ys,some us=>R ⟨cJ xs ys us,bF d xs++(bF e ys++bF f us)⟩ M1
  |_,_,_=>False
 |_=>False
theorem AU{a b c:Expr}{elts:List Expr}{x1:Nat}{tp:Pos}{ta:dZ}{p pos:Pos}(hg:Gl X "zip")(hm:X.mg "zip"=none)(ha:DA X B [a,b,c] ta)
  (hs:starEach [a,b,c] X.env=[(false,eval a X.env),(false,eval b X.env),(false,eval c X.env)]:=by rfl) (hs2:starEach [b,c] X.env=[(false,eval b X.env),(false,eval c X.env)]:=by rfl):
  DI X B (.Tuple elts x1 tp) (.Call (.Name "zip" p) [a,b,c] [] pos) (pe ta):=by
 refine fc (Bg hg hm ha hs hs2) ?_
 rintro U H R ⟨Y,M,RR,s,h,up⟩
 refine⟨Y,M,_,s,h,λds M1 h1 vs H1 rh1 i1 r1=>?_⟩
 split at h1
 .obtain⟨v,w,u,rfl,rv,rw',ru⟩:=rps3 r1
  split at h1
  .rename_i xs ys us e1 e2 e3
   obtain⟨p,b,rfl,hsrc⟩:=fS rh1 rv e1;obtain⟨p',b',rfl,hsrc'⟩:=fS rh1 rw' e2;obtain⟨p3,b3,rfl,hsrc3⟩:=fS rh1 ru e3;obtain⟨vs,hq,_⟩:=hsrc H1 M1 Imm.refl rh1 (fN e1);obtain⟨vs',hq',_⟩:=hsrc' H1 M1 Imm.refl rh1 (fN e2);obtain⟨vs3,hq3,_⟩:=hsrc3 H1 M1 Imm.refl rh1 (fN e3);refine⟨b,b',b3,p,p',p3,vs,vs',vs3,rfl,hq,hq',hq3,up _ M1 h1 _ H1 rh1 i1 λi H2 M2 i2 rh2 ok2=>?_⟩;obtain⟨vs2,hq2,r2⟩:=hsrc H2 M2 i2 rh2 λq hq=>ok2 q (Ld _ hq);obtain⟨vs2',hq2',r2'⟩:=hsrc' H2 M2 i2 rh2 λq hq=>ok2 q (Ka _<|Ld _ hq);obtain⟨vs23,hq23,r23⟩:=hsrc3 H2 M2 i2 rh2 λq hq=>ok2 q (Ka _<|Ka _ hq);have hl:=r2.length;have hl':=r2'.length;have hl3:=r23.length;refine⟨λd hd=>?_,λhle=>⟨vs2,vs2',vs23,hq2,hq2',hq23,?_⟩⟩
   .obtain⟨x,y,u,hx,hy,hu,rfl⟩:=mj hd
    obtain⟨w1,hw1,rw1⟩:=r2.get hx;obtain⟨w2,hw2,rw2⟩:=r2'.get hy;obtain⟨w3,hw3,rw3⟩:=r23.get hu;refine⟨⟨vs2,vs2',vs23,w1,w2,w3,hq2,hq2',hq23,hw1,hw2,hw3⟩,?_⟩
    rintro x H3 ⟨T,x',y',u',hT,rfl,rfl,hx1,hx2,hx3⟩
    have q1:=hx1 vs2 hq2;have q2:=hx2 vs2' hq2';have q3:=hx3 vs23 hq23;rw[hw1]at q1;rw[hw2]at q2;rw[hw3]at q3;cases q1;cases q2;cases q3;have i3:Imm H2 (upd H2 T<|.tup [w1,w2,w3]):=Imm.new hT;exact⟨Frm.new hT,rh2.new hT,T,_,rfl,upd_same,.cons (rw1.mono i3)<|.cons (rw2.mono i3)<|.cons (rw3.mono i3) .nil⟩
   .have:=md hle
    lia
  .exact h1.elim
 .exact h1.elim
end
end L3
namespace LS
open PySem PySem.W PyProof.Rows
def Kp(ky:Nat->Nat)(p:Array Nat)(i:Nat):Nat:=ky (p.getD i 0)
def Pm(n:Nat)(p:Array Nat):Prop:=p.toList.Perm (LC n)
def SU(ky:Nat->Nat)(p:Array Nat)(k:Nat):Prop:=∀i j,i<=j->j<k->Kp ky p i<=Kp ky p j
def SD(ky:Nat->Nat)(p:Array Nat)(k:Nat):Prop:=∀i j,i<=j->j<k->Kp ky p j<=Kp ky p i
def lu(n:Nat)(ky:Nat->Nat)(cmp:Nat->Nat->(Bool->Shared->Prop)->Shared->Prop)(s:Shared):Prop:=∀i j,i<n->j<n->∀C:Bool->Shared->Prop,C (decide (ky i<ky j)) s->cmp i j C s
section
variable {n:Nat}{ky:Nat->Nat}{cmp:Nat->Nat->(Bool->Shared->Prop)->Shared->Prop}{p:Array Nat}{s:Shared}
theorem Pm.size(h:Pm n p):p.size=n:=by
 have:=List.Perm.length_eq h;simpa using this
theorem Pm.lt(h:Pm n p){i:Nat}(hi:i<n):p.getD i 0<n:=by
 have hs:i<p.size:=by rw[Pm.size h];exact hi
 have e:p.getD i 0=p[i]:=by simp[hs]
 rw[e];have:p[i]∈p.toList:=by simp
 exact Lv.mp (ON h |>.mp this)
theorem Pm.of{q:Array Nat}(h:Pm n p)(e:q.Perm p):Pm n q:=(Array.perm_iff_toList_perm.mp e).trans h
theorem r9{q:Array Nat}{i j:Nat}(h:q[i]?=p[j]?):q.getD i 0=p.getD j 0:=by
 rw[N9,N9,h]
theorem eT{q:Array Nat}{i j:Nat}(h:q[i]?=p[j]?):Kp ky q i=Kp ky p j:=congrArg ky (r9 h)
theorem kW{i j:Nat}(hj:j<=p.size)(k:Nat):Kp ky (kas_rev p i j) k=if i<=k/\k<j then Kp ky p (i+j-1-k) else Kp ky p k:=by
 have e:=getElem?_mirror_all (i:=i) hj k
 by_cases h:i<=k/\k<j
 .rw[if_pos h]at e ⊢
  exact eT e
 .rw[if_neg h]at e ⊢
  exact eT e
theorem yy{src d:Nat}(hs:src<p.size)(hd:d<=src)(k:Nat):Kp ky (bubble p src d) k=if k=src-d then Kp ky p src else if src-d<k/\k<=src then Kp ky p (k-1) else Kp ky p k:=by
 have e:=getElem?_bubble hs d hd k
 by_cases h:k=src-d
 .rw[if_pos h]at e ⊢
  exact eT e
 .rw[if_neg h]at e ⊢
  by_cases h2:src-d<k/\k<=src
  .rw[if_pos h2]at e ⊢
   exact eT e
  .rw[if_neg h2]at e ⊢
   exact eT e
theorem ya{p:Array Nat}{m:Nat}:∀k,m+1-(0+1)<=k->k<m+1->Kp ky p k=Kp ky p (m+1-1):=λk k1 k2=>by
 have e:k=m:=by lia
 subst e;rfl
theorem SU1:SU ky p 1:=λi j hij hj=>by
 have e:i=j:=by lia
 rw[e];exact JE _
theorem Pm.rev(h:Pm n p){i j:Nat}:Pm n (kas_rev p i j):=h.of (mirror_perm ..)
theorem kQ{α:Type}{i j:Nat}{k:Bool->KasT α}{Q:α->Shared->Prop}(hc:lu n ky cmp s)(hi:i<n)(hj:j<n)(h1:ky i<ky j->(k true).kasWp cmp Q s)(h2:¬ky i<ky j->(k false).kasWp cmp Q s):(KasT.ask i j k).kasWp cmp Q s:=by
 refine hc i j hi hj _ ?_
 by_cases c:ky i<ky j
 .rw[decide_eq_true c];exact h1 c
 .rw[decide_eq_false c];exact h2 c
theorem rY(hc:lu n ky cmp s)(hp:Pm n p):∀(f a:Nat) (Q:Nat->Shared->Prop),1<=a->a+f<=n->SU ky p a->(∀m,a<=m->m<=a+f->SU ky p m->(m<a+f->Kp ky p m<Kp ky p (m-1))->Q m s)->(kas_asc p f a).kasWp cmp Q s
 |0,a,Q,h1,h2,hs,h=>h a (JE _) (by lia) hs λq=>by lia
 |f+1,a,Q,h1,h2,hs,h=>by
  unfold kas_asc;refine kQ hc (hp.lt<|by lia) (hp.lt<|by lia) (λc=>?_) λc=>?_
  .exact h a (JE _) (by lia) hs λ_=>c
  .refine rY hc hp f (a+1) Q (by lia) (by lia) (λi j hij hj=>?_) λm g1 g2 g3 g4=>h m (by lia) (by lia) g3 λq=>g4 (by lia)
   have c':Kp ky p (a-1)<=Kp ky p a:=LZ c
   by_cases e:j=a
   .subst e
    by_cases e2:i=j
    .rw[e2];exact JE _
    .exact Ki (hs i (j-1) (by lia)<|by lia) c'
   .exact hs i j hij (by lia)
theorem jy(hc:lu n ky cmp s):∀(f:Nat) (p:Array Nat) (m q:Nat) (Q:Array Nat×Nat×Nat->Shared->Prop),Pm n p->1<=m->m+f<=n->SD ky p m->q+1<=m->(∀k,m-(q+1)<=k->k<m->Kp ky p k=Kp ky p (m-1))->
  (∀p' m' q',Pm n p'->m<=m'->m'<=m+f->SD ky p' m'->q'+1<=m'->(∀k,m'-(q'+1)<=k->k<m'->Kp ky p' k=Kp ky p' (m'-1))->Q (p',m',q') s)->(kas_desc f p m q).kasWp cmp Q s
 |0,p,m,q,Q,hp,h1,h2,hs,hq,he,h=>h p m q hp (JE _) (by lia) hs hq he
 |f+1,p,m,q,Q,hp,h1,h2,hs,hq,he,h=>by
  unfold kas_desc;have one:∀p',(∀k,Kp ky p' k=Kp ky p k)->Kp ky p m<=Kp ky p (m-1)->SD ky p' (m+1):=λp' hk c i j hij hj=>by
   rw[hk,hk]
   by_cases e:j=m
   .subst e
    by_cases e2:i=j
    .rw[e2];exact JE _
    .exact Ki c (hs i (j-1) (by lia)<|by lia)
   .exact hs i j hij (by lia)
  refine kQ hc (hp.lt<|by lia) (hp.lt<|by lia) (λc=>?_) λc=>?_
  .have c':Kp ky p m<=Kp ky p (m-1):=LG c
   show (if q>0 then _ else _:KasT _).kasWp cmp Q s
   split
   .have hk:∀k,Kp ky (kas_rev p (m-(q+1)) m) k=Kp ky p k:=λk=>by
     rw[kW (by rw[hp.size];lia)]
     split
     .rename_i z
      rw[he _ (by lia) (by lia),he k z.1 z.2]
     .rfl
    exact jy hc f _ (m+1) 0 Q hp.rev (by lia) (by lia) (one _ hk c') (by lia) ya λp' m' q' a1 a2 a3 a4 a5 a6=>h p' m' q' a1 (by lia) (by lia) a4 a5 a6
   .exact jy hc f p (m+1) 0 Q hp (by lia) (by lia) (one _ (λ_=>rfl) c') (by lia) ya λp' m' q' a1 a2 a3 a4 a5 a6=>h p' m' q' a1 (by lia) (by lia) a4 a5 a6
  .show (KasT.ask _ _ _).kasWp cmp Q s
   refine kQ hc (hp.lt<|by lia) (hp.lt<|by lia) (λc2=>?_) λc2=>?_
   .exact h p m q hp (JE _) (by lia) hs hq he
   .have e1:Kp ky p m=Kp ky p (m-1):=Nat.le_antisymm (LZ c2) (LZ c)
    refine jy hc f p (m+1) (q+1) Q hp (by lia) (by lia) (one _ (λ_=>rfl)<|NP e1) (by lia) (λk k1 k2=>?_) λp' m' q' a1 a2 a3 a4 a5 a6=>h p' m' q' a1 (by lia) (by lia) a4 a5 a6
    show Kp ky p k=Kp ky p m
    by_cases e:k=m
    .rw[e]
    .rw[he k (by lia) (by lia),e1]
theorem jL{α β:Type}{t:KasT α}{f:α->KasT β}{Q:β->Shared->Prop}(h:t.kasWp cmp (λa s'=>(f a).kasWp cmp Q s') s):(t.bind f).kasWp cmp Q s:=by
 rw[KasT.kasWp_bind];exact h
theorem pW(hc:lu n ky cmp s)(hp:Pm n p){m:Nat}{Q:Nat×Array Nat->Shared->Prop}(h1:1<=m)(h2:m<=n)(hs:SD ky p m)(h:∀m' p',Pm n p'->1<=m'->m'<=n->SU ky p' m'->Q (m',p') s):(kas_tail3 m n p).kasWp cmp Q s:=by
 unfold kas_tail3;refine jL (rY hc hp.rev (n-m) m _ h1 (by lia) (λi j hij hj=>?_) λm' a1 a2 a3 _=>h m' _ hp.rev (by lia) (by lia) a3)
 rw[kW (by rw[hp.size];lia),kW (by rw[hp.size];lia),if_pos (by lia),if_pos (by lia)]
 exact hs _ _ (by lia) (by lia)
theorem ir(hc:lu n ky cmp s)(hp:Pm n p){m:Nat}{Q:Nat×Array Nat->Shared->Prop}(h1:1<=m)(h2:m+1<=n)(hs:SD ky p (m+1))(h:∀m' p',Pm n p'->1<=m'->m'<=n->SU ky p' m'->Q (m',p') s):(kas_descPart m n p).kasWp cmp Q s:=by
 unfold kas_descPart;refine jL (jy hc (n-(m+1)) p (m+1) 0 _ hp (by lia) (by lia) hs (by lia) ya λp' m' q' a1 a2 a3 a4 a5 a6=>?_)
 dsimp only
 split
 .refine pW hc a1.rev (by lia) (by lia) (λi j hij hj=>?_) h
  have hk:∀k,Kp ky (kas_rev p' (m'-(q'+1)) m') k=Kp ky p' k:=λk=>by
   rw[kW (by rw[a1.size];lia)]
   split
   .rename_i z
    rw[a6 _ (by lia) (by lia),a6 k z.1 z.2]
   .rfl
  rw[hk,hk];exact a4 i j hij hj
 .exact pW hc a1 (by lia) (by lia) a4 h
theorem zc(hc:lu n ky cmp s)(hp:Pm n p){Q:Nat×Array Nat->Shared->Prop}(hn:1<=n)(h:∀m' p',Pm n p'->1<=m'->m'<=n->SU ky p' m'->Q (m',p') s):(kas_count n p).kasWp cmp Q s:=by
 unfold kas_count;refine jL (rY hc hp (n-1) 1 _ (by lia) (by lia) SU1 λm a1 a2 a3 a4=>?_)
 by_cases e:m=n
 .subst e
  rw[if_pos (by simp)]
  exact h m p hp a1 (by lia) a3
 .rw[if_neg (by simpa using e)]
  have lt:=a4 (by lia)
  by_cases g:m>1
  .rw[if_pos g]
   refine kQ hc (hp.lt<|by lia) (hp.lt<|by lia) (λc=>?_) λc=>?_
   .exact h m p hp a1 (by lia) a3
   .have eq:∀k,k<m->Kp ky p k=Kp ky p (m-1):=λk hk=>by
     have q1:=a3 k (m-1) (by lia) (by lia)
     have q2:=a3 0 k (by lia) hk
     have q3:Kp ky p (m-1)<=Kp ky p 0:=LZ c;lia
    have hk:∀k,Kp ky (kas_rev p 0 m) k=Kp ky p k:=λk=>by
     rw[kW (by rw[hp.size];lia)]
     split
     .rename_i z
      rw[eq _ (by lia),eq k z.2]
     .rfl
    refine ir hc hp.rev a1 (by lia) (λi j hij hj=>?_) h
    rw[hk,hk]
    by_cases ej:j=m
    .subst ej
     by_cases ei:i=j
     .rw[ei];exact JE _
     .rw[eq i (by lia)];lia
    .rw[eq i (by lia),eq j (by lia)];exact JE _
  .rw[if_neg g]
   have:m=1:=by lia
   subst this;refine ir hc hp a1 (by lia) (λi j hij hj=>?_) h
   have:Kp ky p 1<Kp ky p 0:=lt;have hi:i=0\/i=1:=by lia
   have hj':j=0\/j=1:=by lia
   rcases hi with rfl|rfl<;>rcases hj' with rfl|rfl<;>lia
theorem jJ(hc:lu n ky cmp s)(hp:Pm n p){k:Nat}(hk:k<n)(hs:SU ky p k):∀(f l r:Nat) (Q:Nat->Shared->Prop),l<=r->r<=k->r-l<=f->(∀i,i<l->Kp ky p i<=Kp ky p k)->(∀i,r<=i->i<k->Kp ky p k<Kp ky p i)->
  (∀l',l'<=k->(∀i,i<l'->Kp ky p i<=Kp ky p k)->(∀i,l'<=i->i<k->Kp ky p k<Kp ky p i)->Q l' s)->(kas_place p k f l r).kasWp cmp Q s
 |0,l,r,Q,h1,h2,h3,a,b,h=>h l (by lia) a λi i1 i2=>b i (by lia) i2
 |f+1,l,r,Q,h1,h2,h3,a,b,h=>by
  unfold kas_place
  by_cases c:l>=r
  .rw[if_pos c]
   exact h l (by lia) a λi i1 i2=>b i (by lia) i2
  .rw[if_neg c]
   refine kQ hc (hp.lt hk) (hp.lt<|by lia) (λg=>?_) λg=>?_
   .exact jJ hc hp hk hs f l ((l+r) / 2) Q (by lia) (by lia) (by lia) a (λi i1 i2=>JX g (hs _ i i1 i2)) h
   .have g':Kp ky p ((l+r) / 2)<=Kp ky p k:=LZ g
    exact jJ hc hp hk hs f ((l+r) / 2+1) r Q (by lia) (by lia) (by lia) (λi i1=>Ki (hs i ((l+r) / 2) (by lia)<|by lia) g') b h
theorem zR(hc:lu n ky cmp s):∀(f:Nat) (p:Array Nat) (k:Nat) (Q:Array Nat->Shared->Prop),Pm n p->1<=k->k+f=n->SU ky p k->(∀p',Pm n p'->SU ky p' n->Q p' s)->(kas_bin f p k).kasWp cmp Q s
 |0,p,k,Q,hp,h1,h2,hs,h=>h p hp (by rw[<- h2];exact hs)
 |f+1,p,k,Q,hp,h1,h2,hs,h=>by
  unfold kas_bin;refine jL (jJ hc hp (by lia) hs k 0 k _ (by lia) (JE _) (by lia) (λi hi=>by lia) (λi i1 i2=>by lia) λl hl a b=>?_)
  refine zR hc f _ (k+1) Q (hp.of<|bubble_perm ..) (by lia) (by lia) (λi j hij hj=>?_) h
  have sz:k<p.size:=by rw[hp.size];lia
  have e:k-(k-l)=l:=by lia
  rw[yy sz (by lia),yy sz (by lia),e]
  by_cases i1:i=l
  .rw[if_pos i1]
   by_cases j1:j=l
   .rw[if_pos j1];exact JE _
   .rw[if_neg j1,if_pos (by lia)]
    exact LG (b (j-1) (by lia)<|by lia)
  .rw[if_neg i1]
   by_cases i2:l<i/\i<=k
   .rw[if_pos i2,if_neg (by lia),if_pos (by lia)]
    exact hs (i-1) (j-1) (by lia) (by lia)
   .rw[if_neg i2]
    by_cases j1:j=l
    .rw[if_pos j1];exact a i (by lia)
    .rw[if_neg j1]
     by_cases j2:l<j/\j<=k
     .rw[if_pos j2];exact hs i (j-1) (by lia) (by lia)
     .rw[if_neg j2];exact hs i j hij (by lia)
theorem qr:Pm n (LB<|LC n):=by unfold Pm;simp
theorem Cl(hc:lu n ky cmp s)(hn:1<=n){Q:Array Nat->Shared->Prop}(h:∀p,Pm n p->SU ky p n->Q p s):(kas_sort n).kasWp cmp Q s:=by
 unfold kas_sort;refine jL (zc hc qr hn λm p hp m1 m2 hs=>?_);dsimp only
 split
 .rw[Nat.max_eq_left m1]
  exact zR hc (n-m) p m Q hp m1 (by lia) hs h
 .have:m=n:=by lia
  subst this;exact h p hp hs
end
def fF:List Int->List Int->Bool
 |[],[]=>false
 |[],_::_=>true
 |_::_,[]=>false
 |x::xs,y::ys=>if x=y then fF xs ys else decide (x<y)
theorem w8:∀x:List Int,fF x x=false
 |[]=>rfl
 |x::xs=>by simp[fF,w8 xs]
theorem qh:∀x y:List Int,fF x y=false->fF y x=false->x=y
 |[],[],_,_=>rfl
 |[],_::_,h,_=>by simp[fF]at h
 |_::_,[],_,h=>by simp[fF]at h
 |x::xs,y::ys,h1,h2=>by
  unfold fF at h1 h2
  by_cases c:x=y
  .subst c
   rw[if_pos rfl]at h1 h2;rw[qh xs ys h1 h2]
  .rw[if_neg c]at h1
   rw[if_neg (λe=>c e.symm)]at h2;simp at h1 h2;lia
theorem mK:∀x y z:List Int,fF y x=false->fF z y=false->fF z x=false
 |[],[],[],_,_=>rfl
 |[],[],_::_,_,h=>rfl
 |[],_::_,[],_,h=>by simp[fF]at h
 |[],_::_,_::_,_,_=>rfl
 |_::_,[],_,h,_=>by simp[fF]at h
 |_::_,_::_,[],_,h=>by simp[fF]at h
 |x::xs,y::ys,z::zs,h1,h2=>by
  unfold fF at h1 h2 ⊢
  by_cases c:y=x
  .rw[if_pos c]at h1
   subst c
   by_cases d:z=y
   .rw[if_pos d]at h2 ⊢;exact mK xs ys zs h1 h2
   .rw[if_neg d]at h2 ⊢;exact h2
  .rw[if_neg c]at h1
   by_cases d:z=y
   .subst d;rw[if_neg c];exact h1
   .rw[if_neg d]at h2
    simp at h1 h2;rw[if_neg (by lia)]
    simp;lia
theorem kh:∀x y:List Int,fF x y=true->fF y x=false
 |[],[],h=>by simp[fF]at h
 |[],_::_,_=>rfl
 |_::_,[],h=>by simp[fF]at h
 |x::xs,y::ys,h=>by
  unfold fF at h ⊢
  by_cases c:x=y
  .subst c
   rw[if_pos rfl]at h ⊢;exact kh xs ys h
  .rw[if_neg c]at h
   rw[if_neg (λe=>c e.symm)];simp at h ⊢;lia
def fK:Ord (List Int):=⟨fF,qh,mK,kh⟩
theorem vK{α:Type}{p q:α->Bool}:∀{l:List α},(∀x∈l,p x=true->q x=true)->(∃y∈l,q y=true/\p y=false)->l.countP p<l.countP q
 |[],_,⟨_,h,_⟩=>by cases h
 |x::l,h,⟨y,hy,hq,hp⟩=>by
  have mono:l.countP p<=l.countP q:=OY λz hz=>h z (JZ _ hz);rw[List.countP_cons,List.countP_cons];rcases JM.mp hy with e|hy
  .subst e
   rw[if_pos hq,hp];simp;lia
  .have:=vK (l:=l) (λz hz=>h z (JZ _ hz)) ⟨y,hy,hq,hp⟩
   have hx:=h x (by simp)
   cases c:p x with
   |false=>simp;split<;>lia
   |true=>rw[if_pos rfl,if_pos (hx c)];lia
def rk(ks:List (List Int))(i:Nat):Nat:=ks.countP λx=>fF x (ks.getD i [])
theorem Eh{ks:List (List Int)}{i j:Nat}(hi:i<ks.length):decide (rk ks i<rk ks j)=fF (ks.getD i []) (ks.getD j []):=by
 unfold rk;have ha:ks.getD i []∈ks:=by simp[hi]
 generalize ks.getD i []=a at ha;generalize ks.getD j []=b;cases c:fF a b with
 |true=>
  refine decide_eq_true (vK (λx hx h=>?_) ⟨a,ha,c,w8 a⟩);cases d:fF x b with
  |true=>rfl
  |false=>
   have:=mK a b x (kh a b c) d;rw[this]at h;cases h
 |false=>
  refine decide_eq_false (Nat.not_lt.mpr (OY λx hx h=>?_));cases d:fF x a with
  |true=>rfl
  |false=>
   have:=mK b a x c d;rw[this]at h;cases h
section
variable {prog:Program}{w:World}{A:Around}{s:Shared}{b:Bool}{Q:Bool->Shared->Prop}
theorem oY:∀(xs ys:List Int) (us vs:List Value) (i:Nat),IntsAre us xs->IntsAre vs ys->Q (fF xs ys) s->KatLex prog w A b (decide (xs.length<ys.length)) Q (us.zip vs) i s
 |[],[],_,_,i,.nil,.nil,h=>h
 |[],_::_,_,_,i,.nil,.cons ..,h=>by
  rw[List.zip_nil_left];show Q (decide (0<_)) s;rw[decide_eq_true (by simp)]
  exact h
 |_::_,[],_,_,i,.cons ..,.nil,h=>by
  rw[List.zip_nil_right];show Q (decide (_<0)) s;rw[decide_eq_false (by lia)]
  exact h
 |x::xs,y::ys,_,_,i,.cons _ _ r1,.cons _ _ r2,h=>by
  have e:decide ((x::xs).length<(y::ys).length)=decide (xs.length<ys.length):=decide_eq_decide.mpr (by simp)
  rw[e,Pq];refine kat_cons (wpAny_eqBool_int (kat_go (λc=>kat_yes ?_) λc=>kat_no ?_))
  .have:x=y:=by simpa using c
   subst this;unfold fF at h;rw[if_pos rfl]at h;exact oY xs ys _ _ (i+1) r1 r2 h
  .have:¬x=y:=by simpa using c
   unfold fF at h;rw[if_neg this]at h;cases (b&&i==0) with
   |true=>exact oneLt_int h
   |false=>exact kat_one _ _ (wpAny_lt_int h)
end
inductive TupsAt(h:Heap):List Value->List (List Int)->Prop
 |nil:TupsAt h [] []
 |cons {a:Addr} {o:Obj} {us:List Value} {n:Nat} {k:List Int} {vs:List Value} {ks:List (List Int)} (ho:h.get? a=some o) (hc:o.cls=.type "tuple") (hd:o.data=.seq us.toArray n) (hi:IntsAre us k) (r:TupsAt h vs ks):TupsAt h (.ref a::vs) (k::ks)
theorem TupsAt.keep{h h':Heap}{vs:List Value}{ks:List (List Int)}(t:TupsAt h vs ks)(k:∀b o,h.get? b=some o->o.cls=.type "tuple"->h'.get? b=some o):TupsAt h' vs ks:=by
 induction t with
 |nil=>exact .nil
 |cons ho hc hd hi r ih=>exact .cons (k _ _ ho hc) hc hd hi ih
theorem TupsAt.len{h:Heap}{vs:List Value}{ks:List (List Int)}(t:TupsAt h vs ks):ks.length=vs.length:=by
 induction t with
 |nil=>rfl
 |cons ho hc hd hi r ih=>simp[ih]
theorem TupsAt.at{h:Heap}{vs:List Value}{ks:List (List Int)}(t:TupsAt h vs ks):∀i,i<vs.length->∃a o us n,vs.getD i KN=.ref a/\h.get? a=some o/\o.data=.seq (LB us) n/\IntsAre us (ks.getD i []):=by
 induction t with
 |nil=>intro i hi;simp at hi
 |@cons a o us n k vs ks ho hc hd hi r ih=>
  intro i hl;cases i with
  |zero=>exact⟨a,o,us,n,rfl,ho,hd,hi⟩
  |succ i=>
   obtain⟨a',o',us',n',e,q⟩:=ih i (by simpa using hl)
   exact⟨a',o',us',n',by simpa using e,by simpa using q⟩
theorem TupsAt.firsts{h:Heap}{vs:List Value}{ks:List (List Int)}(t:TupsAt h vs ks)(hne:∀k∈ks,k≠[]):∃fs,KatTups h vs fs/\fs.length=vs.length/\∀v∈fs,∃i t,v=Nl i t:=by
 induction t with
 |nil=>exact⟨[],trivial,rfl,λ_ h=>by cases h⟩
 |@cons a o us n k vs ks ho hc hd hi r ih=>
  obtain⟨fs,h1,h2,h3⟩:=ih λk hk=>hne k (JZ _ hk);cases hi with
  |nil=>exact absurd rfl (hne []<|by simp)
  |cons x t hi=>
   refine⟨.int x t::fs,.cons ho hc hd (by simp) h1,by simp[h2],λv hv=>?_⟩
   rcases JM.mp hv with rfl|hv
   .exact⟨_,_,rfl⟩
   .exact h3 v hv
theorem jY:∀{us:List Value} {k:List Int},IntsAre us k->us.length=k.length
 |_,_,.nil=>rfl
 |_,_,.cons _ _ r=>by simp[jY r]
section
variable {prog:Program}{w:World}{A:Around}{E:Value->Shared->Prop}{s:Shared}
theorem xO{b:Bool}{vs:List Value}{ks:List (List Int)}(t:TupsAt s.heap vs ks):lu vs.length (rk ks) (kas_ask prog w A (tuples' b) vs) s:=by
 intro i j hi hj C h;obtain⟨a,o,us,n,e1,ho,hd,r1⟩:=t.at i hi;obtain⟨a',o',us',n',e2,ho',hd',r2⟩:=t.at j hj;unfold kas_ask;rw[e1,e2];refine kat_lt ho hd ho' hd' ?_;have l1:us.toArray.size=(ks.getD i []).length:=by
  have:=jY r1;simpa using this
 have l2:us'.toArray.size=(ks.getD j []).length:=by
  have:=jY r2;simpa using this
 rw[l1,l2];refine oY _ _ us us' 0 r1 r2 ?_;rw[<- Eh (by rw[t.len];exact hi)]
 exact h
theorem kD{a:Addr}{vs:List Value}{ks:List (List Int)}{n:Nat}{P:Fin->Shared->Prop}(ho:s.heap.get? a=some (seqObj "list" vs.toArray n))(ht:TupsAt s.heap vs ks)(hne:∀k∈ks,k≠[])(h64:vs.length<64)
  (h:∀p:Array Nat,Pm vs.length p->SU (rk ks) p vs.length->P (.done<|.ret .none) { s with heap:=sortedHeap s.heap a vs (LB (p.toList.map λi=>vs.getD i KN)) }):
  wpAny (model prog w) A (Builtin.«list.sort» ⟨[.ref a],[]⟩) P E s:=by
 rw[list_sort_plain];have ha:a<s.heap.objs.size:=JJ ho;refine wpAny_bind (listItems_at ho rfl ?_);refine wpAny_bind (listUpdate_at ho rfl ?_ (by rw[JI,sizeLine_eq];lia)<|KR _)
 obtain⟨e1,ho1⟩:∃e1,(s.heap.update a (KG λ_=>#[])).get? a=some (seqObj "list" #[] e1):=⟨_,get?_update_seq ho λ_=>#[]⟩;refine wpAny_bind (seqEpoch_at ho1 rfl ?_);refine wpAny_bind (wpAny_newTuple ?_<|by show vs.length<=_;rw[sizeLine_eq];lia)
 refine wpAny_bind (wpAny_newList ?_<|KR _);refine wpAny_holding ?_;have k6:∀b o,b≠a->s.heap.get? b=some o->(((s.heap.update a (KG λ_=>#[])).push<|seqObj "tuple" vs.toArray 0).push<|seqObj "list" #[] 0).get? b=some o:=λb o hb e=>
  JB _ (JB _<|(KQ ..).extBut b o hb e)
 have ho6:(((s.heap.update a (KG λ_=>#[])).push<|seqObj "tuple" vs.toArray 0).push<|seqObj "list" #[] 0).get? a=some (seqObj "list" #[] e1):=JB _ (JB _ ho1);have ht6:TupsAt (((s.heap.update a (KG λ_=>#[])).push<|seqObj "tuple" vs.toArray 0).push<|seqObj "list" #[] 0) vs ks:=ht.keep λb o e hc=>k6 b o (λz=>by subst z;rw[ho]at e;cases e;exact absurd hc (by simp[seqObj])) e
 show wpAny (model prog w) A _ P E { s with heap:=((s.heap.update a (KG λ_=>#[])).push<|seqObj "tuple" vs.toArray 0).push (seqObj "list" #[] 0) };dsimp only;have hsz:vs.toArray.size=vs.length:=by simp
 by_cases h2:vs.toArray.size<2
 .rw[if_pos h2,if_pos h2]
  refine wpAny_bind (wpAny_pure ?_);rw[StateT.run_pure];refine wpAny_bind (wpAny_pure ?_);dsimp only;refine wpAny_bind (seqEpoch_at ho6 rfl ?_);have eo:(arrOf<|SortSt.mk' general' (vs.toArray.zip vs.toArray) #[] 7 none).map (·.2)=LB ((LB<|LC vs.length).toList.map λi=>vs.getD i KN):=by
   show (vs.toArray.zip vs.toArray).map (·.2)=_;apply Array.toList_inj.mp;rw[Array.toList_map,Array.toList_zip,List.map_snd_zip (JE _)];refine List.ext_getElem (by simp) λi h1 h2=>?_
   simp at h1;simp[h1]
  refine wpAny_bind (listUpdate_at ho6 rfl ?_ (KR _)<|by rw[eo];simp;rw[sizeLine_eq];lia)
  simp only[bne_self_eq_false,JQ,if_false];refine wpAny_pure ?_;rw[eo];refine h _ qr λi j hij hj=>?_;have:i=j:=by lia
  rw[this];exact JE _
 .rw[if_neg h2,if_neg h2]
  obtain⟨fs,f1,f2,f3⟩:=ht6.firsts hne;refine wpAny_bind (kat_kind (T:=.type "int") f1 (by lia) (λv hv=>?_) rfl ?_)
  .obtain⟨i,t,rfl⟩:=f3 v hv
   exact .now
  refine wpAny_bind (wpAny_mono (kat_run (Q:=λst' s'=>∃p:Array Nat,arrOf st'=p.map (kas_item<|vs.toArray.zip vs.toArray)/\failedOf st'=none/\s'={ s with heap:=((s.heap.update a (KG λ_=>#[])).push<|seqObj "tuple" vs.toArray 0).push (seqObj "list" #[] 0) }/\Pm vs.length p/\SU (rk ks) p vs.length)
   (G:=λp s'=>s'={ s with heap:=((s.heap.update a (KG λ_=>#[])).push<|seqObj "tuple" vs.toArray 0).push (seqObj "list" #[] 0) }/\Pm vs.length p/\SU (rk ks) p vs.length) rfl (by lia) h64
   (λp' st' s' a1 a2 a3 a4=>⟨p',a2,a3,a4.1,a4.2.1,a4.2.2⟩) (Cl (xO ht6) (by lia) λp hp hs=>⟨rfl,hp,hs⟩)) ?_ λ_ _ e=>e)
  rintro⟨⟨⟩,st'⟩ s' ⟨p,har,hf,rfl,hp,hs⟩
  dsimp only;have hout:=kat_snds rfl har;rw[hout];refine wpAny_bind (seqEpoch_at ho6 rfl ?_);refine wpAny_bind (listUpdate_at ho6 rfl ?_ (KR _)<|by have:=hp.size;simp;rw[this,sizeLine_eq];lia)
  rw[hf];simp only[bne_self_eq_false,JQ,if_false];exact wpAny_pure (h p hp hs)
theorem oR{l:Addr}{vs:List Value}{ks:List (List Int)}{Q:Value->Shared->Prop}(hl:s.heap.IsList l vs.toArray)(ht:TupsAt s.heap vs ks)(hne:∀k∈ks,k≠[])(h64:vs.length<64)
  (h:∀p:Array Nat,Pm vs.length p->SU (rk ks) p vs.length->Q (.ref (s.heap.objs.size+1)) { s with heap:=sortedAll s.heap vs (LB (p.toList.map λi=>vs.getD i KN)) }):
  wpAny (model prog w) A (call (.builtin "sorted") [.ref l]) Q E s:=by
 refine Oj kind_sorted plain_sorted entry_sorted (args_sorted1 _) ?_;unfold Builtin.«sorted»;refine wpAny_bind (m:=checkCount "sorted" 1 1 _) (wpAny_pure ?_);refine wpAny_bind (collect_list hl ?_<|by rw[sizeLine_eq];lia)
 refine wpAny_bind (wpAny_newList ?_<|by rw[sizeLine_eq];lia)
 have hsz:((s.heap.push<|seqObj "list" #[] 0).update s.heap.objs.size<|KG (·++vs.toArray)).objs.size=s.heap.objs.size+1:=by
  rw[Heap.size_update,size_push']
 have hoL:(((s.heap.push<|seqObj "list" #[] 0).update s.heap.objs.size<|KG (·++vs.toArray)).push<|seqObj "list" vs.toArray 0).get? (s.heap.objs.size+1)=some (seqObj "list" vs.toArray 0):=by
  rw[<- hsz];exact JH _ rfl
 have kL:TupsAt (((s.heap.push<|seqObj "list" #[] 0).update s.heap.objs.size<|KG (·++vs.toArray)).push<|seqObj "list" vs.toArray 0) vs ks:=ht.keep λb o e _=>
  JB _ ((KQ ..).extBut b o (JS<|JJ e)<|JB _ e)
 show wpAny _ _ _ _ _ { s with heap:=((s.heap.push<|seqObj "list" #[] 0).update s.heap.objs.size<|KG (·++vs.toArray)).push (seqObj "list" vs.toArray 0) };rw[hsz];refine wpAny_bind (wpAny_holding<|wpAny_call_entry slot_list_sort ⟨_,hoL,rfl⟩ entry_list_sort (kD hoL kL hne h64 λp a1 a2=>⟨_,rfl,?_⟩)<|args_list_sort _);exact wpAny_pure ⟨_,rfl,h p a1 a2⟩
end
end LS
namespace L3
open PySem L2 LS
def aw(k:List Int):D:=.tup (k.map D.int)
def lT:List D->Option (List<|List Int)
 |[]=>some []
 |.tup xs::ds=>match cX xs,lT ds with
  |some k,some ks=>some (k::ks)
  |_,_=>none
 |_=>none
theorem ig:∀{xs:List D} {k:List Int},cX xs=some k->xs=k.map D.int
 |[],k,h=>by cases h;rfl
 |d::xs,k,h=>by
  cases d with
  |int i=>
   simp only[cX]at h
   split at h
   .rename_i e;cases h;rw[ig e];rfl
   .cases h
  |_=>cases h
theorem jP:∀{ds:List D} {ks:List (List Int)},lT ds=some ks->ds=ks.map aw
 |[],ks,h=>by cases h;rfl
 |d::ds,ks,h=>by
  cases d with
  |tup xs=>
   simp only[lT]at h
   split at h
   .rename_i e1 e2;cases h;rw[ig e1,jP e2];rfl
   .cases h
  |_=>cases h
theorem FT{ks:List (List Int)}{p:Array Nat}(hp:Pm ks.length p)(hs:SU (rk ks) p ks.length):p.toList.map (λi=>ks.getD i [])=zJ fK ks:=by
 refine qW fK ?_ ?_
 .refine L6.mpr λi j hi hj hij=>?_
  have sz:=hp.size;simp only[JK,Kk]at hi hj;simp only[NU,Array.getElem_toList];have h1:=hs i j (LG hij) (by lia)
  unfold Kp at h1;have e1:p.getD i 0=p[i]:=by simp[hi]
  have e2:p.getD j 0=p[j]:=by simp[hj]
  rw[e1,e2]at h1;have hl:p[j]<ks.length:=by
   have:=hp.lt (i:=j) (by lia)
   rw[e2]at this;exact this
  show fF _ _=false;rw[<- Eh hl];exact decide_eq_false (by lia)
 .have:=List.Perm.map (λi=>ks.getD i []) hp
  have e:(LC ks.length).map (λi=>ks.getD i [])=ks:=by
   refine List.ext_getElem (by simp) λi h1 h2=>?_
   simp[h2]
  rw[e]at this;exact this
section
variable {X:Cx}{B:Bd}
theorem vH{pins:List (Addr×Obj)}{U:L2.St}{H:Hp}{s:Shared}(I:Inv X pins U H s):∀{ks:List (List Int)} {vs:List V} {its:List Value},Rps X.K H (ks.map aw) vs->Vals vs its->TupsAt s.heap its ks
 |[],_,_,r,v=>by
  cases r;cases v;exact .nil
 |k::ks,_,_,r,v=>by
  obtain⟨x,xs,rfl,a,b⟩:=r;cases v with
  |cons rx v=>
   obtain⟨p,ws,rfl,ht,rw'⟩:=a;cases rx;obtain⟨us,ru,hi,hz⟩:=I.tuple ht.sq;obtain⟨o,e,hc,n,hd⟩:=hi;have e2:=pJ rw' (jE k);subst e2;exact .cons e hc hd (pR ru) (vH I b v)
theorem pT{K:JF}{H:Hp}{ks:List (List Int)}{vs:List V}(r:Rps K H (ks.map aw) vs):∀l:List Nat,(∀i∈l,i<ks.length)->Rps K H ((l.map λi=>ks.getD i []).map aw) (l.map λi=>vs.getD i .non)
 |[],_=>rfl
 |i::l,h=>by
  have hi:=h i (by simp)
  have e:(ks.map aw)[i]?=some (aw<|ks.getD i []):=by rw[Kf,JG hi];simp[hi]
  obtain⟨v,hv,rv⟩:=r.get e;have e2:vs.getD i .non=v:=by rw[Ll,hv];rfl
  rw[JO,JO,JO,e2];exact .cons rv (pT r l λj hj=>h j (JZ _ hj))
theorem lW{vs:List V}{its:List Value}(r:Vals vs its):∀l:List Nat,(∀i∈l,i<vs.length)->Vals (l.map λi=>vs.getD i .non) (l.map λi=>its.getD i KN)
 |[],_=>.nil
 |i::l,h=>by
  have hi:=h i (by simp)
  obtain⟨v,hv,rv⟩:=r.get (JG hi);have e1:vs.getD i .non=vs[i]:=by simp[hi]
  have e2:its.getD i KN=v:=by rw[Ll,hv];rfl
  rw[JO,JO,e1,e2];exact .cons rv (lW r l λj hj=>h j (JZ _ hj))
def dD:nW:=λds M Q=>match ds with
 |[d]=>match cz M d with
  |some xs=>match lT xs with
   |some ks=>ks.length<64/\(∀k∈ks,k≠[])/\∀p,M p=none->Q (.ref p) (M.upd p<|.lst<|(zJ fK ks).map aw)
   |none=>False
  |none=>False
 |_=>False
theorem nk:bz X (.builtin "sorted") (liftC X dD):=by
 intro pins s U H xs us Q I r h;obtain⟨ds,M,QQ,rh,rp,h,up⟩:=h;unfold dD at h
 split at h
 .obtain⟨v,rfl,rv⟩:=eF (ds:=[]) rp
  split at h
  .rename_i ys e
   obtain⟨q,vs,rfl,hq,rr⟩:=cO rh rv e
   split at h
   .rename_i ks es
    obtain⟨h64,hne,h⟩:=h;have:=jP es;subst this;obtain⟨u,rfl,ru⟩:=fG r;cases ru;obtain⟨its,r',pl,hz⟩:=I.list (.inl hq);have hlen:=r'.length;have hl2:=rr.length;rw[JK]at hl2;have ta:=vH I rr r';have tl:=ta.len;refine oR pl.isList ta hne (by lia) λp hp hs=>?_
    rw[<- tl]at hp hs;have ea:=FT hp hs;obtain⟨k,hk⟩:=PyProof.Rows.sortedAll_at s.heap its (LB (p.toList.map λi=>its.getD i KN));have hn:H (s.heap.objs.size+1)=none:=I.hok.fresh (N6 _);have hin:∀i∈p.toList,i<ks.length:=λi hi=>Lv.mp ((ON hp).mp hi);have rq:=pT rr p.toList hin;rw[ea]at rq;have vq:=lW r' p.toList λi hi=>by have:=hin i hi;lia
    refine⟨.ref (s.heap.objs.size+1),_,I.laid (t':=s.toks) (o:=.lst (p.toList.map λi=>vs.getD i .non)) (λb o z=>PyProof.Rows.sortedAll_old z) (N6 _) (show ObjOk X.prog X.w _ _ _ (.lst _) from ⟨?_,_,k,vq,hk⟩),rfl,?_⟩
    .rw[JK,Kk,hp.size];exact Ki (LG h64) (by decide)
    .exact up _ _ (h _<|rh.fresh hn) _ _ (rh.put (by rw[hn];trivial) ⟨_,upd_same,rq.mono<|Imm.new hn⟩) (Frm.put<|.inl hn) rfl
   .exact h.elim
  .exact h.elim
 .exact h.elim
end
end L3
namespace HT
open PySem PyProof.Rows
section
variable {prog:Program}{w:World}{A:Around}{E:Value->Shared->Prop}{s:Shared}
end
end HT
namespace L2
open PySem PySem.Spec PyProof.Rows
section
variable {X:Cx}{e:Expr}{te:TE}{st:Expr}{ts:TO}{p2 pos:Pos}
end
end L2
namespace L3
open PySem L2
section
variable {X:Cx}{B:Bd}{e:Expr}{te:bg}{st:Expr}{ts:DU}{pos p2:Pos}
end
structure GF(K:JF)(mg:Str->Option Value)(x:Str)(st:Stmt)(f:Addr)(fd:FuncData)(ps:List Str):Prop where
 F:Fun K x x st f fd
 b:Binds K fd ps []
 k:Md K (.ref f)=true
 m:mg x=some (.ref f)
structure GI(K:JF)(C:Addr)(x qual:Str)(st:Stmt)(f:Addr)(fd:FuncData)(ps:List Str):Prop where
 F:Fun K x qual st f fd
 b:Binds K fd ps []
 m:Mk K C f
section
variable {X:Cx}{B:Bd}{CX:iJ}{k n:Nat}{f C:Addr}{fd:FuncData}{N ps:List Str}{T:Sd}{EE:DX}{E:XK}{x qual:Str}{st:Stmt}{p pos apos:Pos}{o e:Expr}{es:List Expr}{ta:bg}{t:dZ}
theorem yb(h:GF X.K X.mg x st f fd ps)(F:FnOk X.prog X.w X.K X.mg X.base CX k f fd ps (cj X.K n T))(hr:Room k X.A)(hg:Gl X x)(hx:cy CX X E)(ux:y1 X.K B EE E)
  (ha:DA X B (e::es) t) (hdb:(x==("__debug__":Str))=false) (he:starEach (e::es) X.env=(false,eval e X.env)::starEach es X.env) (hpl:(backTo pos<|starEach es X.env).any (·.1)=false):
  DE X B (.Call (.Name x p) (e::es) [] pos) (ai T EE n t):=AT F hr hg h.m h.k h.b hx ux ha hdb he hpl
def Gs(X:Cx)(B:Bd)(x:Str)(T:Sd)(EE:DX)(n:Nat):Prop:=∃(st:Stmt) (f:Addr) (fd:FuncData) (ps:List Str) (k:Nat) (CX:iJ) (E:XK),GF X.K X.mg x st f fd ps/\FnOk X.prog X.w X.K X.mg X.base CX k f fd ps (cj X.K n T)/\Room k X.A/\cy CX X E/\y1 X.K B EE E
theorem yo(h:Gs X B x T EE n)(hg:Gl X x)(ha:DA X B (e::es) t)(hdb:(x==("__debug__":Str))=false)(he:starEach (e::es) X.env=(false,eval e X.env)::starEach es X.env)(hpl:(backTo pos<|starEach es X.env).any (·.1)=false):
  DE X B (.Call (.Name x p) (e::es) [] pos) (ai T EE n t):=by
 obtain⟨_,_,_,_,_,_,_,h,F,hr,hx,ux⟩:=h;exact yb h F hr hg hx ux ha hdb he hpl
theorem yY(h:GI X.K C qual x st f fd ps)(F:FnOk X.prog X.w X.K X.mg X.base CX k f fd ps (cj X.K n T))(hr:Room (k+1) X.A){y:Str}(hg:Gl X y)(hm:X.mg y=some (.ref C))(hx:cy CX X E)(ux:y1 X.K B EE E)
  (ha:DA X B (e::es) t) (hdb:(y==("__debug__":Str))=false) (he:starEach (e::es) X.env=(false,eval e X.env)::starEach es X.env) (hpl:(backTo pos<|starEach es X.env).any (·.1)=false):
  DE X B (.Call (.Name y p) (e::es) [] pos) (t7 C T EE n t):=BU h.m F hr hg hm h.b hx ux ha hdb he hpl
inductive FC(X:Cx)(scope:Scope):List Str->List Nat->List (Str×Addr)->Prop
 |nil:FC X scope [] [] []
 |cons {x:Str} {j:Nat} {c:Addr} {fs:List Str} {js:List Nat} {cl:List (Str×Addr)}:X.N[j]?=some x->X.env.cells.lookup x=some c->(X.env.kindOf x=some .cell\/X.env.kindOf x=some .free)->
   ((relabel scope X.env).names.lookup x=some .cell\/(relabel scope X.env).names.lookup x=some .free)->FC X scope fs js cl->FC X scope (x::fs) (j::js) ((x,c)::cl)
theorem FC.ok{scope:Scope}{fs:List Str}{js:List Nat}{cl:List (Str×Addr)}(h:FC X scope fs js cl):Frees X scope fs js/\∃cs:List Addr,fs.length=cs.length/\cl=fs.zip cs/\∀p∈cl,X.env.cells.lookup p.1=some p.2:=by
 induction h with
 |nil=>exact⟨.nil,[],rfl,rfl,memZ⟩
 |cons a b c d _ ih=>
  obtain⟨h1,cs,h2,h3,h4⟩:=ih;exact⟨.cons a c d h1,_::cs,congrArg (·+1) h2,by rw[h3];rfl,memC b h4⟩
variable {scope:Scope}{cl:List (Str×Addr)}{ls fs:List Str}{js:List Nat}{tg iter elt:Expr}{ifs:List Expr}{wi:xl}{g:jn}{tt:eG}{te:bg}{i:Nat}{px spos:Pos}
theorem nodC{s₀:Shared}{H₀:Hp}{fp:List Addr}{pl:List (Addr×Obj)}(h:N.Nodup):(bB X N scope cl C s₀ H₀ fp pl).N.Nodup:=h
theorem D6(h:FC X scope fs js cl)(hk:scope.kind=.function)(hn:∀y∈scope.names,y.2≠.cell/\(y.2=.free->y.1∈fs))(hl:∀x∈scope.names,x.2=.local->scope.names.lookup x.1=some .local)
  (hcl:closureFor scope X.env=pure cl):CompOk X scope cl ls fs js:=by
 obtain⟨h1,cs,h2,h3,h4⟩:=h.ok;subst h3;exact Cf hk hn hl h2 hcl h4 h1
theorem yM(hc:X.calm=true)(h:FC X scope fs js cl)(hk:scope.kind=.function)(hn:∀y∈scope.names,y.2≠.cell/\(y.2=.free->y.1∈fs))(hl:∀x∈scope.names,x.2=.local->scope.names.lookup x.1=some .local)
  (hcl:closureFor scope X.env=pure cl) (hi:DI X B tg iter wi)
  (hG:∀(C:Addr) (s₀:Shared) (H₀:Hp) (fp:List Addr) (pl:List (Addr×Obj)),DG (bB X (ls++fs) scope cl C s₀ H₀ fp pl) BD tg g)
  (hT:∀(C:Addr) (s₀:Shared) (H₀:Hp) (fp:List Addr) (pl:List (Addr×Obj)),Ip (bB X (ls++fs) scope cl C s₀ H₀ fp pl) BD ifs tt)
  (hE:∀(C:Addr) (s₀:Shared) (H₀:Hp) (fp:List Addr) (pl:List (Addr×Obj)),DE (bB X (ls++fs) scope cl C s₀ H₀ fp pl) BD elt te)
  (hs:∀x,foldedSetIterable iter X.env x=pure x):DE X B (.ListComp elt [⟨tg,iter,ifs,0⟩] scope pos) (aN wi ls js g tt te):=
 D4 hc (D6 h hk hn hl hcl) hi (λa b c d e=>⟨hG a b c d e,hT a b c d e,hE a b c d e⟩) hs
end
section
variable {X:Cx}{B:Bd}{x:Str}{id T Ty:String}{p pos apos cpos:Pos}{o e:Expr}{es:List Expr}{to:bg}{t:dZ}{name:Str}
theorem cu{r:nW}(hc:bz X (.builtin id) (liftC X r))(hv:bootBuiltins x=some (.builtin id))(hg:Gl X x)(hm:X.mg x=none)(ha:DA X B (e::es) t)(hn:x≠"__name__")(hdb:(x==("__debug__":Str))=false)
  (he:starEach (e::es) X.env=(false,eval e X.env)::starEach es X.env) (hpl:(backTo pos<|starEach es X.env).any (·.1)=false):DE X B (.Call (.Name x p) (e::es) [] pos) (br r t):=yd hc hg hm hv ha hn hdb he hpl
theorem dX{r:nW}(hc:bz X (.type T) (liftC X r))(hv:bootBuiltins x=some (.type T))(hg:Gl X x)(hm:X.mg x=none)(ha:DA X B (e::es) t)(hn:x≠"__name__")(hdb:(x==("__debug__":Str))=false)
  (he:starEach (e::es) X.env=(false,eval e X.env)::starEach es X.env) (hpl:(backTo pos<|starEach es X.env).any (·.1)=false):DE X B (.Call (.Name x p) (e::es) [] pos) (br r t):=wO hc hg hm hv ha hn hdb he hpl
theorem ic(hv:bootBuiltins x=some (.type T))(hg:Gl X x)(hm:X.mg x=none)(hn:x≠"__name__")(hd:(x==("__debug__":Str))=false):DE X B (.Name x pos) (dC<|.ty T):=HF hg hm hv hn hd
theorem gY{r:x6}(pa:PlainAttrs Ty)(slot:Slot Ty name id)(hty:typeOf (.builtin id)=pure (.type "method_descriptor"))(hm:x_ X id (liftM X r))(hT:Ty="list"\/Ty="str"\/Ty="int"\/Ty="dict")(ho:DE X B o to)(ha:DA X B (e::es) t)
  (hbase:attributeBase o name X.env (eval o X.env)=eval o X.env)
  (hfew:((backTo cpos<|starEach (e::es) X.env).all (λx=>!x.1)&&(backToKw cpos<|keywordEach [] X.env).all (λx=>x.1.isSome)
   && decide ((e::es).length+([]:List Keyword).length+(if ([]:List Keyword).isEmpty then 0 else 1)<30))=true)
  (hline:(apos.endLine==cpos.line)=true) (hs:starEach (e::es) X.env=(false,eval e X.env)::starEach es X.env) (hplain:(backTo cpos<|starEach es X.env).any (·.1)=false):
  DE X B (.Call (.Attribute o name apos) (e::es) [] cpos) (eE Ty r to t):=Ie hT pa slot hty hm ho ha hbase hfew hline hs hplain
theorem Bf{r:x6}(pa:PlainAttrs Ty)(slot:Slot Ty name id)(hty:typeOf (.builtin id)=pure (.type "method_descriptor"))(hm:x_ X id (liftM X r))(hT:Ty="list"\/Ty="str"\/Ty="int"\/Ty="dict")(ho:DE X B o to)
  (hbase:attributeBase o name X.env (eval o X.env)=eval o X.env) (hline:(apos.endLine==cpos.line)=true):DE X B (.Call (.Attribute o name apos) [] [] cpos) (eE Ty r to ae):=FW hT pa slot hty hm ho hbase hline
theorem AL{i:Nat}{te:bg}{op:Operator}{r:dq}{pos':Pos}(ho:Hn X op (liftR2 X r))(hN:X.N.Nodup)(hi:X.N[i]?=some x)(hx:wa X.env.scope x)(he:DE X B e te)(hf:X.fn x=true\/X.env.scope.names.lookup x=some .local):
  DS X B (.AugAssign (.Name x pos') op e pos) (zW i te r):=FS hN hi hx he ho hf
theorem m9{a b c:Expr}{ta tb tc:bg}{op op':CmpOp}{r r':dq}(ho:ce X (compareOp op) (liftR2 X r))(ho':ce X (compareOp op') (liftR2 X r'))(ha:DE X B a ta)(hb:DE X B b tb)(hc:DE X B c tc)(hm:lastMarks [op,op'] [b,c]=false):
  DE X B (.Compare a [op,op'] [b,c] pos) (dg r r' ta tb tc):=z8 ho ho' ha hb hc hm
theorem xE{a b c:Expr}{ta tb tc:bg}{op op':CmpOp}{r r':dq}(ho:ce X (compareOp op) (liftR2 X r))(ho':ce X (compareOp op') (liftR2 X r'))(ha:DE X B a ta)(hb:DE X B b tb)(hc:DE X B c tc)(hm:lastMarks [op,op'] [b,c]=false):
  DT X B (.Compare a [op,op'] [b,c] pos) (ao<|dg r r' ta tb tc):=z7 ho ho' ha hb hc hm
end
structure Nf(K:JF)(x:Str)(st:Stmt)(f:Addr)(fd:FuncData):Prop where
 a:KC K mainGlobals x=some (some<|.ref f)
 F:Fun K x x st f fd
structure Mf(K:JF)(C:Addr)(x q:Str)(st:Stmt)(f:Addr)(fd:FuncData):Prop where
 a:Lz K (.ref C) x=some (some<|.ref f)
 i:W.isFn K (.ref f)=true
 F:Fun K x q st f fd
theorem us1{α:Type}{P:List α->Prop}(h:∀a0,P [a0]):∀us:List α,us.length=1->P us
 |[a0],_=>h a0
theorem us2{α:Type}{P:List α->Prop}(h:∀a0 a1,P [a0,a1]):∀us:List α,us.length=2->P us
 |[a0,a1],_=>h a0 a1
theorem us3{α:Type}{P:List α->Prop}(h:∀a0 a1 a2,P [a0,a1,a2]):∀us:List α,us.length=3->P us
 |[a0,a1,a2],_=>h a0 a1 a2
theorem us4{α:Type}{P:List α->Prop}(h:∀a0 a1 a2 a3,P [a0,a1,a2,a3]):∀us:List α,us.length=4->P us
 |[a0,a1,a2,a3],_=>h a0 a1 a2 a3
theorem us5{α:Type}{P:List α->Prop}(h:∀a0 a1 a2 a3 a4,P [a0,a1,a2,a3,a4]):∀us:List α,us.length=5->P us
 |[a0,a1,a2,a3,a4],_=>h a0 a1 a2 a3 a4
theorem us6{α:Type}{P:List α->Prop}(h:∀a0 a1 a2 a3 a4 a5,P [a0,a1,a2,a3,a4,a5]):∀us:List α,us.length=6->P us
 |[a0,a1,a2,a3,a4,a5],_=>h a0 a1 a2 a3 a4 a5
abbrev Bnd(ps:List Str)(x qual:Str)(st:Stmt):Prop:=∀(kV doc pm:Value) (an:Option Addr) (cdv ct:Value) (us:List Value),us.length=ps.length->bindArgs (Nj x qual (dH st) (cm st) (aQ st) .none kV doc pm an cdv ct) ⟨us,[]⟩=pure (ps.zip us)
section
variable {P:Program}{w:World}{K:JF}{mg:Str->Option Value}{base h:Heap}{k n:Nat}{f C:Addr}{fd:FuncData}{N ps:List Str}{S:Sd}{T:DX->ar}{x qual:Str}{st:Stmt}
theorem gf(X:K.In h)(G:h.Ns mainGlobals mg)(l:Nf K x st f fd)(hb:Bnd ps x x st:=by intro _ _ _ _ _ _;first|exact us1 λ_=>rfl|exact us2 λ_ _=>rfl|exact us3 λ_ _ _=>rfl|exact us4 λ_ _ _ _=>rfl|exact us5 λ_ _ _ _ _=>rfl|exact us6 λ_ _ _ _ _ _=>rfl|exact us7 λ_ _ _ _ _ _ _=>rfl|exact us8 λ_ _ _ _ _ _ _ _=>rfl):GF K mg x st f fd ps:=⟨l.F,l.F.binds hb,l.F.kp,Le X G l.a⟩
theorem gi(mk:O4 K C=true)(kc:Md K (.ref C)=true)(l:Mf K C "__init__" qual st f fd)(hb:Bnd ps "__init__" qual st:=by intro _ _ _ _ _ _;first|exact us1 λ_=>rfl|exact us2 λ_ _=>rfl|exact us3 λ_ _ _=>rfl|exact us4 λ_ _ _ _=>rfl|exact us5 λ_ _ _ _ _=>rfl|exact us6 λ_ _ _ _ _ _=>rfl|exact us7 λ_ _ _ _ _ _ _=>rfl|exact us8 λ_ _ _ _ _ _ _ _=>rfl):GI K C "__init__" qual st f fd ps:=⟨l.F,l.F.binds hb,mk,l.a,l.i,kc⟩
abbrev dF(P:Program)(w:World)(mg:Str->Option Value)(base:Heap)(_:Fun K x qual st f fd)(_:Binds K fd ps [])(k:Nat)(S:Sd):Prop:=FnOk P w K mg base (lg P w) k f fd ps (cj K ps.length S)
theorem fnS(hS:S=aP N T)(F:Fun K x qual st f fd)(b:Binds K fd ps [])(sc:FnScope N ps (aQ st))
  (hb:FnScope N ps (aQ st)->∀(cdv:Value) (A:Around) (outer:List Env) (s:Shared) (H:Hp) (E:XK) (B:Bd) (EE:DX),Room k (A.deeper<|Mm qual (aQ st) s.heap.objs.size f cdv)->y1 K B EE E->
   y3 (dh (lg P w) P w K mg base N qual (aQ st) f cdv A outer s H E) B (cm st) (T EE)):dF P w mg base F b (k+1) S:=by
 subst hS;exact fnD F sc (hb sc)
end
end L3
namespace LS
open PySem PySem.W PySem.Calls PyProof.Rows PyProof.V PySem.Spec
theorem zk:typeLookup (.type "str") "__len__"=pure (some<|.builtin "str.__len__"):=by rw[typeLookup_type];rw[builtinLookup_eq_fast];kernel_rfl
theorem zu:isSubtype (.type "str") (.type "str")=pure true:=by rw[isSubtype_type];kernel_rfl
section
variable {prog:Program}{w:World}{A:Around}{E:Value->Shared->Prop}{s:Shared}{x:Str}{t:Tok}
theorem y6{Q:Bool->Shared->Prop}(h:Q false s):wpAny (model prog w) A (NA<|.str x t) Q E s:=by
 have ty:=typeIs_str s x t;unfold NA;refine wpAny_bind (wpAny_specialOf ty zk ?_);generalize hi:("str.__len__":String)=id1
 wp_delta
 rw[show splitId id1=some ("str","__len__") by subst hi;decide +kernel]
 subst hi;refine wpAny_bind (wpAny_isInstance (T:="str") (b:=true) ty zu ?_);refine wpAny_ite_split (λz=>absurd z (by decide)) λ_=>wpAny_ite_split (λ_=>?_) λz=>absurd (by decide +kernel) z
 exact wpAny_bind (wpAny_typeOf ty<|wpAny_pure h)
theorem qY{R:Result->Shared->Prop}{S:Addr}{res:Value}(hh:A.handled=none)(hz:x.cps.size<=sizeLine){c0:Nat}
  (hS:s.heap.get? S=some { cls:=.type "list",data:=.seq #[] c0 })
  (hR:∀h' tk (acc:Array Value) c,(∀b o,b≠S->s.heap.get? b=some o->h'.get? b=some o)->h'.get? S=some { cls:=.type "list",dict:=none,data:=.seq acc c,slots:=#[] }->ItemsOf (SignAt x) acc x.cps.size->
   R (.ok<|.ret res) { s with heap:=h',toks:=tk }):
  wpAny (model prog w) A.in1 (Lx (.ref S) (.str x t) res) (λfin s'=>match fin with|.done f=>R (.ok f) s'|.again c'=>c'.quiet=true/\codeAny (model prog w) A c' R s') (λe s'=>R (.error e) s') s:=by
 have ty:=typeIs_str s x t;have n0:=JJ hS;have hS0:S≠s.heap.objs.size:=JS n0;unfold Lx;refine wpAny_bind (wpAny_typeOf ty ?_);have e1:Builtin.List.listSameRef (.ref S) (.str x t)=false:=rfl;have e2:(Lp "str"==Lp "list")=false:=by decide
 have e3:(Lp "str"==Lp "tuple")=false:=by decide
 simp only[e1,e2,e3,OA,JQ,if_false];refine wpAny_bind (wpAny_pyIter_str λit St W st=>?_);have k1:∀b o,s.heap.get? b=some o->(s.heap.push it).get? b=some o:=λb o q=>JB _ q;have hS1:=k1 S _ hS;refine wpAny_bind (wpAny_holding<|y6 ?_);have W:=W A.in1 (by simpa using hh)
 have hSf:S∉[s.heap.objs.size]:=λz=>hS0 (Ks.mp z);have e4:(false||(["set","frozenset","dict","dict_keys","dict_values","dict_items"]:List String).any (Lp "str"==Lp ·))=false:=by decide
 refine wpAny_ite_split (λy=>absurd y (by decide +kernel)) λ_=>wpAny_pure ⟨plainId_quiet PySem.F.plain_extend_loop _,?_⟩
 refine codeAny_extend_loopS W.toS hz S hSf res x.cps.size 0 _ #[] c0 rfl (KR _) st hS1 (ItemsOf.nil _) λs2 acc c2 mv at2 its=>?_;rw[Moved.eq_with mv];refine hR s2.heap s2.toks acc c2 (λb o hb q=>mv.heap b o (λz=>?_) (k1 b o q)) at2 its;rcases JM.mp z with y|y
 .exact hb y
 .rw[Ks]at y
  exact absurd (JJ q) (by rw[y];exact KL _)
theorem y_{R:Result->Shared->Prop}{S:Addr}(hh:A.handled=none)(hz:x.cps.size<=sizeLine)
  (at0:s.heap.get? S=some { cls:=.type "list",data:=.seq #[] })
  (hR:∀h' tk (acc:Array Value) c,(∀b o,b≠S->s.heap.get? b=some o->h'.get? b=some o)->h'.get? S=some { cls:=.type "list",dict:=none,data:=.seq acc c,slots:=#[] }->ItemsOf (SignAt x) acc x.cps.size->
   R (.ok<|.ret .none) { s with heap:=h',toks:=tk }):
  wpAny (model prog w) A.in1 (Builtin.«list.__init__» ⟨[.ref S,.str x t],[]⟩) (λfin s'=>match fin with|.done f=>R (.ok f) s'|.again c'=>c'.quiet=true/\codeAny (model prog w) A c' R s') (λe s'=>R (.error e) s') s:=by
 show wpAny _ _ (do let old <- NS (.ref S);Builtin.List.listUpdate (.ref S) (λ_=>#[]);letGo old.toList.reverse;Lx (.ref S) (.str x t) .none) _ _ s
 refine wpAny_bind ?_;unfold NS;refine wpAny_bind (wpAny_seqItems at0 rfl<|wpAny_pure ?_);show wpAny _ _ (updateSeq S (λ_=>#[]) >>= λ_=>letGo (#[]:Array Value).toList.reverse >>= λ_=>Lx (.ref S) (.str x t) .none) _ _ s;refine wpAny_bind (wpAny_updateSeq at0 rfl ?_);have hS2:=LO (KG λ_=>(#[]:Array Value)) at0 rfl;have oth:∀b o,b≠S->s.heap.get? b=some o->(s.heap.update S<|KG λ_=>(#[]:Array Value)).get? b=some o:=λb o hb e=>by
  rw[MX _ _ (Kw hb)];exact e
 refine wpAny_bind (m:=letGo _) (wpAny_letGo ?_);exact qY hh hz hS2 λh' tk acc c k a1 a2=>hR h' tk acc c (λb o hb e=>k b o hb (oth b o hb e)) a1 a2
theorem list_str{Q:Value->Shared->Prop}(hh:A.handled=none)(hz:x.cps.size<=sizeLine)
  (hQ:∀h' tk (acc:Array Value) c,(∀b o,s.heap.get? b=some o->h'.get? b=some o)->h'.get? s.heap.objs.size=some { cls:=.type "list",dict:=none,data:=.seq acc c,slots:=#[] }->ItemsOf (SignAt x) acc x.cps.size->Q (.ref s.heap.objs.size) { s with heap:=h',toks:=tk }):
  wpAny (model prog w) A (call (.type "list") [.str x t]) Q E s:=by
 refine callType_codes (Q₁:=λobj s1=>obj=.ref s.heap.objs.size/\s1={ s with heap:=s.heap.push { cls:=.type "list",data:=.seq #[] } }) F.called_list (F.typeCall_list_1 _) F.entry_list_init
  (code_list_new _ ⟨rfl,rfl⟩) λobj s1 h1=>?_
 obtain⟨rfl,rfl⟩:=h1;have hS:(s.heap.push { cls:=.type "list",data:=.seq #[] }).get? s.heap.objs.size=some { cls:=.type "list",data:=.seq #[] }:=JH _ rfl;refine⟨⟨_,hS,rfl⟩,F.args_list_init_2 _ _,y_ (A:=A.in1) (by simpa using hh) hz hS λh' tk acc c k a1 a2=>?_⟩
 exact⟨rfl,hQ h' tk acc c (λb o e=>k b o (JS<|JJ e) (JB _ e)) a1 a2⟩
end
end LS
namespace L3
open PySem L2 LS
section
variable {X:Cx}{B:Bd}{pos:Pos}
theorem EG{x z:Str}(hg:Gl X x)(hm:∃t,X.mg x=some (.str z t))(hd:(x==("__debug__":Str))=false:=by decide):DE X B (.Name x pos) (dC<|.str z):=by
 obtain⟨t,hm⟩:=hm;exact nO (v:=.str z) hg hm ⟨t,rfl⟩ (λ_=>rfl) hd
def mS:nW:=λds M Q=>match ds with
 |[.str z]=>z.cps.size<=1000000/\∀p,M p=none->Q (.ref p) (M.upd p<|.lst<|dJ z)
 |_=>False
theorem lS{K:JF}{H:Hp}:∀(cs:List Nat),Rps K H (cs.map λc=>D.str ⟨#[c]⟩) (cs.map λc=>V.str ⟨#[c]⟩)
 |[]=>rfl
 |_::cs=>⟨_,_,rfl,rfl,lS cs⟩
theorem jD:∀(cs:List Nat) (vs:List Value),vs.length=cs.length->(∀(i:Nat) (v:Value),vs[i]?=some v->∃c u,cs[i]?=some c/\v=Nk ⟨#[c]⟩ u)->Vals (cs.map λc=>V.str ⟨#[c]⟩) vs
 |[],[],_,_=>.nil
 |[],_::_,h,_=>by simp at h
 |_::_,[],h,_=>by simp at h
 |c::cs,v::vs,h,k=>by
  obtain⟨c',u,e,rfl⟩:=k 0 v rfl;cases e;exact .cons ⟨u,rfl⟩ (jD cs vs (by simpa using h) λi w hw=>k (i+1) w (by simpa using hw))
theorem rF(hc:X.calm=true):bz X (.type "list") (liftC X mS):=by
 intro pins s U H xs us Q I r h;obtain⟨ds,M,QQ,rh,rp,h,up⟩:=h;unfold mS at h
 split at h
 .rename_i z
  obtain⟨v,rfl,rv⟩:=eF (ds:=[]) rp;cases rv;obtain⟨u,rfl,ru⟩:=fG r;obtain⟨t,rfl⟩:=ru;obtain⟨hz,h⟩:=h;refine list_str (I.ok.hd hc) (Ki hz<|by decide) λh' tk acc c k1 a1 a2=>?_
  have hn:H s.heap.objs.size=none:=I.hok.fresh (JE _);have hv:Vals (z.cps.toList.map λc=>V.str ⟨#[c]⟩) acc.toList:=by
   refine jD _ _ (by rw[Kk,Kk];exact a2.1) λi v hv=>?_
   obtain⟨c,u,h1,h2⟩:=a2.2 i v (by rw[<- KY];exact hv)
   exact⟨c,u,by rw[KY];exact h1,h2⟩
  refine⟨.ref s.heap.objs.size,_,I.laid (t':=tk) (o:=.lst (z.cps.toList.map λc=>V.str ⟨#[c]⟩)) k1 (JE _) (show ObjOk X.prog X.w _ _ _ (.lst _) from ⟨?_,acc.toList,c,hv,by rw[Array.toArray_toList];exact a1⟩),rfl,?_⟩
  .rw[JK];exact Ki hz (by decide)
  .exact up _ _ (h _<|rh.fresh hn) _ _ (rh.put (by rw[hn];trivial) ⟨_,upd_same,lS _⟩) (Frm.put<|.inl hn) rfl
 .exact h.elim
end
end L3
namespace L3
open PySem L2
section
variable {X:Cx}{B:Bd}{s:Shared}
theorem rO{h:Heap}{x:D}:∀{ds:List D} {us:List Value},Hrs h ds us->∀(m:Nat) (hm:m<us.length),∃d,ds[m]?=some d/\oA h x us[m]=aG d x
 |[],_,r=>by cases r;intro m hm;simp at hm
 |d::ds,_,r=>by
  obtain⟨v,r',rfl,a,b⟩:=r;intro m hm;cases m with
  |zero=>exact⟨d,rfl,sy a⟩
  |succ m=>
   obtain⟨d',h1,h2⟩:=rO (x:=x) b m (by simpa using hm)
   exact⟨d',by simpa using h1,by simpa using h2⟩
def gE:x6:=λx ds M Q=>match x,ds with
 |.lst xs,[z]=>xs.length<=1000/\bN 60 (dv M z)=true/\fits 60 xs=true/\match xs.findIdx? (λy=>aG y (dv M z)) with
   |some j=>Q (.int (j:Nat)) M
   |none=>False
 |_,_=>False
theorem si(hu:X.A.units+64<cLine):x_ X "list.index" (liftM X gE):=by
 intro pins s U H x vs v us Q I rx rv h;obtain⟨d,ds,M,QQ,rh,r,rs,h,up⟩:=h;unfold gE at h
 split at h
 .rename_i xs z
  obtain⟨p,ws,rfl,ht,r⟩:=r;obtain⟨w,rfl,rw'⟩:=eF (ds:=[]) rs;obtain⟨hl,fz,fx,h⟩:=h
  split at h
  .rename_i j ej
   rw[Me]at ej;obtain⟨hj,e1,e2⟩:=ej;cases rx;obtain⟨u,rfl,ru⟩:=rv.one;obtain⟨its,rr,⟨o,n,eo,hc,hdn,hdt⟩,_⟩:=I.list ht.sq;have hs:=dW I fx r rr;have hz:=kz I rh fz rw' ru;obtain⟨oc,od,ot,os⟩:=o;simp only at hc hdn hdt;subst hc hdn hdt;have hle:its.length=xs.length:=by
    have:=rr.length;have:=r.length;lia
   have hjs:j<its.toArray.size:=by rw[JI];lia
   refine call_meets L9 ⟨_,eo,rfl⟩ Oc (N4 _ _)
    (O9 p its.toArray n none os u (oA s.heap<|dv M z) j hjs (by lia) ?_ λm hm hmj=>?_) ⟨eo,λy hy=>?_,?_⟩
   .obtain⟨d',h1,h2⟩:=rO (x:=dv M z) hs j (by lia)
    rw[JG hj]at h1;cases h1;simpa [h2] using e1
   .obtain⟨d',h1,h2⟩:=rO (x:=dv M z) hs m (by rw[JI]at hm;exact hm)
    have h3:=e2 m hmj;rw[JG (by lia)]at h1
    cases h1;simp only[List.getElem_toArray,h2];simpa using h3
   .exact fb hz fz (by show X.A.units+1+60<cLine;lia) hs fx y (by simpa using hy)
   .exact⟨.int (j:Int),H,I.tok _,⟨_,rfl⟩,up _ M h _ H rh Frm.refl rfl⟩
  .exact h.elim
 .exact h.elim
end
section
variable {X:Cx}{B:Bd}{x:Str}{pos p:Pos}{e:Expr}{es:List Expr}{t:dZ}{a:Addr}{tab:List (Str×D)}
inductive IsX(X:Cx)(B:Bd)(ea:Addr)(c:D)(b:Bool):Prop
 |mk {C:Addr} (h0:∀M H,B.p M H->ExcH H C ea) (Z:LX.XC X.K C) (hc:fQ X.K C c b):IsX X B ea c b
inductive TabT(X:Cx)(a:Addr)(tab:List (Str×D)):Prop
 |mk {x:Str} (T:ModTab X.w X.K X.mg x a tab):TabT X a tab
def GlI(X:Cx)(x:Str)(n:Int):Prop:=∃t,X.mg x=some (.int n t)
def GlS(X:Cx)(x z:Str):Prop:=∃t,X.mg x=some (.str z t)
theorem Bc{n:Int}(hg:Gl X x)(hm:GlI X x n)(hd:(x==("__debug__":Str))=false):DE X B (.Name x pos) (dC<|.int n):=EU hg hm hd
theorem AI{z:Str}(hg:Gl X x)(hm:GlS X x z)(hd:(x==("__debug__":Str))=false):DE X B (.Name x pos) (dC<|.str z):=EG hg hm hd
theorem Cp{ea:Addr}{c:D}{b:Bool}(hv:bootBuiltins x=some (.builtin "isinstance"))(h:IsX X B ea c b)(hg:Gl X x)(hm:X.mg x=none)(ha:DA X B (e::es) t)(hn:x≠"__name__")(hdb:(x==("__debug__":Str))=false)
  (he:starEach (e::es) X.env=(false,eval e X.env)::starEach es X.env) (hpl:(backTo pos<|starEach es X.env).any (·.1)=false):DE X B (.Call (.Name x p) (e::es) [] pos) (gQ ea c b t):=by
 obtain⟨h0,Z,hc⟩:=h;exact Gd h0 Z hc hg hm hv ha hn hdb he hpl
theorem Bl(hg:Gl X x)(hm:X.mg x=some (.ref a))(hd:(x==("__debug__":Str))=false):DE X B (.Name x pos) (dC<|.ref a):=nO (v:=.ref a) hg hm rfl (λ_=>rfl) hd
theorem Bb{ea eb:Expr}{ta tb:bg}(T:TabT X a tab)(ha:DE X B ea ta)(hb:DE X B eb tb)(hs:mH eb):DE X B (.Subscript ea eb pos) (al (xL tab a) ta tb):=by
 obtain⟨T⟩:=T;exact Eg (ix_T T) ha hb hs
theorem rB(T:TabT X a tab):ce X (compareOp .NotIn) (liftR2 X<|iO tab a):=by
 obtain⟨T⟩:=T;exact xf T
theorem wW{C S f g:Addr}{k k2 m:Nat}{fd fg:FuncData}{ps pg:List Str}{T:Sd}{Tk:Addr->Sd}{cx y n z gx:Str}{i j l:Nat}{cp ep np hpos yp zp gp np2 gcp zep:Pos}{st sg:Stmt}
  (h:GF X.K X.mg x st f fd ps) (F:FnOk X.prog X.w X.K X.mg X.base (lg X.prog X.w) k f fd ps (cj X.K m T)) (h2:GF X.K X.mg gx sg g fg pg) (G:FnOkN X.prog X.w X.K X.mg X.base (lg X.prog X.w) k2 g fg pg (fi X.K C Tk))
  (hst:X.stack=X.env::X.outer) (hfL:X.env.frame=some X.env.locals) (hex:X.ex=[]) (hr:Room k X.A) (hg:Gl X x)
  (ha:DA X.nox B (e::es) t) (ES:XS X.K C S) (hgC:Gl X cx) (hmC:X.mg cx=some (.ref S)) (hr2:Room k2 X.A) (hgg:Gl X gx)
  (hN:X.N.Nodup) (hi:X.N[i]?=some y) (hy:wa X.env.scope y) (hj:X.N[j]?=some n) (hn:X.env.kindOf n=some .local) (hl:X.N[l]?=some z) (hz:wa X.env.scope z)
  (hdb:(x==("__debug__":Str))=false) (hdC:(cx==("__debug__":Str))=false) (hdg:(gx==("__debug__":Str))=false) (hdn:(n==("__debug__":Str))=false) (hcn:(n==("__classdict__":Str))=false)
  (he:starEach (e::es) X.env=(false,eval e X.env)::starEach es X.env) (hpl:(backTo cp<|starEach es X.env).any (·.1)=false)
  (hsw:swapsWith (.Call (.Name x p) (e::es) [] cp) (some<|.Name y yp) ep.line X.env=pure false) (hsw2:swapsWith (.Call (.Name gx gp) [.Name n np2] [] gcp) (some<|.Name z zp) zep.line X.env=pure false)
  (hf:X.fn y=true\/X.env.scope.names.lookup y=some .local) (hfn:X.fn n=true\/X.env.scope.names.lookup n=some .local) (hfz:X.fn z=true\/X.env.scope.names.lookup z=some .local):
  DS X B (.Try [.Assign [.Name y yp] (.Call (.Name x p) (e::es) [] cp) ep] [.ExceptHandler (some<|.Name cx np) (some n) [.Assign [.Name z zp] (.Call (.Name gx gp) [.Name n np2] [] gcp) zep] hpos] [] [] pos) (mF C T m t i j l Tk):=
 A0 hst hfL hex F hr hg h.m h.k h.b ha ES hgC hmC G hr2 hgg h2.m h2.k h2.b hN hi hy hj hn hl hz hdb hdC hdg hdn hcn he hpl hsw hsw2 hf hfn hfz
end
section
variable {P:Program}{w:World}{K:JF}{mg:Str->Option Value}{base:Heap}{k:Nat}{f C:Addr}{fd:FuncData}{N ps:List Str}{S:Addr->Sd}{T:Addr->DX->ar}{x qual:Str}{st:Stmt}
abbrev Hz(P:Program)(w:World)(mg:Str->Option Value)(base:Heap)(_:Fun K x qual st f fd)(_:Binds K fd ps [])(k:Nat)(C:Addr)(S:Addr->Sd):Prop:=FnOkN P w K mg base (lg P w) k f fd ps (fi K C S)
theorem huN{A:Around}(r:RoomN k A):A.units+1<cLine:=by have:=r.units;lia
theorem fnSE(hS:S=λea=>aP N (T ea))(F:Fun K x qual st f fd)(b:Binds K fd ps [])(sc:FnScope N ps (aQ st))(hps:ps.length=1)
  (hb:FnScope N ps (aQ st)->∀(ea:Addr) (cdv:Value) (A:Around) (outer:List Env) (s:Shared) (H:Hp) (E:XK) (B:Bd) (EE:DX),RoomN k (A.deeper<|Mm qual (aQ st) s.heap.objs.size f cdv)->y1 K B EE E->(∀M' H',B.p M' H'->ExcH H' C ea)->
   y3 (m7 (lg P w) P w K mg base N qual (aQ st) f cdv A outer s H E) B (cm st) (T ea EE)):Hz P w mg base F b (k+1) C S:=by
 subst hS;exact fnE F sc hps (hb sc)
end
end L3
namespace Tw
open PySem L2 L3
def dG(i:Nat):Stmt:=PySem.Challenge.pw_twinstride_k81_woven_plans.main.body.getD i (.Pass ⟨0,0,0,0⟩)
abbrev Dt:Stmt:=dG 21
abbrev Do:Stmt:=dG 22
abbrev DM:Stmt:=dG 23
abbrev Eo:Stmt:=dG 24
abbrev Dv:Stmt:=dG 25
abbrev DY:Stmt:=dG 26
abbrev Ej:Stmt:=dG 27
abbrev E4:Stmt:=dG 28
abbrev Ed:Stmt:=dG 29
abbrev Jd:Stmt:=De (dG 32) 0
abbrev Dg:Stmt:=dG 33
abbrev HA:Stmt:=dG 34
abbrev DH:Stmt:=dG 35
abbrev HE:Stmt:=dG 36
abbrev H_:Stmt:=dG 37
abbrev El:Stmt:=dG 38
abbrev Dq:Stmt:=dG 39
abbrev DJ:Stmt:=dG 40
abbrev Dj:Stmt:=dG 41
abbrev II:Stmt:=dG 43
abbrev E7:Stmt:=dG 44
abbrev DR:Stmt:=dG 45
abbrev Dp:Stmt:=dG 46
abbrev Ds:Stmt:=dG 47
abbrev Er:Stmt:=dG 48
abbrev Dn:Stmt:=dG 49
abbrev Dy:Stmt:=dG 50
abbrev IL:Stmt:=dG 51
abbrev Jm:Stmt:=dG 52
abbrev DV:Stmt:=dG 53
abbrev Iz:Stmt:=dG 54
abbrev Dw:Stmt:=dG 55
abbrev E8:Stmt:=dG 56
abbrev HJ:Stmt:=dG 57
abbrev DP:Stmt:=dG 58
abbrev Es:Stmt:=dG 59
abbrev Dk:Stmt:=dG 60
abbrev Ex:Stmt:=dG 61
abbrev Jf:Stmt:=dG 62
abbrev il:Stmt:=dG 63
set_option genInjectivity false in
structure Ad where
 C_Weave:Addr
 C_Dry:Addr
 C_NoBuild:Addr
 C_NoCase:Addr
 C_NoLine:Addr
 C_NoMoment:Addr
 C_NoPlace:Addr
 C_NoRow:Addr
 C_NoText:Addr
 C_StrideError:Addr
 C_TooBig:Addr
 C_TooMany:Addr
 (a1 a2 a3 a4 a5 a6 a7 a8 a9 a10 a11 a12 a13 a14 a15 a16 a17 a18 a19 a20 a21 a22 a23 a24 a25 a26 a27 a28 a29 a30 a31 a32 a33 a34 a35 a36 a37 a38 a39 a40:Addr)
 (d1 d2 d3 d4 d5 d6 d7 d8 d9 d10 d11 d12 d13 d14 d15 d16 d17 d18 d19 d20 d21 d22 d23 d24 d25 d26 d27 d28 d29 d30 d31 d32 d33 d34 d35 d36 d37 d38 d39 d40:FuncData)
 PF:Addr
def aL:List (Str×D):=[("put",.mt [.str "name",.str "number"]),("take",.mt [.str "name",.str "piece"]),("pick",.mt [.str "name",.str "name"]),("sum",.mt [.str "name",.str "name",.str "name"]),("by",.mt [.str "name",.str "name",.str "name"]),("less",.mt [.str "name",.str "name",.str "name"]),("same",.mt [.str "name",.str "name",.str "name"]),("if",.mt [.str "name",.str "rows",.str "rows"]),("again",.mt [.str "name",.str "rows"])]
def uF(ad:Ad)(EE:DX):ar:=
 (ax<|br lC<|aa (aj<|aN (Fs<|ac 0) ["sign"] [] (af 0) cF<|dg AE AE (dC<|.str "a") (ac 0)<|dC<|.str "z") ae)
def sU(ad:Ad)(EE:DX):ar:=
 (ak (aE (iT (di<|bR<|br bU<|aa (ac 0)<|aa (dC<|.ty "str") ae)<|di<|ao<|dg Al Al (dC<|.int 1) (br cq<|aa (ac 0) ae)<|dC<|.int 8) (ax<|dC<|.bl false) aC)
  (uF ad EE))
def sK(ad:Ad):Sd:=aP ["thing"] (sU ad)
theorem IT{ad:Ad}{n:Nat}{x0:D}{M:Mem}{Q:DK}{E:DX}:sK ad [x0] M Q E=sU ad (aJ E) { nx:=λ_ M'=>drp Q .non M',rt:=drp Q } [some x0] M:=rfl
def uE(ad:Ad)(EE:DX):ar:=
 (ax<|eD (br lC<|aa (aj<|aN (cL<|ac 0) ["part"] [] (af 0) cF<|aj<|ai (sK ad) qw 1<|aa (ac 0) ae) ae)<|al cH (sS<|aa (ac 0) ae)<|br cq<|aa (ac 0) ae)
def uL(ad:Ad)(EE:DX):ar:=
 (ak (aE (iT (di<|bR<|br bU<|aa (ac 0)<|aa (dC<|.ty "tuple") ae)<|di<|ao<|dg Al Al (dC<|.int 1) (br cq<|aa (ac 0) ae)<|dC<|.int 12) (ax<|dC<|.bl false) aC)
  (uE ad EE))
def wr(ad:Ad):Sd:=aP ["thing"] (uL ad)
theorem Jp{ad:Ad}{n:Nat}{x0:D}{M:Mem}{Q:DK}{E:DX}:wr ad [x0] M Q E=uL ad (aJ E) { nx:=λ_ M'=>drp Q .non M',rt:=drp Q } [some x0] M:=rfl
def kG(ad:Ad)(EE:DX):ar:=
 (ax<|eD (br bU<|aa (ac 1)<|aa (dC<|.ty "str") ae)<|al qy (ac 1)<|al aD (ac 0)<|dC<|.int 1)
def p_(ad:Ad):Sd:=aP ["plan","thing"] (kG ad)
theorem vo{ad:Ad}{n:Nat}{x0 x1:D}{M:Mem}{Q:DK}{E:DX}:p_ ad [x0,x1] M Q E=kG ad (aJ E) { nx:=λ_ M'=>drp Q .non M',rt:=drp Q } [some x0,some x1] M:=rfl
def vb(ad:Ad)(EE:DX):ar:=
 (ak (aE (iT (di<|bR<|br bU<|aa (ac 0)<|aa (dC<|.ty "int") ae)<|bR<|br bU<|aa (ac 0)<|aa (dC<|.ty "bool") ae) (ax<|dC<|.bl false) aC)
  (ax<|dg Al Al (ac 1) (ac 0)<|ac 2))
def jZ(ad:Ad):Sd:=aP ["thing","least","most"] (vb ad)
theorem IQ{ad:Ad}{n:Nat}{x0 x1 x2:D}{M:Mem}{Q:DK}{E:DX}:jZ ad [x0,x1,x2] M Q E=vb ad (aJ E) { nx:=λ_ M'=>drp Q .non M',rt:=drp Q } [some x0,some x1,some x2] M:=rfl
def tN(ad:Ad)(EE:DX):ar:=
 (ax<|ai (p_ ad) EE 2<|aa (ac 0)<|aa (ac 2) ae)
def tQ(ad:Ad)(EE:DX):ar:=
 (ax<|ai (jZ ad) EE 3<|aa (ac 2)<|aa (dC<|.int 0)<|aa (al gP (al aD (ac 0)<|dC<|.int 0)<|dC<|.int 1) ae)
def tY(ad:Ad)(EE:DX):ar:=
 (ax<|ai (jZ ad) EE 3<|aa (ac 2)<|aa (dC<|.int 0)<|aa (al gP (al aD (ac 0)<|dC<|.int 2)<|dC<|.int 1) ae)
def sL(ad:Ad)(EE:DX):ar:=
 (ak (aE (ao<|al cH (ac 1)<|dC<|.str "piece") (tY ad EE) aC)
  (ax<|dC<|.bl true))
def uQ(ad:Ad)(EE:DX):ar:=
 (ak (aE (ao<|al cH (ac 1)<|dC<|.str "number") (tQ ad EE) aC)
  (sL ad EE))
def kP(ad:Ad)(EE:DX):ar:=
 (ak (aE (ao<|al cH (ac 1)<|dC<|.str "name") (tN ad EE) aC)
  (uQ ad EE))
def fI(ad:Ad):Sd:=aP ["plan","kind","thing"] (kP ad)
theorem uC{ad:Ad}{n:Nat}{x0 x1 x2:D}{M:Mem}{Q:DK}{E:DX}:fI ad [x0,x1,x2] M Q E=kP ad (aJ E) { nx:=λ_ M'=>drp Q .non M',rt:=drp Q } [some x0,some x1,some x2] M:=rfl
def ud(ad:Ad)(EE:DX):ar:=
 (ax<|br lC<|aa (aj<|aN (Gh<|aa (al (xL aL ad.PF) (dC<|.ref ad.PF)<|ac 3)<|aa (aj<|d_ (ac 1) (ba<|dC<|.int 1) aB) ae) ["kind","part"] [0] (bX 2<|aK (af 0)<|aK (af 1) bY) cF<|aj<|ai (fI ad) qw 3<|aa (ac 2)<|aa (ac 0)<|aa (ac 1) ae) ae)
def uT(ad:Ad)(EE:DX):ar:=
 (ak (aE (h9 (ao<|al qy (dC<|.str "rows")<|al (xL aL ad.PF) (dC<|.ref ad.PF)<|ac 3)<|ao<|al cH (ac 2)<|dC<|.int 4) (ax<|dC<|.bl false) aC)
  (ud ad EE))
def v_(ad:Ad)(EE:DX):ar:=
 (ak (aE (h9 (ao<|al cH (ac 3)<|dC<|.str "pick")<|ao<|al cH (al aD (ac 0)<|dC<|.int 2)<|dC<|.int 0) (ax<|dC<|.bl false) aC)
  (uT ad EE))
def tm(ad:Ad)(EE:DX):ar:=
 (ak (aE (iT (ao<|al (iO aL ad.PF) (ac 3)<|dC<|.ref ad.PF)<|ao<|al gK (br cq<|aa (ac 1) ae)<|al aF (br cq<|aa (al (xL aL ad.PF) (dC<|.ref ad.PF)<|ac 3) ae)<|dC<|.int 1) (ax<|dC<|.bl false) aC)
  (v_ ad EE))
def wp(ad:Ad)(EE:DX):ar:=
 (ak (ap (al aD (ac 1)<|dC<|.int 0)<|af 3)
  (tm ad EE))
def cW(ad:Ad)(EE:DX):ar:=
 (ak (aE (iT (di<|bR<|br bU<|aa (ac 1)<|aa (dC<|.ty "tuple") ae)<|iT (ao<|al cH (br cq<|aa (ac 1) ae)<|dC<|.int 0)<|di<|bR<|br bU<|aa (al aD (ac 1)<|dC<|.int 0)<|aa (dC<|.ty "str") ae) (ax<|dC<|.bl false) aC)
  (wp ad EE))
def mi(ad:Ad):Sd:=aP ["plan","thing","depth","word"] (cW ad)
theorem eB{ad:Ad}{n:Nat}{x0 x1 x2:D}{M:Mem}{Q:DK}{E:DX}:mi ad [x0,x1,x2] M Q E=cW ad (aJ E) { nx:=λ_ M'=>drp Q .non M',rt:=drp Q } [some x0,some x1,some x2,none] M:=rfl
def ju(ad:Ad)(EE:DX):ar:=
 (ax<|aX<|aa (al aD (ac 0)<|dC<|.int 2)<|aa (al aD (ac 0)<|dC<|.int 3) ae)
def mo(ad:Ad)(EE:DX):ar:=
 (ak (aE (ao<|al cH (al aD (ac 0)<|dC<|.int 0)<|dC<|.str "again") (ax<|aX<|aa (al aD (ac 0)<|dC<|.int 2) ae) aC)
  (ax<|aX ae))
def io(ad:Ad)(EE:DX):ar:=
 (ak (aE (ao<|al cH (al aD (ac 0)<|dC<|.int 0)<|dC<|.str "if") (ju ad EE) aC)
  (mo ad EE))
def dA(ad:Ad):Sd:=aP ["row"] (io ad)
theorem ph{ad:Ad}{n:Nat}{x0:D}{M:Mem}{Q:DK}{E:DX}:dA ad [x0] M Q E=io ad (aJ E) { nx:=λ_ M'=>drp Q .non M',rt:=drp Q } [some x0] M:=rfl
def vc(ad:Ad)(EE:DX):ar:=
 (bD<|eE "list" cC (ac 2)<|aa (aj<|aN (cL<|aj<|ai (dA ad) EE 1<|aa (ac 6) ae) ["part"] [5] (af 0) cF<|av<|aa (ac 0)<|aa (al aF (ac 1)<|dC<|.int 1) ae) ae)
def sZ(ad:Ad)(EE:DX):ar:=
 (ak (aE (di<|bR<|br lC<|aa (aj<|aN (cL<|ac 4) ["row"] [0,5] (af 0) cF<|aj<|ai (mi ad) qw 3<|aa (ac 1)<|aa (ac 0)<|aa (ac 2) ae) ae) (ax<|dC<|.bl false) aC)
   (bW (cL<|ac 4) (af 6)<|vc ad EE))
def tG(ad:Ad)(EE:DX):ar:=
 (ak (aE (ao<|al zV (ac 1)<|dC<|.int 60) (ax<|dC<|.bl false) aC)
   (sZ ad EE))
def u_(ad:Ad)(EE:DX):ar:=
 (ak (zW 1 (br cq<|aa (ac 4) ae) yX)
   (tG ad EE))
def we(ad:Ad)(EE:DX):ar:=
 (ak (aE (di<|bR<|br bU<|aa (ac 4)<|aa (dC<|.ty "tuple") ae) (ax<|dC<|.bl false) aC)
   (u_ ad EE))
def sM(ad:Ad)(EE:DX):ar:=
 (ak (ap (al aD (ac 3)<|dC<|.int 1)<|af 5)
   (we ad EE))
def ua(ad:Ad)(EE:DX):ar:=
 (ak (ap (al aD (ac 3)<|dC<|.int 0)<|af 4)
   (sM ad EE))
def uv(ad:Ad)(EE:DX):ar:=
 (ak (ap (eE "list" yG (ac 2) ae)<|af 3)
   (ua ad EE))
def tM(ad:Ad)(EE:DX):ar:=
 (ak (nX (bR<|ac 2)<|uv ad EE)
  (ax<|dC<|.bl true))
def pD(ad:Ad)(EE:DX):ar:=
 (ak (ap (aX<|aa (av<|aa (al aD (ac 0)<|dC<|.int 3)<|aa (dC<|.int 0) ae) ae)<|af 2)
  (tM ad EE))
def uz(ad:Ad)(EE:DX):ar:=
 (ak (ap (dC<|.int 0)<|af 1)
  (pD ad EE))
def tz(ad:Ad):Sd:=aP ["plan","count","waiting","rows_and_depth","rows","depth","row"] (uz ad)
theorem HU{ad:Ad}{n:Nat}{x0:D}{M:Mem}{Q:DK}{E:DX}:tz ad [x0] M Q E=uz ad (aJ E) { nx:=λ_ M'=>drp Q .non M',rt:=drp Q } [some x0,none,none,none,none,none,none] M:=rfl
def tF(ad:Ad)(EE:DX):ar:=
 (ax<|eD (aj<|ai (wr ad) EE 1<|aa (al aD (ac 0)<|dC<|.int 1) ae)<|eD (aj<|ai (p_ ad) EE 2<|aa (ac 0)<|aa (al aD (ac 0)<|dC<|.int 4) ae)<|aj<|ai (tz ad) EE 1<|aa (ac 0) ae)
def uW(ad:Ad)(EE:DX):ar:=
 (ak (aE (iT (di<|bR<|aj<|ai (jZ ad) EE 3<|aa (al aD (ac 0)<|dC<|.int 0)<|aa (dC<|.int 2)<|aa (dC<|.int 997) ae)<|di<|bR<|aj<|ai (jZ ad) EE 3<|aa (al aD (ac 0)<|dC<|.int 2)<|aa (dC<|.int 0)<|aa (dC<|.int 40) ae) (ax<|dC<|.bl false) aC)
  (tF ad EE))
def vT(ad:Ad)(EE:DX):ar:=
 (ak (aE (iT (di<|bR<|br bU<|aa (ac 0)<|aa (dC<|.ty "tuple") ae)<|ao<|al gK (br cq<|aa (ac 0) ae)<|dC<|.int 5) (ax<|dC<|.bl false) aC)
  (uW ad EE))
def lE(ad:Ad):Sd:=aP ["thing"] (vT ad)
theorem HR{ad:Ad}{n:Nat}{x0:D}{M:Mem}{Q:DK}{E:DX}:lE ad [x0] M Q E=vT ad (aJ E) { nx:=λ_ M'=>drp Q .non M',rt:=drp Q } [some x0] M:=rfl
def nc(ad:Ad)(EE:DX):ar:=
 (ak (bD<|eE "list" cC (ac 1)<|aa (aj<|aN (Fs<|dC<|.str "abcdefghijklmnopqrstuvwxyz") ["letter"] [1,2] (af 0) cF<|aj<|al aF (al aD (ac 1)<|ac 2)<|ac 0) ae)
   (zW 2 (dC<|.int 1) yX))
def jm(ad:Ad)(EE:DX):ar:=
 (ax<|al aD (aj<|aN (cL<|ac 1) ["name"] [0] (af 0) (ao<|al fJ (ac 0)<|ac 1)<|ac 0)<|dC<|.int 0)
def iZ(ad:Ad)(EE:DX):ar:=
 (ak (nX (bR<|br lC<|aa (aj<|aN (cL<|ac 1) ["name"] [0] (af 0) cF<|al qy (ac 0)<|ac 1) ae)<|nc ad EE)
  (jm ad EE))
def vn(ad:Ad)(EE:DX):ar:=
 (ak (ap (br mS<|aa (dC<|.str "abcdefghijklmnopqrstuvwxyz") ae)<|af 1)
  (ak (ap (dC<|.int 0)<|af 2)
  (iZ ad EE)))
def tX(ad:Ad):Sd:=aP ["names","told","at"] (vn ad)
theorem J6{ad:Ad}{n:Nat}{x0:D}{M:Mem}{Q:DK}{E:DX}:tX ad [x0] M Q E=vn ad (aJ E) { nx:=λ_ M'=>drp Q .non M',rt:=drp Q } [some x0,none,none] M:=rfl
def sW(ad:Ad)(EE:DX):ar:=
 (ax<|zN (ao<|al cH (al aD (ac 0)<|dC<|.int 0)<|dC<|.str "if") (aX<|aa (dC<|.int 1)<|aa (dC<|.int 0) ae)<|aX<|aa (dC<|.int 0) ae)
def pN(ad:Ad):Sd:=aP ["row"] (sW ad)
theorem Hy{ad:Ad}{n:Nat}{x0:D}{M:Mem}{Q:DK}{E:DX}:pN ad [x0] M Q E=sW ad (aJ E) { nx:=λ_ M'=>drp Q .non M',rt:=drp Q } [some x0] M:=rfl
def nI(ad:Ad)(EE:DX):ar:=
 (aE (h9 (iT (bR<|aj<|ai (dA ad) EE 1<|aa (ac 0) ae)<|bR<|aj<|ai (dA ad) EE 1<|aa (ac 1) ae)<|ao<|al gK (aj<|d_ (ac 0) aB<|ba<|dC<|.int 2)<|aj<|d_ (ac 1) aB<|ba<|dC<|.int 2) (eV ad.C_NoBuild EE) aC)
def C1(ad:Ad)(EE:DX):ar:=
 (ak (aE (iT (ao<|al cH (al aD (ac 0)<|dC<|.int 0)<|dC<|.str "pick")<|ao<|al cH (al aD (ac 1)<|dC<|.int 0)<|dC<|.str "pick") (eV ad.C_NoBuild EE) aC)
  (nI ad EE))
def Cc(ad:Ad):Sd:=aP ["row","other"] (C1 ad)
theorem u_q0{ad:Ad}{n:Nat}{x0 x1:D}{M:Mem}{Q:DK}{E:DX}:Cc ad [x0,x1] M Q E=C1 ad (aJ E) { nx:=λ_ M'=>drp Q .non M',rt:=drp Q } [some x0,some x1] M:=rfl
def iX(ad:Ad)(Pz PH:Sd)(EE:DX):ar:=
 (bD<|eE "list" cC (ac 3)<|aa (aj<|ai PH EE 3<|aa (ac 5)<|aa (al aD (ac 1)<|ac 4)<|aa (al aF (ac 2)<|av<|aa (ac 4) ae) ae) ae)
def j7(ad:Ad)(Pz PH:Sd)(EE:DX):ar:=
 (bD<|eE "list" bo (ac 3)<|aa (av<|aa (al aF (ac 2)<|av<|aa (ac 4) ae)<|aa (ac 5)<|aa (al aD (ac 1)<|ac 4) ae) ae)
def iY(ad:Ad)(Pz PH:Sd)(EE:DX):ar:=
 (aE (bR<|aj<|ai (dA ad) EE 1<|aa (ac 5) ae) (iX ad Pz PH EE)<|j7 ad Pz PH EE)
def jA(ad:Ad)(Pz PH:Sd)(EE:DX):ar:=
 (ak (bD<|ai (Cc ad) EE 2<|aa (ac 5)<|aa (al aD (ac 1)<|ac 4) ae)
   (iY ad Pz PH EE))
def j5(ad:Ad)(Pz PH:Sd)(EE:DX):ar:=
 (ak (bW (eJ<|aa (ac 0) ae) (bX 2<|aK (af 4)<|aK (af 5) bY)<|jA ad Pz PH EE)
  (ax<|ac 3))
def vp(ad:Ad)(Pz PH:Sd)(EE:DX):ar:=
 (ak (aE (ao<|al gK (br cq<|aa (ac 0) ae)<|br cq<|aa (ac 1) ae) (eV ad.C_NoBuild EE) aC)
  (ak (ap (aX ae)<|af 3)
  (j5 ad Pz PH EE)))
def l0(ad:Ad)(Pz PH:Sd)(EE:DX):ar:=
 (bD<|eE "list" cC (ac 3)<|aa (aj<|ai Pz EE 3<|aa (ac 5)<|aa (ac 6)<|aa (al aF (ac 2)<|av<|aa (ac 4) ae) ae) ae)
def qL(ad:Ad)(Pz PH:Sd)(EE:DX):ar:=
 (ak (bW (pe<|aa (aj<|ai (pN ad) EE 1<|aa (ac 0) ae)<|aa (aj<|ai (dA ad) EE 1<|aa (ac 0) ae)<|aa (aj<|ai (dA ad) EE 1<|aa (ac 1) ae) ae) (bX 3<|aK (af 4)<|aK (af 5)<|aK (af 6) bY)<|l0 ad Pz PH EE)
  (ax<|ac 3))
def Dd(ad:Ad)(Pz PH:Sd)(EE:DX):ar:=
 (ak (ap (aX ae)<|af 3)
  (qL ad Pz PH EE))
mutual
def Pz(ad:Ad):Nat->Sd
 |0=>λ_ _ _ _=>False
 |n+1=>aP ["rows","others","place","told","j","row"] (vp ad (Pz ad n)<|PH ad n)
def PH(ad:Ad):Nat->Sd
 |0=>λ_ _ _ _=>False
 |n+1=>aP ["row","other","place","told","branch","rows","others"] (Dd ad (Pz ad n)<|PH ad n)
end
theorem Jh{ad:Ad}{n:Nat}{x0 x1 x2:D}{M:Mem}{Q:DK}{E:DX}:Pz ad (n+1) [x0,x1,x2] M Q E=vp ad (Pz ad n) (PH ad n) (aJ E) { nx:=λ_ M'=>drp Q .non M',rt:=drp Q } [some x0,some x1,some x2,none,none,none] M:=rfl
theorem u_q5{ad:Ad}{n:Nat}{x0 x1 x2:D}{M:Mem}{Q:DK}{E:DX}:PH ad (n+1) [x0,x1,x2] M Q E=Dd ad (Pz ad n) (PH ad n) (aJ E) { nx:=λ_ M'=>drp Q .non M',rt:=drp Q } [some x0,some x1,some x2,none,none,none,none] M:=rfl
def mJ(ad:Ad)(EE:DX):ar:=
 (ax<|br dD<|aa (aj<|aN (cL<|ac 2) ["place","row","beside"] [] (bX 3<|aK (af 0)<|aK (af 1)<|aK (af 2) bY) (ao<|al gK (ac 1)<|ac 2)<|ac 0) ae)
def su(ad:Ad)(EE:DX):ar:=
 (ak (ap (aj<|ai (Pz ad 24) EE 3<|aa (al aD (ac 0)<|dC<|.int 3)<|aa (al aD (ac 1)<|dC<|.int 3)<|aa (av ae) ae)<|af 2)
  (mJ ad EE))
def AA(ad:Ad)(EE:DX):ar:=
 (ak (aE (iT (ao<|al gK (aj<|d_ (ac 0) aB<|ba<|dC<|.int 3)<|aj<|d_ (ac 1) aB<|ba<|dC<|.int 3)<|ao<|al gK (al aD (ac 0)<|dC<|.int 4)<|al aD (ac 1)<|dC<|.int 4) (eV ad.C_NoBuild EE) aC)
  (su ad EE))
def BZ(ad:Ad):Sd:=aP ["one","other","pairs"] (AA ad)
theorem u_q8{ad:Ad}{n:Nat}{x0 x1:D}{M:Mem}{Q:DK}{E:DX}:BZ ad [x0,x1] M Q E=AA ad (aJ E) { nx:=λ_ M'=>drp Q .non M',rt:=drp Q } [some x0,some x1,none] M:=rfl
def nz(ad:Ad)(EE:DX):ar:=
 (qd ad.C_Weave (ac 0) (br mE<|aa (aj<|aN (eJ<|aa (aj<|ai (BZ ad) EE 2<|aa (ac 1)<|aa (ac 2) ae) ae) ["i","place"] [1] (bX 2<|aK (af 0)<|aK (af 1) bY) cF<|av<|aa (ac 1)<|aa (aj<|al aF (al aD (ac 2)<|dC<|.int 2)<|ac 0) ae) ae) "pieces")
def Ch(ad:Ad)(EE:DX):ar:=
 (ak (qd ad.C_Weave (ac 0) (aj<|ai (tX ad) EE 1<|aa (al aD (ac 1)<|dC<|.int 1) ae) "name")
  (nz ad EE))
def CJ(ad:Ad):Sd:=aP ["self","one","other"] (Ch ad)
theorem u_q3{ad:Ad}{n:Nat}{x0 x1 x2:D}{M:Mem}{Q:DK}{E:DX}:CJ ad [x0,x1,x2] M Q E=Ch ad (aJ E) { nx:=λ_ M'=>drp Q .non M',rt:=drp Q } [some x0,some x1,some x2] M:=rfl
def jg(ad:Ad)(PB PC:Sd)(EE:DX):ar:=
 (bD<|eE "list" cC (ac 4)<|aa (aj<|ai PC EE 4<|aa (ac 0)<|aa (ac 6)<|aa (al aD (ac 2)<|ac 5)<|aa (al aF (ac 3)<|av<|aa (ac 5) ae) ae) ae)
def ou(ad:Ad)(PB PC:Sd)(EE:DX):ar:=
 (ak (bW (eJ<|aa (ac 1) ae) (bX 2<|aK (af 5)<|aK (af 6) bY)<|jg ad PB PC EE)
  (ax<|br bV<|aa (ac 4) ae))
def tj(ad:Ad)(PB PC:Sd)(EE:DX):ar:=
 (ak (ap (aX ae)<|af 4)
  (ou ad PB PC EE))
def iK(ad:Ad)(PB PC:Sd)(EE:DX):ar:=
 (ax<|aX<|aa (av<|aa (dC<|.str "take")<|aa (lw ad.C_Weave (ac 0) "name")<|aa (al aD (lw ad.C_Weave (ac 0) "pieces")<|ac 3) ae)<|aa (av<|aa (dC<|.str "if")<|aa (lw ad.C_Weave (ac 0) "name")<|aa (av<|aa (ac 2) ae)<|aa (av<|aa (ac 1) ae) ae) ae)
def g9(ad:Ad)(PB PC:Sd)(EE:DX):ar:=
 (bD<|eE "list" bo (ac 4)<|aa (aj<|ai PB EE 4<|aa (ac 0)<|aa (ac 6)<|aa (ac 7)<|aa (al aF (ac 3)<|av<|aa (ac 5) ae) ae) ae)
def f_(ad:Ad)(PB PC:Sd)(EE:DX):ar:=
 (ax<|zN (bR<|ac 4) (aX<|aa (al aF (aj<|d_ (ac 1) aB<|ba<|dC<|.int 2)<|br bV<|aa (ac 4) ae) ae)<|aX<|aa (ac 1) ae)
def jc(ad:Ad)(PB PC:Sd)(EE:DX):ar:=
 (ak (bW (pe<|aa (aj<|ai (pN ad) EE 1<|aa (ac 1) ae)<|aa (aj<|ai (dA ad) EE 1<|aa (ac 1) ae)<|aa (aj<|ai (dA ad) EE 1<|aa (ac 2) ae) ae) (bX 3<|aK (af 5)<|aK (af 6)<|aK (af 7) bY)<|g9 ad PB PC EE)
  (f_ ad PB PC EE))
def uB(ad:Ad)(PB PC:Sd)(EE:DX):ar:=
 (ak (aE (ao<|al qy (ac 3)<|lw ad.C_Weave (ac 0) "pieces") (iK ad PB PC EE) aC)
  (ak (ap (aX ae)<|af 4)
  (jc ad PB PC EE)))
mutual
def PB(ad:Ad):Nat->Sd
 |0=>λ_ _ _ _=>False
 |n+1=>aP ["weave","rows","others","place","told","j","row"] (tj ad (PB ad n)<|PC ad n)
def PC(ad:Ad):Nat->Sd
 |0=>λ_ _ _ _=>False
 |n+1=>aP ["weave","row","other","place","within","branch","rows","others"] (uB ad (PB ad n)<|PC ad n)
end
theorem Ik{ad:Ad}{n:Nat}{x0 x1 x2 x3:D}{M:Mem}{Q:DK}{E:DX}:PB ad (n+1) [x0,x1,x2,x3] M Q E=tj ad (PB ad n) (PC ad n) (aJ E) { nx:=λ_ M'=>drp Q .non M',rt:=drp Q } [some x0,some x1,some x2,some x3,none,none,none] M:=rfl
theorem Jn{ad:Ad}{n:Nat}{x0 x1 x2 x3:D}{M:Mem}{Q:DK}{E:DX}:PC ad (n+1) [x0,x1,x2,x3] M Q E=uB ad (PB ad n) (PC ad n) (aJ E) { nx:=λ_ M'=>drp Q .non M',rt:=drp Q } [some x0,some x1,some x2,some x3,none,none,none,none] M:=rfl
def iR(ad:Ad)(EE:DX):ar:=
 (ak (aE (di<|bR<|aj<|ai (lE ad) EE 1<|aa (ac 4) ae) (eV ad.C_TooBig EE) aC)
  (ax<|ac 4))
def jb(ad:Ad)(EE:DX):ar:=
 (ak (ap (av<|aa (al aD (ac 0)<|dC<|.int 0)<|aa (al aF (al aD (ac 0)<|dC<|.int 1)<|av<|aa (lw ad.C_Weave (ac 2) "name") ae)<|aa (aj<|al aF (al aD (ac 0)<|dC<|.int 2)<|br s_<|aa (lw ad.C_Weave (ac 2) "pieces") ae)<|aa (ac 3)<|aa (al aD (ac 0)<|dC<|.int 4) ae)<|af 4)
  (iR ad EE))
def iQ(ad:Ad)(EE:DX):ar:=
 (ak (ap (aj<|ai (PB ad 24) EE 4<|aa (ac 2)<|aa (al aD (ac 0)<|dC<|.int 3)<|aa (al aD (ac 1)<|dC<|.int 3)<|aa (av ae) ae)<|af 3)
  (jb ad EE))
def vj(ad:Ad)(EE:DX):ar:=
 (ak (ap (t7 ad.C_Weave (CJ ad) EE 3<|aa (ac 0)<|aa (ac 1) ae)<|af 2)
  (iQ ad EE))
def sG(ad:Ad):Sd:=aP ["one","other","weave","rows","plan"] (vj ad)
theorem J0{ad:Ad}{n:Nat}{x0 x1:D}{M:Mem}{Q:DK}{E:DX}:sG ad [x0,x1] M Q E=vj ad (aJ E) { nx:=λ_ M'=>drp Q .non M',rt:=drp Q } [some x0,some x1,none,none,none] M:=rfl
def Ab(ad:Ad)(EE:DX):ar:=
 (ak (ap (al iD (al gT (al HN (ac 2)<|al lL (ac 2)<|dC<|.int 2147483648)<|dC<|.int 2685821657736338717)<|dC<|.int 18446744073709551616)<|af 2)
  (ax<|al lL (ac 2)<|dC<|.int 1048576))
def BC(ad:Ad)(EE:DX):ar:=
 (ak (ap (al iD (al aF (al aF (al gT (ac 0)<|dC<|.int 6364136223846793005)<|al gT (ac 1)<|dC<|.int 1442695040888963407)<|dC<|.int 97)<|dC<|.int 18446744073709551616)<|af 2)
  (Ab ad EE))
def qE(ad:Ad):Sd:=aP ["cell","turn","one"] (BC ad)
theorem u_q7{ad:Ad}{n:Nat}{x0 x1:D}{M:Mem}{Q:DK}{E:DX}:qE ad [x0,x1] M Q E=BC ad (aJ E) { nx:=λ_ M'=>drp Q .non M',rt:=drp Q } [some x0,some x1,none] M:=rfl
def tq(ad:Ad)(EE:DX):ar:=
 (ap (al iD (al aF (al gT (ac 1)<|dC<|.int 1000003)<|ac 2)<|dC<|.int 18446744073709551616)<|af 1)
def uP(ad:Ad)(EE:DX):ar:=
 (ax<|aX<|aa (br Ag<|aa (aj<|d_ (ac 0) aB<|ba<|dC<|.int 63) ae)<|aa (dC<|.int 0)<|aa (dC<|.int 0)<|aa (ac 1) ae)
def vS(ad:Ad)(EE:DX):ar:=
 (ak (bW (cL<|aj<|d_ (ac 0) aB<|ba<|dC<|.int 63) (af 2)<|tq ad EE)
  (uP ad EE))
def ur(ad:Ad)(EE:DX):ar:=
 (ak (ap (dC<|.int 7)<|af 1)
  (vS ad EE))
def vX(ad:Ad):Sd:=aP ["script","seed","cell"] (ur ad)
theorem HM{ad:Ad}{n:Nat}{x0:D}{M:Mem}{Q:DK}{E:DX}:vX ad [x0] M Q E=ur ad (aJ E) { nx:=λ_ M'=>drp Q .non M',rt:=drp Q } [some x0,none,none] M:=rfl
def uh(ad:Ad)(EE:DX):ar:=
 (ax<|al iD (aj<|ai (qE ad) EE 2<|aa (ac 2)<|aa (al aD (ac 0)<|dC<|.int 1) ae)<|ac 1)
def vB(ad:Ad)(EE:DX):ar:=
 (ak (aE (ao<|al DC (ac 2)<|al Fx (dC<|.int 10)<|dC<|.int 18) (uh ad EE) aC)
   (ap (ac 2)<|iF (ac 0)<|dC<|.int 2))
def wn(ad:Ad)(EE:DX):ar:=
 (ak (ap (eE "list" yG (al aD (ac 0)<|dC<|.int 0)<|aa (dC<|.int 0) ae)<|af 2)
   (vB ad EE))
def uH(ad:Ad)(EE:DX):ar:=
 (ax<|al iD (aj<|ai (qE ad) EE 2<|aa (al aD (ac 0)<|dC<|.int 3)<|aa (al aD (ac 0)<|dC<|.int 1) ae)<|ac 1)
def vJ(ad:Ad)(EE:DX):ar:=
 (ak (ap (al lL (al aD (ac 0)<|dC<|.int 2)<|ac 1)<|iF (ac 0)<|dC<|.int 2)
  (ax<|ac 3))
def sR(ad:Ad)(EE:DX):ar:=
 (ak (ap (al iD (al aD (ac 0)<|dC<|.int 2)<|ac 1)<|af 3)
  (vJ ad EE))
def wg(ad:Ad)(EE:DX):ar:=
 (ak (aE (ao<|al cH (al aD (ac 0)<|dC<|.int 2)<|dC<|.int 0) (uH ad EE) aC)
  (sR ad EE))
def uc(ad:Ad)(EE:DX):ar:=
 (ak (aE (h9 (ao<|al cH (al aD (ac 0)<|dC<|.int 2)<|dC<|.int 0)<|ao<|al gK (al aD (ac 0)<|dC<|.int 0)<|aj<|aX ae) (wn ad EE) aC)
  (wg ad EE))
def vC(ad:Ad)(EE:DX):ar:=
 (ak (ap (al aF (al aD (ac 0)<|dC<|.int 1)<|dC<|.int 1)<|iF (ac 0)<|dC<|.int 1)
  (uc ad EE))
def aW(ad:Ad):Sd:=aP ["pot","many","cell","found"] (vC ad)
theorem IW{ad:Ad}{n:Nat}{x0 x1:D}{M:Mem}{Q:DK}{E:DX}:aW ad [x0,x1] M Q E=vC ad (aJ E) { nx:=λ_ M'=>drp Q .non M',rt:=drp Q } [some x0,some x1,none,none] M:=rfl
def tD(ad:Ad)(EE:DX):ar:=
 (bD<|eE "list" bo (ac 3)<|aa (al gT (ac 5)<|al aF (dC<|.int 1)<|aj<|ai (aW ad) EE 2<|aa (ac 0)<|aa (dC<|.int 8) ae) ae)
def vM(ad:Ad)(EE:DX):ar:=
 (ak (ap (al aD (dC<|.str "abcdefghijklmnopqrstuvwxyz")<|al iD (al aF (ac 2)<|al gT (dC<|.int 7)<|ac 4)<|dC<|.int 26)<|af 5)
   (tD ad EE))
def tO(ad:Ad)(EE:DX):ar:=
 (ak (bW (eR<|aa (ac 1) ae) (af 4)<|vM ad EE)
  (ax<|br bV<|aa (ac 3) ae))
def uR(ad:Ad)(EE:DX):ar:=
 (ak (ap (aj<|ai (aW ad) EE 2<|aa (ac 0)<|aa (dC<|.int 26) ae)<|af 2)
  (ak (ap (aX ae)<|af 3)
  (tO ad EE)))
def vE(ad:Ad):Sd:=aP ["pot","many","turn","names","k","sign"] (uR ad)
theorem Jq{ad:Ad}{n:Nat}{x0 x1:D}{M:Mem}{Q:DK}{E:DX}:vE ad [x0,x1] M Q E=uR ad (aJ E) { nx:=λ_ M'=>drp Q .non M',rt:=drp Q } [some x0,some x1,none,none,none,none] M:=rfl
def tI(ad:Ad)(EE:DX):ar:=
 (ax<|av<|aa (ac 6)<|aa (ac 7)<|aa (ai (aW ad) EE 2<|aa (ac 0)<|aa (ac 2) ae) ae)
def ut(ad:Ad)(EE:DX):ar:=
 (ax<|av<|aa (ac 6)<|aa (ac 7)<|aa (ai (aW ad) EE 2<|aa (ac 0)<|aa (ac 4) ae) ae)
def tP(ad:Ad)(EE:DX):ar:=
 (ax<|av<|aa (ac 6)<|aa (ac 7)<|aa (ac 8) ae)
def sH(ad:Ad)(EE:DX):ar:=
 (ax<|av<|aa (ac 6)<|aa (ac 7)<|aa (ac 8)<|aa (al aD (ac 3)<|aj<|ai (aW ad) EE 2<|aa (ac 0)<|aa (br cq<|aa (ac 3) ae) ae) ae)
def vf(ad:Ad)(EE:DX):ar:=
 (ak (aE (ao<|al cH (ac 6)<|dC<|.str "pick") (tP ad EE) aC)
  (sH ad EE))
def sO(ad:Ad)(EE:DX):ar:=
 (ak (ap (al aD (ac 3)<|aj<|ai (aW ad) EE 2<|aa (ac 0)<|aa (br cq<|aa (ac 3) ae) ae)<|af 8)
  (vf ad EE))
def uw(ad:Ad)(EE:DX):ar:=
 (ak (aE (ao<|al cH (ac 6)<|dC<|.str "take") (ut ad EE) aC)
  (sO ad EE))
def tW(ad:Ad)(EE:DX):ar:=
 (ak (aE (ao<|al cH (ac 6)<|dC<|.str "put") (tI ad EE) aC)
  (uw ad EE))
def wj(ad:Ad)(EE:DX):ar:=
 (ak (ap (al aD (ac 3)<|aj<|ai (aW ad) EE 2<|aa (ac 0)<|aa (br cq<|aa (ac 3) ae) ae)<|af 7)
  (tW ad EE))
def qq(ad:Ad)(EE:DX):ar:=
 (ak (ap (al aD (ac 5)<|aj<|ai (aW ad) EE 2<|aa (ac 0)<|aa (zN (ao<|al zV (ac 4)<|dC<|.int 0) (dC<|.int 9)<|dC<|.int 7) ae)<|af 6)
  (wj ad EE))
def pz(ad:Ad)(EE:DX):ar:=
 (ak (ap (aj<|aX<|aa (dC<|.str "put")<|aa (dC<|.str "sum")<|aa (dC<|.str "by")<|aa (dC<|.str "less")<|aa (dC<|.str "same")<|aa (dC<|.str "sum")<|aa (dC<|.str "put")<|aa (dC<|.str "take")<|aa (dC<|.str "pick") ae)<|af 5)
  (qq ad EE))
def sP(ad:Ad)(EE:DX):ar:=
 (ak (ap (ac 1)<|bX 3<|aK (af 2)<|aK (af 3)<|aK (af 4) bY)
  (pz ad EE))
def lV(ad:Ad):Sd:=aP ["pot","told","m","names","many","ways","way","x","y"] (sP ad)
theorem Iq{ad:Ad}{n:Nat}{x0 x1:D}{M:Mem}{Q:DK}{E:DX}:lV ad [x0,x1] M Q E=sP ad (aJ E) { nx:=λ_ M'=>drp Q .non M',rt:=drp Q } [some x0,some x1,none,none,none,none,none,none,none] M:=rfl
def uJ(ad:Ad)(Px Pw:Sd)(EE:DX):ar:=
 (ax<|aX<|aa (av<|aa (dC<|.str "if")<|aa (ac 7)<|aa (ac 8)<|aa (ai Pw EE 5<|aa (ac 0)<|aa (ac 1)<|aa (ac 2)<|aa (al aF (ac 3)<|dC<|.int 1)<|aa (dC<|.int 5) ae) ae) ae)
def tH(ad:Ad)(Px Pw:Sd)(EE:DX):ar:=
 (ax<|aX<|aa (av<|aa (dC<|.str "again")<|aa (ac 7)<|aa (ac 8) ae) ae)
def tR(ad:Ad)(Px Pw:Sd)(EE:DX):ar:=
 (ax<|aX<|aa (av<|aa (dC<|.str "put")<|aa (ac 7)<|aa (ai (aW ad) EE 2<|aa (ac 0)<|aa (br Ha<|aa (ac 4)<|aa (dC<|.int 9) ae) ae) ae)<|aa (av<|aa (dC<|.str "put")<|aa (ac 10)<|aa (al gP (ac 4)<|dC<|.int 1) ae)<|aa (av<|aa (dC<|.str "again")<|aa (ac 7)<|aa (al aF (ac 8)<|av<|aa (av<|aa (dC<|.str "sum")<|aa (ac 7)<|aa (ac 7)<|aa (ac 10) ae) ae) ae) ae)
def ub(ad:Ad)(Px Pw:Sd)(EE:DX):ar:=
 (ak (ap (al aD (ac 5)<|aj<|ai (aW ad) EE 2<|aa (ac 0)<|aa (br cq<|aa (ac 5) ae) ae)<|af 10)
  (tR ad Px Pw EE))
def vR(ad:Ad)(Px Pw:Sd)(EE:DX):ar:=
 (ak (aE (ao<|al cH (ac 9)<|dC<|.int 2) (tH ad Px Pw EE) aC)
  (ub ad Px Pw EE))
def uX(ad:Ad)(Px Pw:Sd)(EE:DX):ar:=
 (ak (aE (ao<|al DC (ac 9)<|dC<|.int 2) (uJ ad Px Pw EE) aC)
  (vR ad Px Pw EE))
def vk(ad:Ad)(Px Pw:Sd)(EE:DX):ar:=
 (ak (ap (aj<|ai (aW ad) EE 2<|aa (ac 0)<|aa (dC<|.int 5) ae)<|af 9)
  (uX ad Px Pw EE))
def wu(ad:Ad)(Px Pw:Sd)(EE:DX):ar:=
 (ak (ap (aj<|ai Pw EE 5<|aa (ac 0)<|aa (ac 1)<|aa (ac 2)<|aa (al aF (ac 3)<|dC<|.int 1)<|aa (dC<|.int 5) ae)<|af 8)
  (vk ad Px Pw EE))
def uK(ad:Ad)(Px Pw:Sd)(EE:DX):ar:=
 (ak (ap (al aD (ac 5)<|aj<|ai (aW ad) EE 2<|aa (ac 0)<|aa (br cq<|aa (ac 5) ae) ae)<|af 7)
  (wu ad Px Pw EE))
def t_(ad:Ad)(Px Pw:Sd)(EE:DX):ar:=
 (ak (ap (ac 1)<|bX 3<|aK (af 4)<|aK (af 5)<|aK (af 6) bY)
  (uK ad Px Pw EE))
def vm(ad:Ad)(Px Pw:Sd)(EE:DX):ar:=
 (ap (al aF (ac 5)<|aj<|ai Px EE 4<|aa (ac 0)<|aa (ac 1)<|aa (ac 2)<|aa (ac 3) ae)<|af 5)
def tS(ad:Ad)(Px Pw:Sd)(EE:DX):ar:=
 (ak (ap (al gP (al aD (ac 2)<|dC<|.int 0)<|dC<|.int 4)<|iF (ac 2)<|dC<|.int 0)
    (vm ad Px Pw EE))
def vW(ad:Ad)(Px Pw:Sd)(EE:DX):ar:=
 (bD<|eE "list" bo (ac 5)<|aa (aj<|ai (lV ad) EE 2<|aa (ac 0)<|aa (ac 1) ae) ae)
def uk(ad:Ad)(Px Pw:Sd)(EE:DX):ar:=
 (ak (ap (al gP (al aD (ac 2)<|dC<|.int 0)<|dC<|.int 1)<|iF (ac 2)<|dC<|.int 0)
     (vW ad Px Pw EE))
def sX(ad:Ad)(Px Pw:Sd)(EE:DX):ar:=
 (aE (ao<|al zV (al aD (ac 2)<|dC<|.int 0)<|dC<|.int 0) (uk ad Px Pw EE) aC)
def vU(ad:Ad)(Px Pw:Sd)(EE:DX):ar:=
 (aE (h9 (ao<|al zV (al aD (ac 2)<|dC<|.int 0)<|dC<|.int 4)<|h9 (ao<|al DC (ac 3)<|dC<|.int 4)<|ao<|al cH (aj<|ai (aW ad) EE 2<|aa (ac 0)<|aa (dC<|.int 4) ae)<|dC<|.int 0) (tS ad Px Pw EE)<|sX ad Px Pw EE)
def tB(ad:Ad)(Px Pw:Sd)(EE:DX):ar:=
 (ak (bW (eR<|aa (aj<|ai (aW ad) EE 2<|aa (ac 0)<|aa (ac 4) ae) ae) (af 6)<|vU ad Px Pw EE)
  (ax<|br bV<|aa (ac 5) ae))
def wt(ad:Ad)(Px Pw:Sd)(EE:DX):ar:=
 (ak (ap (aX ae)<|af 5)
  (tB ad Px Pw EE))
mutual
def Px(ad:Ad):Nat->Sd
 |0=>λ_ _ _ _=>False
 |n+1=>aP ["pot","told","room","deep","m","names","many","x","first","way","y"] (t_ ad (Px ad n)<|Pw ad n)
def Pw(ad:Ad):Nat->Sd
 |0=>λ_ _ _ _=>False
 |n+1=>aP ["pot","told","room","deep","most","rows","k"] (wt ad (Px ad n)<|Pw ad n)
end
theorem Iu{ad:Ad}{n:Nat}{x0 x1 x2 x3:D}{M:Mem}{Q:DK}{E:DX}:Px ad (n+1) [x0,x1,x2,x3] M Q E=t_ ad (Px ad n) (Pw ad n) (aJ E) { nx:=λ_ M'=>drp Q .non M',rt:=drp Q } [some x0,some x1,some x2,some x3,none,none,none,none,none,none,none] M:=rfl
theorem Ir{ad:Ad}{n:Nat}{x0 x1 x2 x3 x4:D}{M:Mem}{Q:DK}{E:DX}:Pw ad (n+1) [x0,x1,x2,x3,x4] M Q E=wt ad (Px ad n) (Pw ad n) (aJ E) { nx:=λ_ M'=>drp Q .non M',rt:=drp Q } [some x0,some x1,some x2,some x3,some x4,none,none] M:=rfl
def uj(ad:Ad)(EE:DX):ar:=
 (ax<|av<|aa (ac 2)<|aa (ac 3)<|aa (ac 4)<|aa (ac 5)<|aa (al aD (ac 3)<|aj<|ai (aW ad) EE 2<|aa (ac 0)<|aa (br cq<|aa (ac 3) ae) ae) ae)
def wc(ad:Ad)(EE:DX):ar:=
 (ak (ap (aj<|ai (Pw ad 24) EE 5<|aa (ac 0)<|aa (av<|aa (ac 2)<|aa (ac 3)<|aa (ac 4) ae)<|aa (aX<|aa (ac 1) ae)<|aa (dC<|.int 0)<|aa (al aD (aj<|aX<|aa (dC<|.int 6)<|aa (dC<|.int 12)<|aa (dC<|.int 30) ae)<|aj<|ai (aW ad) EE 2<|aa (ac 0)<|aa (dC<|.int 3) ae) ae)<|af 5)
  (uj ad EE))
def vN(ad:Ad)(EE:DX):ar:=
 (ak (ap (al aD (aj<|aX<|aa (dC<|.int 0)<|aa (al aF (dC<|.int 1)<|aj<|ai (aW ad) EE 2<|aa (ac 0)<|aa (dC<|.int 4) ae)<|aa (aj<|ai (aW ad) EE 2<|aa (ac 0)<|aa (dC<|.int 41) ae) ae)<|aj<|ai (aW ad) EE 2<|aa (ac 0)<|aa (dC<|.int 3) ae)<|af 4)
  (wc ad EE))
def wf(ad:Ad)(EE:DX):ar:=
 (ak (ap (aj<|ai (vE ad) EE 2<|aa (ac 0)<|aa (al aF (dC<|.int 1)<|aj<|ai (aW ad) EE 2<|aa (ac 0)<|aa (al aD (aj<|aX<|aa (dC<|.int 3)<|aa (dC<|.int 5)<|aa (dC<|.int 12) ae)<|aj<|ai (aW ad) EE 2<|aa (ac 0)<|aa (dC<|.int 3) ae) ae) ae)<|af 3)
  (vN ad EE))
def uD(ad:Ad)(EE:DX):ar:=
 (ak (ap (al aD (aj<|aX<|aa (dC<|.int 2)<|aa (dC<|.int 3)<|aa (al aF (dC<|.int 2)<|aj<|ai (aW ad) EE 2<|aa (ac 0)<|aa (dC<|.int 9) ae)<|aa (al aF (dC<|.int 2)<|aj<|ai (aW ad) EE 2<|aa (ac 0)<|aa (dC<|.int 996) ae) ae)<|aj<|ai (aW ad) EE 2<|aa (ac 0)<|aa (dC<|.int 4) ae)<|af 2)
  (wf ad EE))
def uM(ad:Ad):Sd:=aP ["pot","most","m","names","many","rows"] (uD ad)
theorem IP{ad:Ad}{n:Nat}{x0 x1:D}{M:Mem}{Q:DK}{E:DX}:uM ad [x0,x1] M Q E=uD ad (aJ E) { nx:=λ_ M'=>drp Q .non M',rt:=drp Q } [some x0,some x1,none,none,none,none] M:=rfl
def on(ad:Ad)(PK:Sd)(EE:DX):ar:=
 (ap (aj<|al aF (aj<|d_ (ac 2) aB<|ba<|dC<|.int 2)<|br bV<|aa (aj<|aN (cL<|aj<|d_ (ac 2) (ba<|dC<|.int 2) aB) ["some"] [] (af 0) cF<|aj<|ai PK qw 1<|aa (ac 0) ae) ae)<|af 2)
def nr(ad:Ad)(PK:Sd)(EE:DX):ar:=
 (ap (av<|aa (dC<|.str "take")<|aa (al aD (ac 2)<|dC<|.int 1)<|aa (dC<|.int 0) ae)<|af 2)
def k7(ad:Ad)(PK:Sd)(EE:DX):ar:=
 (ak (aE (ao<|al cH (al aD (ac 2)<|dC<|.int 0)<|dC<|.str "pick") (nr ad PK EE) aC)
   (bD<|eE "list" bo (ac 1)<|aa (ac 2) ae))
def ki(ad:Ad)(PK:Sd)(EE:DX):ar:=
 (ak (aE (ao<|al qy (al aD (ac 2)<|dC<|.int 0)<|aj<|aX<|aa (dC<|.str "if")<|aa (dC<|.str "again") ae) (on ad PK EE) aC)
   (k7 ad PK EE))
def qV(ad:Ad)(PK:Sd)(EE:DX):ar:=
 (ak (bW (cL<|ac 0) (af 2)<|ki ad PK EE)
  (ax<|br bV<|aa (ac 1) ae))
def D8(ad:Ad)(PK:Sd)(EE:DX):ar:=
 (ak (ap (aX ae)<|af 1)
  (qV ad PK EE))
def PK(ad:Ad):Nat->Sd
 |0=>λ_ _ _ _=>False
 |n+1=>aP ["rows","made","row"] (D8 ad<|PK ad n)
theorem u_q4{ad:Ad}{n:Nat}{x0:D}{M:Mem}{Q:DK}{E:DX}:PK ad (n+1) [x0] M Q E=D8 ad (PK ad n) (aJ E) { nx:=λ_ M'=>drp Q .non M',rt:=drp Q } [some x0,none,none] M:=rfl
def mO(ad:Ad)(Py:Sd)(EE:DX):ar:=
 (ap (al aF (aj<|d_ (ac 6) aB<|ba<|dC<|.int 2)<|av<|aa (ac 9)<|aa (ac 8) ae)<|af 6)
def nM(ad:Ad)(Py:Sd)(EE:DX):ar:=
 (ak (ap (aj<|ai Py EE 4<|aa (ac 0)<|aa (ac 1)<|aa (al aD (ac 6)<|dC<|.int 2)<|aa (al aF (ac 7)<|av<|aa (dC<|.int 1) ae) ae)<|af 9)
    (mO ad Py EE))
def kf(ad:Ad)(Py:Sd)(EE:DX):ar:=
 (ak (ap (aj<|ai Py EE 4<|aa (ac 0)<|aa (ac 1)<|aa (al aD (ac 6)<|dC<|.int 3)<|aa (al aF (ac 7)<|av<|aa (dC<|.int 0) ae) ae)<|af 8)
    (nM ad Py EE))
def ni(ad:Ad)(Py:Sd)(EE:DX):ar:=
 (ap (al aF (aj<|d_ (ac 6) aB<|ba<|dC<|.int 2)<|av<|aa (ac 10) ae)<|af 6)
def jH(ad:Ad)(Py:Sd)(EE:DX):ar:=
 (ak (ap (aj<|ai Py EE 4<|aa (ac 0)<|aa (ac 1)<|aa (al aD (ac 6)<|dC<|.int 2)<|aa (al aF (ac 7)<|av<|aa (dC<|.int 0) ae) ae)<|af 10)
     (ni ad Py EE))
def oq(ad:Ad)(Py:Sd)(EE:DX):ar:=
 (ak (bD<|eE "list" bo (al aD (ac 1)<|dC<|.int 1)<|aa (ac 7) ae)
       (ap (ac 11)<|af 6))
def mZ(ad:Ad)(Py:Sd)(EE:DX):ar:=
 (ak (ap (al gP (al aD (ac 1)<|dC<|.int 2)<|dC<|.int 1)<|iF (ac 1)<|dC<|.int 2)
       (oq ad Py EE))
def mw(ad:Ad)(Py:Sd)(EE:DX):ar:=
 (aE (ao<|al gK (ac 11)<|ac 6) (mZ ad Py EE) aC)
def o6(ad:Ad)(Py:Sd)(EE:DX):ar:=
 (ak (ap (al aD (aj<|ai (PK ad 24) EE 1<|aa (av<|aa (aj<|ai (lV ad) EE 2<|aa (ac 0)<|aa (al aD (ac 1)<|dC<|.int 0) ae) ae) ae)<|dC<|.int 0)<|af 11)
      (mw ad Py EE))
def gB(ad:Ad)(Py:Sd)(EE:DX):ar:=
 (aE (h9 (ao<|al zV (al aD (ac 1)<|dC<|.int 2)<|dC<|.int 0)<|ao<|al cH (aj<|ai (aW ad) EE 2<|aa (ac 0)<|aa (dC<|.int 3) ae)<|dC<|.int 0) (o6 ad Py EE) aC)
def j8(ad:Ad)(Py:Sd)(EE:DX):ar:=
 (aE (ao<|al cH (al aD (ac 6)<|dC<|.int 0)<|dC<|.str "again") (jH ad Py EE)<|gB ad Py EE)
def jr(ad:Ad)(Py:Sd)(EE:DX):ar:=
 (ak (aE (ao<|al cH (al aD (ac 6)<|dC<|.int 0)<|dC<|.str "if") (kf ad Py EE)<|j8 ad Py EE)
   (bD<|eE "list" bo (ac 4)<|aa (ac 6) ae))
def gH(ad:Ad)(Py:Sd)(EE:DX):ar:=
 (ak (ap (al aF (ac 3)<|av<|aa (ac 5) ae)<|af 7)
   (jr ad Py EE))
def mQ(ad:Ad)(Py:Sd)(EE:DX):ar:=
 (ak (bW (eJ<|aa (ac 2) ae) (bX 2<|aK (af 5)<|aK (af 6) bY)<|gH ad Py EE)
  (ax<|br bV<|aa (ac 4) ae))
def Dc(ad:Ad)(Py:Sd)(EE:DX):ar:=
 (ak (ap (aX ae)<|af 4)
  (mQ ad Py EE))
def Py(ad:Ad):Nat->Sd
 |0=>λ_ _ _ _=>False
 |n+1=>aP ["pot","work","rows","place","made","at","row","here","second","first","inner","other"] (Dc ad<|Py ad n)
theorem u_q2{ad:Ad}{n:Nat}{x0 x1 x2 x3:D}{M:Mem}{Q:DK}{E:DX}:Py ad (n+1) [x0,x1,x2,x3] M Q E=Dc ad (Py ad n) (aJ E) { nx:=λ_ M'=>drp Q .non M',rt:=drp Q } [some x0,some x1,some x2,some x3,none,none,none,none,none,none,none,none] M:=rfl
def jk(ad:Ad)(EE:DX):ar:=
 (ax<|av<|aa (ac 3)<|aa (al aF (aj<|d_ (ac 3) aB<|ba<|dC<|.int 3)<|av<|aa (ac 5)<|aa (al aD (ac 3)<|dC<|.int 4) ae)<|aa (br dD<|aa (al aD (ac 4)<|dC<|.int 1) ae) ae)
def jt(ad:Ad)(EE:DX):ar:=
 (ak (ap (aj<|ai (Py ad 24) EE 4<|aa (ac 0)<|aa (ac 4)<|aa (al aD (ac 3)<|dC<|.int 3)<|aa (av ae) ae)<|af 5)
  (jk ad EE))
def jh(ad:Ad)(EE:DX):ar:=
 (ak (ap (aX<|aa (d_ (ac 3) aB<|ba<|dC<|.int 3)<|aa (aX ae)<|aa (ac 2) ae)<|af 4)
  (jt ad EE))
def iP(ad:Ad)(EE:DX):ar:=
 (ak (ap (al aF (aj<|d_ (ac 3) aB<|ba<|dC<|.int 3)<|av<|aa (aj<|ai (PK ad 24) EE 1<|aa (al aD (ac 3)<|dC<|.int 3) ae)<|aa (al aD (ac 3)<|dC<|.int 4) ae)<|af 3)
  (jh ad EE))
def vh(ad:Ad)(EE:DX):ar:=
 (ak (ap (aj<|ai (uM ad) EE 2<|aa (ac 0)<|aa (ac 1) ae)<|af 3)
  (iP ad EE))
def vt(ad:Ad):Sd:=aP ["pot","most_rows","most_unlike","plan","work","rows"] (vh ad)
theorem IE{ad:Ad}{n:Nat}{x0 x1 x2:D}{M:Mem}{Q:DK}{E:DX}:vt ad [x0,x1,x2] M Q E=vh ad (aJ E) { nx:=λ_ M'=>drp Q .non M',rt:=drp Q } [some x0,some x1,some x2,none,none,none] M:=rfl
def sB(ad:Ad)(EE:DX):ar:=
 (aE (ao<|al fJ (ac 3)<|ac 0) (ax<|ac 3) aC)
def mT(ad:Ad)(EE:DX):ar:=
 (ak (ap (zN (ao<|al DC (ac 2)<|dC<|.int 26) (al aD (ac 1)<|ac 2)<|aj<|al aF (al aD (ac 1)<|al lL (al gP (ac 2)<|dC<|.int 26)<|dC<|.int 26)<|al aD (ac 1)<|al iD (al gP (ac 2)<|dC<|.int 26)<|dC<|.int 26)<|af 3)
   (sB ad EE))
def rZ(ad:Ad)(EE:DX):ar:=
 (ak (bW (eR<|aa (al aF (dC<|.int 26)<|dC<|.int 676) ae) (af 2)<|mT ad EE)
  (ax<|dC<|.str ""))
def B3(ad:Ad)(EE:DX):ar:=
 (ak (ap (dC<|.str "abcdefghijklmnopqrstuvwxyz")<|af 1)
  (rZ ad EE))
def C3(ad:Ad):Sd:=aP ["names","letters","k","name"] (B3 ad)
theorem u_q1{ad:Ad}{n:Nat}{x0:D}{M:Mem}{Q:DK}{E:DX}:C3 ad [x0] M Q E=B3 ad (aJ E) { nx:=λ_ M'=>drp Q .non M',rt:=drp Q } [some x0,none,none,none] M:=rfl
def iI(ad:Ad)(Pu:Sd)(EE:DX):ar:=
 (ap (al aF (ac 6)<|av<|aa (av<|aa (dC<|.str "if")<|aa (al aD (ac 8)<|dC<|.int 1)<|aa (ac 10)<|aa (ac 11) ae) ae)<|af 6)
def jp(ad:Ad)(Pu:Sd)(EE:DX):ar:=
 (ak (ap (aj<|ai Pu EE 6<|aa (al aD (ac 8)<|dC<|.int 3)<|aa (al aD (al aD (ac 1)<|ac 7)<|dC<|.int 3)<|aa (al aF (ac 9)<|av<|aa (dC<|.int 0) ae)<|aa (ac 3)<|aa (ac 4)<|aa (ac 5) ae)<|af 11)
    (iI ad Pu EE))
def gA(ad:Ad)(Pu:Sd)(EE:DX):ar:=
 (ak (ap (aj<|ai Pu EE 6<|aa (al aD (ac 8)<|dC<|.int 2)<|aa (al aD (al aD (ac 1)<|ac 7)<|dC<|.int 2)<|aa (al aF (ac 9)<|av<|aa (dC<|.int 1) ae)<|aa (ac 3)<|aa (ac 4)<|aa (ac 5) ae)<|af 10)
    (jp ad Pu EE))
def iU(ad:Ad)(Pu:Sd)(EE:DX):ar:=
 (ap (al aF (ac 6)<|av<|aa (av<|aa (dC<|.str "again")<|aa (al aD (ac 8)<|dC<|.int 1)<|aa (ac 12) ae) ae)<|af 6)
def gq(ad:Ad)(Pu:Sd)(EE:DX):ar:=
 (ak (ap (aj<|ai Pu EE 6<|aa (al aD (ac 8)<|dC<|.int 2)<|aa (al aD (al aD (ac 1)<|ac 7)<|dC<|.int 2)<|aa (al aF (ac 9)<|av<|aa (dC<|.int 0) ae)<|aa (ac 3)<|aa (ac 4)<|aa (ac 5) ae)<|af 12)
     (iU ad Pu EE))
def jz(ad:Ad)(Pu:Sd)(EE:DX):ar:=
 (ap (al aF (ac 6)<|av<|aa (ac 13)<|aa (av<|aa (dC<|.str "if")<|aa (ac 4)<|aa (av<|aa (al aD (ac 1)<|ac 7) ae)<|aa (av<|aa (ac 8) ae) ae) ae)<|af 6)
def ja(ad:Ad)(Pu:Sd)(EE:DX):ar:=
 (ak (ap (av<|aa (dC<|.str "take")<|aa (ac 4)<|aa (aj<|al aF (ac 5)<|eE "list" gE (ac 3)<|aa (ac 9) ae) ae)<|af 13)
      (jz ad Pu EE))
def jl(ad:Ad)(Pu:Sd)(EE:DX):ar:=
 (ap (al aF (ac 6)<|av<|aa (ac 8) ae)<|af 6)
def gy(ad:Ad)(Pu:Sd)(EE:DX):ar:=
 (aE (ao<|al qy (ac 9)<|ac 3) (ja ad Pu EE)<|jl ad Pu EE)
def gm(ad:Ad)(Pu:Sd)(EE:DX):ar:=
 (aE (ao<|al cH (al aD (ac 8)<|dC<|.int 0)<|dC<|.str "again") (gq ad Pu EE)<|gy ad Pu EE)
def g8(ad:Ad)(Pu:Sd)(EE:DX):ar:=
 (aE (ao<|al cH (al aD (ac 8)<|dC<|.int 0)<|dC<|.str "if") (gA ad Pu EE)<|gm ad Pu EE)
def eM(ad:Ad)(Pu:Sd)(EE:DX):ar:=
 (ak (ap (al aF (ac 2)<|av<|aa (ac 7) ae)<|af 9)
   (g8 ad Pu EE))
def k8(ad:Ad)(Pu:Sd)(EE:DX):ar:=
 (ak (bW (eJ<|aa (ac 0) ae) (bX 2<|aK (af 7)<|aK (af 8) bY)<|eM ad Pu EE)
  (ax<|ac 6))
def sY(ad:Ad)(Pu:Sd)(EE:DX):ar:=
 (ak (ap (av ae)<|af 6)
  (k8 ad Pu EE))
def Pu(ad:Ad):Nat->Sd
 |0=>λ_ _ _ _=>False
 |n+1=>aP ["rows","others","place","places","name","many","made","at","row","here","first","second","inner","take"] (sY ad<|Pu ad n)
theorem HX{ad:Ad}{n:Nat}{x0 x1 x2 x3 x4 x5:D}{M:Mem}{Q:DK}{E:DX}:Pu ad (n+1) [x0,x1,x2,x3,x4,x5] M Q E=sY ad (Pu ad n) (aJ E) { nx:=λ_ M'=>drp Q .non M',rt:=drp Q } [some x0,some x1,some x2,some x3,some x4,some x5,none,none,none,none,none,none,none,none] M:=rfl
def jx(ad:Ad)(EE:DX):ar:=
 (ax<|av<|aa (al aD (ac 0)<|dC<|.int 0)<|aa (al aF (al aD (ac 0)<|dC<|.int 1)<|av<|aa (ac 3) ae)<|aa (al aF (al aD (ac 0)<|dC<|.int 2)<|br cq<|aa (ac 2) ae)<|aa (ac 4)<|aa (al aD (ac 0)<|dC<|.int 4) ae)
def iM(ad:Ad)(EE:DX):ar:=
 (ak (ap (aj<|ai (Pu ad 24) EE 6<|aa (al aD (ac 0)<|dC<|.int 3)<|aa (al aD (ac 1)<|dC<|.int 3)<|aa (av ae)<|aa (ac 2)<|aa (ac 3)<|aa (al aD (ac 0)<|dC<|.int 2) ae)<|af 4)
  (jx ad EE))
def w6(ad:Ad)(EE:DX):ar:=
 (ak (ap (aj<|ai (C3 ad) EE 1<|aa (al aD (ac 0)<|dC<|.int 1) ae)<|af 3)
  (iM ad EE))
def tV(ad:Ad):Sd:=aP ["one","other","places","name","rows"] (w6 ad)
theorem IR{ad:Ad}{n:Nat}{x0 x1 x2:D}{M:Mem}{Q:DK}{E:DX}:tV ad [x0,x1,x2] M Q E=w6 ad (aJ E) { nx:=λ_ M'=>drp Q .non M',rt:=drp Q } [some x0,some x1,some x2,none,none] M:=rfl
def jT(ad:Ad)(PJ:Sd)(EE:DX):ar:=
 (ap (aj<|al aF (ac 2)<|aj<|ai PJ EE 2<|aa (ac 4)<|aa (al aF (ac 1)<|dC<|.int 1) ae)<|af 2)
def nB(ad:Ad)(PJ:Sd)(EE:DX):ar:=
 (bW (cL<|aj<|d_ (ac 3) (ba<|dC<|.int 2) aB) (af 4)<|jT ad PJ EE)
def kC(ad:Ad)(PJ:Sd)(EE:DX):ar:=
 (ak (aE (ao<|al cH (ac 1)<|dC<|.int 4) (ax<|dC<|.int 61) aC)
    (nB ad PJ EE))
def og(ad:Ad)(PJ:Sd)(EE:DX):ar:=
 (aE (ao<|al qy (al aD (ac 3)<|dC<|.int 0)<|aj<|aX<|aa (dC<|.str "if")<|aa (dC<|.str "again") ae) (kC ad PJ EE) aC)
def kZ(ad:Ad)(PJ:Sd)(EE:DX):ar:=
 (ak (ap (al aF (ac 2)<|dC<|.int 1)<|af 2)
   (og ad PJ EE))
def rD(ad:Ad)(PJ:Sd)(EE:DX):ar:=
 (ak (bW (cL<|ac 0) (af 3)<|kZ ad PJ EE)
  (ax<|ac 2))
def CO(ad:Ad)(PJ:Sd)(EE:DX):ar:=
 (ak (ap (dC<|.int 0)<|af 2)
  (rD ad PJ EE))
def PJ(ad:Ad):Nat->Sd
 |0=>λ_ _ _ _=>False
 |n+1=>aP ["rows","deep","total","row","some"] (CO ad<|PJ ad n)
theorem u_q6{ad:Ad}{n:Nat}{x0 x1:D}{M:Mem}{Q:DK}{E:DX}:PJ ad (n+1) [x0,x1] M Q E=CO ad (PJ ad n) (aJ E) { nx:=λ_ M'=>drp Q .non M',rt:=drp Q } [some x0,some x1,none,none,none] M:=rfl
def wq(ad:Ad)(EE:DX):ar:=
 (ax<|eD (al Al (br cq<|aa (al aD (ac 0)<|dC<|.int 1) ae)<|dC<|.int 12)<|eD (al Al (al aD (ac 0)<|dC<|.int 2)<|dC<|.int 40)<|al Al (aj<|ai (PJ ad 24) EE 2<|aa (al aD (ac 0)<|dC<|.int 3)<|aa (dC<|.int 0) ae)<|dC<|.int 60)
def qg(ad:Ad):Sd:=aP ["plan"] (wq ad)
theorem IC{ad:Ad}{n:Nat}{x0:D}{M:Mem}{Q:DK}{E:DX}:qg ad [x0] M Q E=wq ad (aJ E) { nx:=λ_ M'=>drp Q .non M',rt:=drp Q } [some x0] M:=rfl
def vi(ad:Ad)(EE:DX):ar:=
 (ax<|al aD (ac 1)<|eE "list" nj (ac 0)<|aa (dC<|.bl true) ae)
def uZ(ad:Ad)(EE:DX):ar:=
 (ak (aE (iT (ao<|al gK (br cq<|aa (ac 0) ae)<|dC<|.int 11)<|iT (ao<|al gK (eE "list" n_ (aj<|d_ (ac 0) aB<|ba<|dC<|.int 10)<|aa (dC<|.bl true) ae)<|dC<|.int 1)<|di<|bR<|al aD (ac 0)<|dC<|.int 10) (ax<|dC<|.str "unlike") aC)
  (vi ad EE))
def sI(ad:Ad)(EE:DX):ar:=
 (ak (ap (aj<|aX<|aa (dC<|.str "case")<|aa (dC<|.str "place")<|aa (dC<|.str "moment")<|aa (dC<|.str "build")<|aa (dC<|.str "many")<|aa (dC<|.str "big")<|aa (dC<|.str "dry")<|aa (dC<|.str "text")<|aa (dC<|.str "line")<|aa (dC<|.str "row") ae)<|af 1)
  (uZ ad EE))
def uq(ad:Ad):Sd:=aP ["flags","names"] (sI ad)
theorem Jr{ad:Ad}{n:Nat}{x0:D}{M:Mem}{Q:DK}{E:DX}:uq ad [x0] M Q E=sI ad (aJ E) { nx:=λ_ M'=>drp Q .non M',rt:=drp Q } [some x0,none] M:=rfl
def uy(ad:Ad)(ea:Addr)(EE:DX):ar:=
 (ax<|al aF (ac 1)<|aj<|aX<|aa (gQ ea (.ref ad.C_NoLine) false<|aa (ac 0)<|aa (dC<|.ref ad.C_NoLine) ae)<|aa (gQ ea (.ref ad.C_NoRow) false<|aa (ac 0)<|aa (dC<|.ref ad.C_NoRow) ae)<|aa (gQ ea (.ty "ValueError") true<|aa (ac 0)<|aa (dC<|.ty "ValueError") ae) ae)
def sN(ad:Ad)(ea:Addr)(EE:DX):ar:=
 (ak (ap (aj<|al aF (ac 1)<|aj<|aX<|aa (gQ ea (.ref ad.C_TooMany) false<|aa (ac 0)<|aa (dC<|.ref ad.C_TooMany) ae)<|aa (gQ ea (.ref ad.C_TooBig) true<|aa (ac 0)<|aa (dC<|.ref ad.C_TooBig) ae)<|aa (gQ ea (.ref ad.C_Dry) false<|aa (ac 0)<|aa (dC<|.ref ad.C_Dry) ae)<|aa (gQ ea (.ref ad.C_NoText) false<|aa (ac 0)<|aa (dC<|.ref ad.C_NoText) ae) ae)<|af 1)
  (uy ad ea EE))
def tK(ad:Ad)(ea:Addr)(EE:DX):ar:=
 (ak (ap (aj<|aX<|aa (gQ ea (.ref ad.C_NoCase) false<|aa (ac 0)<|aa (dC<|.ref ad.C_NoCase) ae)<|aa (gQ ea (.ref ad.C_NoPlace) false<|aa (ac 0)<|aa (dC<|.ref ad.C_NoPlace) ae)<|aa (gQ ea (.ref ad.C_NoMoment) false<|aa (ac 0)<|aa (dC<|.ref ad.C_NoMoment) ae)<|aa (gQ ea (.ref ad.C_NoBuild) false<|aa (ac 0)<|aa (dC<|.ref ad.C_NoBuild) ae) ae)<|af 1)
  (sN ad ea EE))
def vZ(ad:Ad)(ea:Addr):Sd:=aP ["e","found"] (tK ad ea)
theorem I_{ad:Ad}{ea:Addr}{n:Nat}{x0:D}{M:Mem}{Q:DK}{E:DX}:vZ ad ea [x0] M Q E=tK ad ea (aJ E) { nx:=λ_ M'=>drp Q .non M',rt:=drp Q } [some x0,none] M:=rfl
def sJ(ad:Ad)(PD:Sd)(EE:DX):ar:=
 (ax<|eD (br bU<|aa (ac 0)<|aa (dC<|.ty "bool") ae)<|al cH (ac 0)<|ac 1)
def wy(ad:Ad)(PD:Sd)(EE:DX):ar:=
 (ax<|eD (br bU<|aa (ac 0)<|aa (dC<|.ty "int") ae)<|eD (Ea<|br bU<|aa (ac 0)<|aa (dC<|.ty "bool") ae)<|al cH (ac 0)<|ac 1)
def ui(ad:Ad)(PD:Sd)(EE:DX):ar:=
 (ax<|eD (br bU<|aa (ac 0)<|aa (dC<|.ty "str") ae)<|al cH (ac 0)<|ac 1)
def vA(ad:Ad)(PD:Sd)(EE:DX):ar:=
 (ax<|br lC<|aa (aj<|aN (Gh<|aa (ac 0)<|aa (ac 1) ae) ["one","other"] [] (bX 2<|aK (af 0)<|aK (af 1) bY) cF<|aj<|ai PD qw 2<|aa (ac 0)<|aa (ac 1) ae) ae)
def tw(ad:Ad)(PD:Sd)(EE:DX):ar:=
 (ak (aE (ao<|al gK (br cq<|aa (ac 0) ae)<|br cq<|aa (ac 1) ae) (ax<|dC<|.bl false) aC)
  (vA ad PD EE))
def tf(ad:Ad)(PD:Sd)(EE:DX):ar:=
 (ak (aE (iT (ao<|al gK (br bU<|aa (ac 1)<|aa (dC<|.ty "tuple") ae)<|br bU<|aa (ac 0)<|aa (dC<|.ty "tuple") ae)<|ao<|al gK (br bU<|aa (ac 1)<|aa (dC<|.ty "list") ae)<|br bU<|aa (ac 0)<|aa (dC<|.ty "list") ae) (ax<|dC<|.bl false) aC)
  (tw ad PD EE))
def uG(ad:Ad)(PD:Sd)(EE:DX):ar:=
 (ak (aE (bR<|br bU<|aa (ac 1)<|aa (dC<|.ty "str") ae) (ui ad PD EE) aC)
  (tf ad PD EE))
def um(ad:Ad)(PD:Sd)(EE:DX):ar:=
 (ak (aE (bR<|br bU<|aa (ac 1)<|aa (dC<|.ty "int") ae) (wy ad PD EE) aC)
  (uG ad PD EE))
def uA(ad:Ad)(PD:Sd)(EE:DX):ar:=
 (ak (aE (bR<|br bU<|aa (ac 1)<|aa (dC<|.ty "bool") ae) (sJ ad PD EE) aC)
  (um ad PD EE))
def gD(ad:Ad)(PD:Sd)(EE:DX):ar:=
 (ak (aE (ao<|al BR (ac 1)<|dC .non) (ax<|al BR (ac 0)<|dC .non) aC)
  (uA ad PD EE))
def PD(ad:Ad):Nat->Sd
 |0=>λ_ _ _ _=>False
 |n+1=>aP ["found","due"] (gD ad<|PD ad n)
theorem lG{ad:Ad}{n:Nat}{x0 x1:D}{M:Mem}{Q:DK}{E:DX}:PD ad (n+1) [x0,x1] M Q E=gD ad (PD ad n) (aJ E) { nx:=λ_ M'=>drp Q .non M',rt:=drp Q } [some x0,some x1] M:=rfl
def ng(ad:Ad)(EE:DX):ar:=
 (ax<|av<|aa (av<|aa (dC<|.int 2)<|aa (ac 3)<|aa (ac 4)<|aa (ac 7)<|aa (dC<|.str "a") ae)<|aa (av<|aa (dC<|.int 2)<|aa (ac 3)<|aa (ac 4)<|aa (ac 8)<|aa (dC<|.str "a") ae)<|aa (aN (eR<|aa (ac 5) ae) ["k"] [] (af 0) cF<|av<|aa (ac 0) ae) ae)
def o5(ad:Ad)(EE:DX):ar:=
 (ak (ap (al aF (al gT (av<|aa (av<|aa (dC<|.str "put")<|aa (dC<|.str "a")<|aa (dC<|.int 1) ae) ae)<|ac 5)<|al gT (av<|aa (av<|aa (dC<|.str "put")<|aa (dC<|.str "a")<|aa (dC<|.int 0) ae) ae)<|ac 6)<|af 8)
  (ng ad EE))
def nD(ad:Ad)(EE:DX):ar:=
 (ak (ap (al gT (av<|aa (av<|aa (dC<|.str "put")<|aa (dC<|.str "a")<|aa (dC<|.int 0) ae) ae)<|aj<|al aF (ac 5)<|ac 6)<|af 7)
  (o5 ad EE))
def mM(ad:Ad)(EE:DX):ar:=
 (ak (ap (al aD (aj<|aX<|aa (dC<|.int 0)<|aa (dC<|.int 2)<|aa (dC<|.int 0)<|aa (br Cd<|aa (dC<|.int 0)<|aa (al gP (al aF (dC<|.int 57)<|aj<|ai (aW ad) EE 2<|aa (ac 0)<|aa (dC<|.int 6) ae)<|al gT (dC<|.int 4)<|ac 5) ae) ae)<|ac 1)<|af 6)
  (nD ad EE))
def nH(ad:Ad)(EE:DX):ar:=
 (ak (ap (al aD (aj<|aX<|aa (dC<|.int 1)<|aa (dC<|.int 0)<|aa (al aF (dC<|.int 1)<|aj<|ai (aW ad) EE 2<|aa (ac 0)<|aa (dC<|.int 3) ae)<|aa (al aF (dC<|.int 1)<|aj<|ai (aW ad) EE 2<|aa (ac 0)<|aa (dC<|.int 19) ae) ae)<|ac 1)<|af 5)
  (mM ad EE))
def mL(ad:Ad)(EE:DX):ar:=
 (ak (ap (al aD (aj<|aX<|aa (dC<|.int 3)<|aa (dC<|.int 3)<|aa (al aF (dC<|.int 38)<|aj<|ai (aW ad) EE 2<|aa (ac 0)<|aa (dC<|.int 3) ae)<|aa (dC<|.int 2) ae)<|ac 1)<|af 4)
  (nH ad EE))
def mU(ad:Ad)(EE:DX):ar:=
 (ak (ap (br bV<|aa (aj<|aN (eR<|aa (ac 2) ae) ["k"] [] (af 0) cF<|al aD (dC<|.str "abcdefghijkl")<|ac 0) ae)<|af 3)
  (mL ad EE))
def oh(ad:Ad)(EE:DX):ar:=
 (ak (ap (al aD (aj<|aX<|aa (dC<|.int 11)<|aa (dC<|.int 12)<|aa (dC<|.int 1)<|aa (dC<|.int 1) ae)<|ac 1)<|af 2)
  (mU ad EE))
def CZ(ad:Ad)(EE:DX):ar:=
 (ak (ap (aj<|ai (aW ad) EE 2<|aa (ac 0)<|aa (dC<|.int 4) ae)<|af 1)
  (oh ad EE))
def CT(ad:Ad):Sd:=aP ["pot","way","many","names","pieces","odd","same","one","other"] (CZ ad)
theorem u_q9{ad:Ad}{n:Nat}{x0:D}{M:Mem}{Q:DK}{E:DX}:CT ad [x0] M Q E=CZ ad (aJ E) { nx:=λ_ M'=>drp Q .non M',rt:=drp Q } [some x0,none,none,none,none,none,none,none,none] M:=rfl
def ji(ad:Ad)(EE:DX):ar:=
 (ap (pk<|ai (CT ad) EE 1<|aa (ac 1) ae)<|bX 3<|aK (af 2)<|aK (af 3)<|aK (af 4) bY)
def j0(ad:Ad)(EE:DX):ar:=
 (aE (iT (ao<|al vF (ac 7)<|dC .non)<|ao<|al gK (aj<|ai (uq ad) EE 1<|aa (ac 8) ae)<|dC<|.str "big") (ax<|dC<|.bl false) aC)
def j9(ad:Ad)(EE:DX):ar:=
 (aE (iT (ao<|al gK (ac 8)<|aj<|aX ae)<|iT (di<|bR<|aj<|ai (PD ad 24) EE 2<|aa (ac 7)<|aa (ac 5) ae)<|ao<|al uu (aj<|ai (lE ad) EE 1<|aa (ac 7) ae)<|dC<|.bl true) (ax<|dC<|.bl false) aC)
def dQ(ad:Ad)(EE:DX):ar:=
 (aE (di<|bR<|aj<|ai (qg ad) EE 1<|aa (ac 5) ae) (j0 ad EE)<|j9 ad EE)
def iS(ad:Ad)(EE:DX):ar:=
 (ak (mF ad.C_TooBig (sG ad) 2 (aa (ac 2)<|aa (ac 3) ae) 7 9 8<|vZ ad)
   (dQ ad EE))
def mG(ad:Ad)(EE:DX):ar:=
 (ak (ap (aj<|aX ae)<|af 8)
   (iS ad EE))
def i_(ad:Ad)(EE:DX):ar:=
 (ak (bW (eR<|aa (dC<|.int 2) ae) (af 6) (ak (ap (dC .non)<|af 7)
   (mG ad EE)))
  (ax<|dC<|.bl true))
def gG(ad:Ad)(EE:DX):ar:=
 (ak (ap (aj<|ai (tV ad) EE 3<|aa (ac 2)<|aa (ac 3)<|aa (ac 4) ae)<|af 5)
  (i_ ad EE))
def mR(ad:Ad)(EE:DX):ar:=
 (ak (aE (ao<|al cH (aj<|ai (aW ad) EE 2<|aa (ac 1)<|aa (dC<|.int 4) ae)<|dC<|.int 0) (ji ad EE) aC)
  (gG ad EE))
def kn(ad:Ad)(EE:DX):ar:=
 (ak (ap (pk<|ai (vt ad) EE 3<|aa (ac 1)<|aa (dC<|.int 50)<|aa (dC<|.int 12) ae)<|bX 3<|aK (af 2)<|aK (af 3)<|aK (af 4) bY)
  (mR ad EE))
def vQ(ad:Ad)(EE:DX):ar:=
 (ak (ap (ai (vX ad) EE 1<|aa (ac 0) ae)<|af 1)
  (kn ad EE))
def Aa(ad:Ad):Sd:=aP ["script","pot","one","other","places","due","again","found","kinds","e"] (vQ ad)
theorem HV{ad:Ad}{n:Nat}{x0:D}{M:Mem}{Q:DK}{E:DX}:Aa ad [x0] M Q E=vQ ad (aJ E) { nx:=λ_ M'=>drp Q .non M',rt:=drp Q } [some x0,none,none,none,none,none,none,none,none,none] M:=rfl
set_option genInjectivity false in
structure En(P:Program)(w:World)(K:JF)(mg:Str->Option Value)(base:Heap)(ad:Ad):Prop where
 u0:Cls K ad.C_Weave
 u1:mg "Weave"=some (.ref ad.C_Weave)
 u2:NoAttr K ad.C_Weave "name"
 u3:NoAttr K ad.C_Weave "pieces"
 u4:mg "Dry"=some (.ref ad.C_Dry)
 u5:ExcAt K ad.C_NoBuild
 u6:mg "NoBuild"=some (.ref ad.C_NoBuild)
 u7:mg "NoCase"=some (.ref ad.C_NoCase)
 u8:mg "NoLine"=some (.ref ad.C_NoLine)
 u9:mg "NoMoment"=some (.ref ad.C_NoMoment)
 u10:mg "NoPlace"=some (.ref ad.C_NoPlace)
 u11:mg "NoRow"=some (.ref ad.C_NoRow)
 u12:mg "NoText"=some (.ref ad.C_NoText)
 u13:mg "StrideError"=some (.ref ad.C_StrideError)
 u14:ExcAt K ad.C_TooBig
 u15:mg "TooBig"=some (.ref ad.C_TooBig)
 u16:mg "TooMany"=some (.ref ad.C_TooMany)
 u17:LX.XC K ad.C_TooBig
 u18:XS K ad.C_TooBig ad.C_StrideError
 u19:fQ K ad.C_TooBig (.ref ad.C_Dry) false
 u20:fQ K ad.C_TooBig (.ref ad.C_NoBuild) false
 u21:fQ K ad.C_TooBig (.ref ad.C_NoCase) false
 u22:fQ K ad.C_TooBig (.ref ad.C_NoLine) false
 u23:fQ K ad.C_TooBig (.ref ad.C_NoMoment) false
 u24:fQ K ad.C_TooBig (.ref ad.C_NoPlace) false
 u25:fQ K ad.C_TooBig (.ref ad.C_NoRow) false
 u26:fQ K ad.C_TooBig (.ref ad.C_NoText) false
 u27:fQ K ad.C_TooBig (.ref ad.C_TooBig) true
 u28:fQ K ad.C_TooBig (.ref ad.C_TooMany) false
 u29:fQ K ad.C_TooBig (.ty "ValueError") true
 u30:∃t,mg "LEAST_WHEEL"=some (.int 2 t)
 u31:∃t,mg "LETTERS"=some (.str "abcdefghijklmnopqrstuvwxyz" t)
 u32:∃t,mg "MOST_LETTERS"=some (.int 8 t)
 u33:∃t,mg "MOST_NAMES"=some (.int 12 t)
 u34:∃t,mg "MOST_PIECES"=some (.int 40 t)
 u35:∃t,mg "MOST_ROWS"=some (.int 60 t)
 u36:∃t,mg "MOST_WHEEL"=some (.int 997 t)
 u37:∃t,mg "MOST_WITHIN"=some (.int 4 t)
 u38:ModTab w K mg "PARTS" ad.PF aL
 u39:mg "ValueError"=none
 u40:mg "all"=none
 u41:mg "bool"=none
 u42:mg "dict"=none
 u43:mg "enumerate"=none
 u44:mg "int"=none
 u45:mg "isinstance"=none
 u46:mg "len"=none
 u47:mg "list"=none
 u48:mg "max"=none
 u49:mg "min"=none
 u50:mg "range"=none
 u51:mg "set"=none
 u52:mg "sorted"=none
 u53:mg "str"=none
 u54:mg "tuple"=none
 u55:mg "zip"=none
 f1:GF K mg "is_plan" Dt ad.a1 ad.d1 ["thing"]
 f2:GF K mg "is_whole" Do ad.a2 ad.d2 ["thing","least","most"]
 f3:GF K mg "is_name" DM ad.a3 ad.d3 ["thing"]
 f4:GF K mg "are_names" Eo ad.a4 ad.d4 ["thing"]
 f5:GF K mg "is_name_of" Dv ad.a5 ad.d5 ["plan","thing"]
 f6:GF K mg "are_rows" DY ad.a6 ad.d6 ["plan"]
 f7:GF K mg "is_row" Ej ad.a7 ad.d7 ["plan","thing","depth"]
 f8:GF K mg "is_part" E4 ad.a8 ad.d8 ["plan","kind","thing"]
 f9:GF K mg "rows_within" Ed ad.a9 ad.d9 ["row"]
 f10:GI K ad.C_Weave "__init__" "Weave.__init__" Jd ad.a10 ad.d10 ["self","one","other"]
 f11:GF K mg "new_name" Dg ad.a11 ad.d11 ["names"]
 f12:GF K mg "unlike_rows" HA ad.a12 ad.d12 ["one","other"]
 f13:GF K mg "paired" DH ad.a13 ad.d13 ["rows","others","place"]
 f14:GF K mg "refuse_unlike_sorts" HE ad.a14 ad.d14 ["row","other"]
 f15:GF K mg "paired_within" H_ ad.a15 ad.d15 ["row","other","place"]
 f16:GF K mg "branches" El ad.a16 ad.d16 ["row"]
 f17:GF K mg "woven" Dq ad.a17 ad.d17 ["one","other"]
 f18:GF K mg "woven_rows" DJ ad.a18 ad.d18 ["weave","rows","others","place"]
 f19:GF K mg "woven_row" Dj ad.a19 ad.d19 ["weave","row","other","place"]
 f20:GF K mg "_law_stirred" II ad.a20 ad.d20 ["cell","turn"]
 f21:GF K mg "_law_pot" E7 ad.a21 ad.d21 ["script"]
 f22:GF K mg "_law_draw" DR ad.a22 ad.d22 ["pot","many"]
 f23:GF K mg "_law_names" Dp ad.a23 ad.d23 ["pot","many"]
 f24:GF K mg "_law_row" Ds ad.a24 ad.d24 ["pot","told"]
 f25:GF K mg "_law_block" Er ad.a25 ad.d25 ["pot","told","room","deep"]
 f26:GF K mg "_law_rows" Dn ad.a26 ad.d26 ["pot","told","room","deep","most"]
 f27:GF K mg "_law_plan" Dy ad.a27 ad.d27 ["pot","most"]
 f28:GF K mg "_law_no_picks" IL ad.a28 ad.d28 ["rows"]
 f29:GF K mg "_law_twin_rows" Jm ad.a29 ad.d29 ["pot","work","rows","place"]
 f30:GF K mg "_law_twins" DV ad.a30 ad.d30 ["pot","most_rows","most_unlike"]
 f31:GF K mg "_law_first_name" Iz ad.a31 ad.d31 ["names"]
 f32:GF K mg "_law_weave" Dw ad.a32 ad.d32 ["rows","others","place","places","name","many"]
 f33:GF K mg "_law_woven" E8 ad.a33 ad.d33 ["one","other","places"]
 f34:GF K mg "_law_counted" HJ ad.a34 ad.d34 ["rows","deep"]
 f35:GF K mg "_law_fits" DP ad.a35 ad.d35 ["plan"]
 f36:GF K mg "_law_name" Es ad.a36 ad.d36 ["flags"]
 f37:GF K mg "_law_kinds" Dk ad.a37 ad.d37 ["e"]
 f38:GF K mg "_law_alike" Ex ad.a38 ad.d38 ["found","due"]
 f39:GF K mg "_law_bounds" Jf ad.a39 ad.d39 ["pot"]
 f40:GF K mg "law" il ad.a40 ad.d40 ["script"]
section
section
variable {X:Cx}{B:Bd}{a b c o e:Expr}{es:List Expr}{ta tb tc to:bg}{t:dZ}{i:Nat}{x:Str}{pos p apos cpos:Pos}(hU:X.A.units+64<cLine)(hu:X.A.units+1<cLine)(hg:X.A.guards=some [])(hc:X.calm=true)(ha:DE X B a ta)(hb:DE X B b tb)(hd:DE X B c tc){ea tA:Addr}{dc:D}{bb:Bool}{tT:List (Str×D)}(hT:TabT X tA tT)
def v0:=kN (pos:=pos) B0 ha hb
def v1:=kN (pos:=pos) AC ha hb
def v2:=kN (pos:=pos) Bi ha hb
def v3:=kN (pos:=pos) Cu ha hb
def v4:=kN (pos:=pos) B4 ha hb
def v5:=kN (pos:=pos) yC ha hb
def v6:=kN (pos:=pos) AK ha hb
def v7:=nN (pos:=pos) (yR hU) ha hb
def v8:=nN (pos:=pos) (yw hU) ha hb
def v9:=nN (pos:=pos) kM ha hb
def v10:=nN (pos:=pos) wo ha hb
def v11:=cu (X:=X) (B:=B) (p:=p) (pos:=pos) (e:=e) (es:=es) (t:=t) mn eP
def v12:=cu (X:=X) (B:=B) (p:=p) (pos:=pos) (e:=e) (es:=es) (t:=t) xW sQ
def v13:=cu (X:=X) (B:=B) (p:=p) (pos:=pos) (e:=e) (es:=es) (t:=t) (wT hc) AQ
def v14:=dX (X:=X) (B:=B) (p:=p) (pos:=pos) (e:=e) (es:=es) (t:=t) (rF hc) la
def v15:=cu (X:=X) (B:=B) (p:=p) (pos:=pos) (e:=e) (es:=es) (t:=t) nk rz
def v16:=dX (X:=X) (B:=B) (p:=p) (pos:=pos) (e:=e) (es:=es) (t:=t) (oW hc hU) yz
def v17:=dX (X:=X) (B:=B) (p:=p) (pos:=pos) (e:=e) (es:=es) (t:=t) pX lI
def v18:=cu (X:=X) (B:=B) (p:=p) (pos:=pos) (e:=e) (es:=es) (t:=t) sv sQ
def v19:=dX (X:=X) (B:=B) (p:=p) (pos:=pos) (e:=e) (es:=es) (t:=t) rf la
def v20:=cu (X:=X) (B:=B) (p:=p) (pos:=pos) (e:=e) (es:=es) (t:=t) (xX hc) Bn
def v21:=cu (X:=X) (B:=B) (p:=p) (pos:=pos) (e:=e) (es:=es) (t:=t) (xm hc) By
def v22:=ic (X:=X) (B:=B) (pos:=pos) Cs
def v23:=ic (X:=X) (B:=B) (pos:=pos) lI
def v24:=ic (X:=X) (B:=B) (pos:=pos) D3
def v25:=ic (X:=X) (B:=B) (pos:=pos) Ah
def v26:=ic (X:=X) (B:=B) (pos:=pos) jQ
def v27:=ic (X:=X) (B:=B) (pos:=pos) la
def v28:=Bf (X:=X) (B:=B) (apos:=apos) (cpos:=cpos) (o:=o) (to:=to) KO My Ou tE
def v29:=gY (X:=X) (B:=B) (apos:=apos) (cpos:=cpos) (o:=o) (e:=e) (es:=es) (t:=t) (to:=to) KO OS PySem.F.type_list_extend rb
def v30:=gY (X:=X) (B:=B) (apos:=apos) (cpos:=cpos) (o:=o) (e:=e) (es:=es) (t:=t) (to:=to) KO Nv PySem.F.type_list_append qP
def v31:=gY (X:=X) (B:=B) (apos:=apos) (cpos:=cpos) (o:=o) (e:=e) (es:=es) (t:=t) (to:=to) KO My Ou tE
def v32:=gY (X:=X) (B:=B) (apos:=apos) (cpos:=cpos) (o:=o) (e:=e) (es:=es) (t:=t) (to:=to) KO L9 Og (si hU)
def v33:=gY (X:=X) (B:=B) (apos:=apos) (cpos:=cpos) (o:=o) (e:=e) (es:=es) (t:=t) (to:=to) KO Oi PySem.F.type_list_count xx
def v34:=gY (X:=X) (B:=B) (apos:=apos) (cpos:=cpos) (o:=o) (e:=e) (es:=es) (t:=t) (to:=to) KO L9 Og wN
def v35:=m9 (pos:=pos) zL zL ha hb hd
def v36:=m9 (pos:=pos) kM kM ha hb hd
def v37:=Cp (X:=X) (B:=B) (p:=p) (pos:=pos) (e:=e) (es:=es) (t:=t) (ea:=ea) (c:=dc) (b:=bb) eP
def v38:=AL (X:=X) (B:=B) (x:=x) (pos:=pos) (e:=e) (i:=i) (te:=ta) (pos':=p) Cr
def v39:=dj (pos:=pos) (yR hU) ha hb
def v40:=dj (pos:=pos) (rB hT) ha hb
def v41:=dj (pos:=pos) (EK hU) ha hb
def v42:=dj (pos:=pos) (yw hU) ha hb
def v43:=dj (pos:=pos) G9 ha hb
def v44:=dj (pos:=pos) (xy hU) ha hb
def v45:=dj (pos:=pos) Fa ha hb
def v46:=dj (pos:=pos) wo ha hb
def v47:=dj (pos:=pos) zC ha hb
def v48:=dj (pos:=pos) yr ha hb
def v49:=xE (pos:=pos) kM kM ha hb hd
end
theorem idE{X:Cx}{B:Bd}{e:Expr}{t:bg}(h:DE X B e t):DE X B e t:=h
theorem idS{X:Cx}{B:Bd}{e:Stmt}{t:ar}(h:DS X B e t):DS X B e t:=h
theorem idT{X:Cx}{B:Bd}{e:Expr}{t:eG}(h:DT X B e t):DT X B e t:=h
theorem idO{X:Cx}{B:Bd}{e:Expr}{r:dq}{a b:bg}(h:DE X B e (al r a b)):DE X B e (al r a b):=h
theorem idB{X:Cx}{B:Bd}{e:Expr}{r:nW}{t:dZ}(h:DE X B e (br r t)):DE X B e (br r t):=h
theorem idC{X:Cx}{B:Bd}{e:Expr}{c:D}(h:DE X B e (dC c)):DE X B e (dC c):=h
theorem idM{X:Cx}{B:Bd}{e:Expr}{s:String}{r:x6}{o:bg}{t:dZ}(h:DE X B e (eE s r o t)):DE X B e (eE s r o t):=h
theorem idQ{X:Cx}{B:Bd}{e:Expr}{t:bg}(h:DT X B e (ao t)):DT X B e (ao t):=h
local macro_rules | `(tactic| exists 2) => `(tactic| first
 |refine v0 ?_ ?_
 |refine v1 ?_ ?_
 |refine v2 ?_ ?_
 |refine v3 ?_ ?_
 |refine v4 ?_ ?_
 |refine v5 ?_ ?_
 |refine v6 ?_ ?_
 |refine v7 ?_ ?_ ?_ ?_
 |refine v8 ?_ ?_ ?_ ?_
 |refine v9 ?_ ?_ ?_
 |refine v10 ?_ ?_ ?_)
local macro_rules | `(tactic| exists 3) => `(tactic| first
 |refine v11 ?_ ?_ ?_ ?_ ?_ ?_ ?_
 |refine v12 ?_ ?_ ?_ ?_ ?_ ?_ ?_
 |refine v13 ?_ ?_ ?_ ?_ ?_ ?_ ?_ ?_
 |refine v14 ?_ ?_ ?_ ?_ ?_ ?_ ?_ ?_
 |refine v15 ?_ ?_ ?_ ?_ ?_ ?_ ?_
 |refine v16 ?_ ?_ ?_ ?_ ?_ ?_ ?_ ?_ ?_
 |refine v17 ?_ ?_ ?_ ?_ ?_ ?_ ?_
 |refine v18 ?_ ?_ ?_ ?_ ?_ ?_ ?_
 |refine v19 ?_ ?_ ?_ ?_ ?_ ?_ ?_
 |refine v20 ?_ ?_ ?_ ?_ ?_ ?_ ?_ ?_
 |refine v21 ?_ ?_ ?_ ?_ ?_ ?_ ?_ ?_)
local macro_rules | `(tactic| exists 4) => `(tactic| first
 |refine v22 ?_ ?_ ?_ ?_
 |refine v23 ?_ ?_ ?_ ?_
 |refine v24 ?_ ?_ ?_ ?_
 |refine v25 ?_ ?_ ?_ ?_
 |refine v26 ?_ ?_ ?_ ?_
 |refine v27 ?_ ?_ ?_ ?_)
local macro_rules | `(tactic| exists 5) => `(tactic| first
 |refine v28 ?_ ?_ ?_ ?_
 |refine v29 ?_ ?_ ?_ ?_ ?_ ?_ ?_ ?_
 |refine v30 ?_ ?_ ?_ ?_ ?_ ?_ ?_ ?_
 |refine v31 ?_ ?_ ?_ ?_ ?_ ?_ ?_ ?_
 |refine v32 ?_ ?_ ?_ ?_ ?_ ?_ ?_ ?_ ?_
 |refine v33 ?_ ?_ ?_ ?_ ?_ ?_ ?_ ?_
 |refine v34 ?_ ?_ ?_ ?_ ?_ ?_ ?_ ?_)
local macro_rules | `(tactic| exists 8) => `(tactic| first
 |refine v39 ?_ ?_ ?_ ?_
 |refine v40 ?_ ?_ ?_ ?_
 |refine v41 ?_ ?_ ?_ ?_
 |refine v42 ?_ ?_ ?_ ?_
 |refine v43 ?_ ?_ ?_
 |refine v44 ?_ ?_ ?_ ?_
 |refine v45 ?_ ?_ ?_
 |refine v46 ?_ ?_ ?_
 |refine v47 ?_ ?_ ?_
 |refine v48 ?_ ?_ ?_)
local macro_rules | `(tactic| exists 1) => `(tactic| first
 |refine dnm _ ?_ ?_ ?_ ?_
 |exact GR
 |refine GH ?_
 |refine Eg (EB ?_) ?_ ?_ ?_
 |exact Fj
 |refine yo ?_ ?_ ?_ ?_ ?_ ?_
 |(refine idO ?_;exists 2)
 |(refine idB ?_;exists 3)
 |refine F3 ?_
 |refine GE ?_
 |refine Gu ?_ ?_ ?_ ?_
 |refine yt ?_ ?_ ?_
 |exact Jv
 |exact EC
 |(refine idC ?_;exists 4)
 |(refine idM ?_;exists 5)
 |refine v35 ?_ ?_ ?_ ?_
 |refine v36 ?_ ?_ ?_ ?_
 |refine Bl ?_ ?_ ?_
 |refine v37 ?_ ?_ ?_ ?_ ?_ ?_ ?_ ?_
 |refine zw ?_ ?_ ?_
 |refine GW ?_ ?_
 |refine EZ ?_
 |refine Fm ?_
 |refine Cg ?_
 |refine xH ?_ ?_ ?_ ?_ ?_ ?_ ?_ ?_
 |refine Bc ?_ ?_ ?_
 |refine AI ?_ ?_ ?_
 |refine Bb ?_ ?_ ?_ ?_
 |apply yM
 |apply yY)
local macro_rules | `(tactic| exists 7) => `(tactic| first
 |(refine idQ ?_;exists 8)
 |refine v49 ?_ ?_ ?_ ?_
 |refine G7 ?_
 |refine GX ?_ ?_
 |refine Jz ?_)
local macro_rules | `(tactic| exists 6) => `(tactic| first
 |refine Je ?_ ?_ ?_
 |refine GC ?_ ?_ ?_ ?_ ?_ ?_
 |refine Fn ?_ ?_ ?_ ?_ ?_
 |refine EF ?_
 |refine Bt ?_ ?_
 |refine GU ?_ ?_ ?_ ?_ ?_
 |refine FJ ?_ ?_ ?_ ?_ ?_ ?_
 |refine zi ?_ ?_ ?_
 |refine yc ?_ ?_ ?_ ?_ ?_ ?_
 |refine v38 ?_ ?_ ?_ ?_ ?_
 |apply wW)
local macro_rules | `(tactic| exists 9) => `(tactic| first
 |refine eZ ?_ ?_
 |refine g7 ?_
 |exact Bx
 |refine BW ?_
 |refine Gq ?_
 |refine EM ?_ ?_
 |refine J8 ?_ ?_
 |exact CW
 |refine Cn ?_
 |refine CU ?_ ?_ ?_ ?_
 |refine Hi ?_ ?_ ?_ ?_
 |refine GJ ?_ ?_ ?_ ?_
 |refine yF ?_ ?_ ?_
 |exact C0
 |refine Cm ?_ ?_ ?_ ?_
 |refine xN ?_ ?_ ?_ ?_
 |refine AU ?_ ?_ ?_ ?_ ?_
 |refine Gw ?_ ?_ ?_ ?_ ?_
 |refine Ge ?_
 |refine FY ?_
 |apply FC.nil
 |apply FC.cons
 |exact AW
 |refine BH ?_)
local macro_rules | `(tactic| exists 0) => `(tactic| first
 |exact Or.inl rfl
 |exact⟨_,_,_,_,_,_,_,by assumption,by assumption,Room.mono (by assumption) (by first|decide|lia),Eu,by assumption⟩
 |exact⟨_,_,_,_,_,_,_,by assumption,by assumption,Room.mono (by assumption) (by first|decide|lia),qJ,uxN⟩
 |assumption
 |exact Room.mono (by assumption) (by first|decide|lia)
 |with_reducible exact Eu
 |with_reducible exact qJ
 |with_reducible exact uxN
 |exact⟨by assumption,by assumption,by assumption⟩
 |exact ModTab.at_ (by assumption)
 |exact⟨by assumption⟩
 |exact FnScope.nd (by assumption)
 |(apply nomark;decide)
 |(apply nodC;decide)
 |exact PassesOwn.leaving
 |exact λ_ _=>rfl
 |exact Or.inr (Or.inl rfl)
 |exact Or.inr rfl
 |exact Or.inr (Or.inr rfl)
 |rfl
 |exact λ_=>rfl
 |decide
 |with_reducible intro _)
local macro_rules | `(tactic| trivial) => `(tactic| first
 |eq_refl
 |(with_reducible first
 |(refine idE ?_;exists 1)
 |refine da_c ?_ ?_ ?_
 |exact EY
 |(refine idT ?_;exists 7)
 |(refine idS ?_;exists 6)
 |exists 9)
 |exists 0)
set_option hygiene false in
local macro_rules | `(tactic| exists $t:ident, $g) => `(tactic| exact fnS rfl ($g).F ($g).b ⟨rfl, rfl, rfl, by decide +kernel, rfl, by decide +kernel, by decide +kernel⟩ fun hS _ A _ s _ _ _ _ hr ux => (by have hU := hr.units; have hu := zF hr; have hg := hr.gd; have E2 := E; cases E2; unfold $t:ident; (first | refine eZ ?_ ?_ | refine g7 ?_); repeat' trivial))
set_option hygiene false in
local macro_rules | `(tactic| exists $t:ident, $g, $[$ps:ident],*) => `(tactic| exact fnS rfl ($g).F ($g).b ⟨rfl, rfl, rfl, by decide +kernel, rfl, by decide +kernel, by decide +kernel⟩ fun hS _ A _ s _ _ _ _ hr ux => (by have hU := hr.units; have hu := zF hr; have hg := hr.gd; have E2 := E; cases E2; unfold $t:ident $[$ps:ident]*; (first | refine eZ ?_ ?_ | refine g7 ?_); repeat' trivial))
set_option hygiene false in
local macro_rules | `(tactic| exists ($k), $t:ident, $g, $[$ps:ident],*) => `(tactic| exact fnS (k := $k) rfl ($g).F ($g).b ⟨rfl, rfl, rfl, by decide +kernel, rfl, by decide +kernel, by decide +kernel⟩ fun hS _ A _ s _ _ _ _ hr ux => (by have hU := hr.units; have hu := zF hr; have hg := hr.gd; have E2 := E; cases E2; unfold $t:ident $[$ps:ident]*; (first | refine eZ ?_ ?_ | refine g7 ?_); repeat' trivial))
variable {P:Program}{w:World}{K:JF}{mg:Str->Option Value}{base:Heap}{ad:Ad}(E:En P w K mg base ad)
include E
theorem Gx:dF P w mg base E.f3.F E.f3.b 1 (sK ad):=by
 exists sU,E.f3,uF
theorem EH:dF P w mg base E.f4.F E.f4.b 2 (wr ad):=by
 have:=Gx E
 exists uL,E.f4,uE
theorem z0:dF P w mg base E.f5.F E.f5.b 1 (p_ ad):=by
 exists kG,E.f5
theorem ye:dF P w mg base E.f2.F E.f2.b 1 (jZ ad):=by
 exists vb,E.f2
theorem Gm:dF P w mg base E.f8.F E.f8.b 2 (fI ad):=by
 have:=z0 E;have:=ye E
 exists kP,E.f8,uQ,sL,tY,tQ,tN
theorem Hg:dF P w mg base E.f7.F E.f7.b 3 (mi ad):=by
 have:=Gm E
 exists cW,E.f7,wp,tm,v_,uT,ud
theorem mC:dF P w mg base E.f9.F E.f9.b 1 (dA ad):=by
 exists io,E.f9,mo,ju
theorem G_:dF P w mg base E.f6.F E.f6.b 4 (tz ad):=by
 have:=Hg E;have:=mC E
 exists uz,E.f6,pD,tM,uv,ua,sM,we,u_,tG,sZ,vc
theorem zG:dF P w mg base E.f1.F E.f1.b 5 (lE ad):=by
 have:=EH E;have:=G_ E;have:=z0 E;have:=ye E
 exists vT,E.f1,uW,tF
theorem E_:dF P w mg base E.f11.F E.f11.b 1 (tX ad):=by
 exists vn,E.f11,iZ,jm,nc
theorem zj:dF P w mg base E.f16.F E.f16.b 1 (pN ad):=by
 exists sW,E.f16
theorem J3:dF P w mg base E.f14.F E.f14.b 2 (Cc ad):=by
 have:=mC E
 exists C1,E.f14,nI
theorem ra:∀n:Nat,dF P w mg base E.f13.F E.f13.b (2+n) (Pz ad n)/\dF P w mg base E.f15.F E.f15.b (2+n) (PH ad n):=by
 have:=zj E;have:=J3 E;have:=mC E;intro n
 induction n with
 |zero=>exact⟨cT,cT⟩
 |succ n ih=>
  obtain⟨_,_⟩:=ih;refine⟨?_,?_⟩
  .exists (2+n),vp,E.f13,j5,jA,iY,j7,iX
  .exists (2+n),Dd,E.f15,qL,l0
theorem Jl:dF P w mg base E.f12.F E.f12.b 27 (BZ ad):=by
 obtain⟨_,_⟩:=ra E 24
 exists AA,E.f12,su,mJ
theorem Iw:dF P w mg base E.f10.F E.f10.b 28 (CJ ad):=by
 have:=E_ E;have:=Jl E
 exists Ch,E.f10,nz
theorem kR:∀n:Nat,dF P w mg base E.f18.F E.f18.b (1+n) (PB ad n)/\dF P w mg base E.f19.F E.f19.b (1+n) (PC ad n):=by
 have:=zj E;have:=mC E;intro n
 induction n with
 |zero=>exact⟨cT,cT⟩
 |succ n ih=>
  obtain⟨_,_⟩:=ih;refine⟨?_,?_⟩
  .exists (1+n),tj,E.f18,ou,jg
  .exists (1+n),uB,E.f19,jc,f_,g9,iK
theorem FI:dF P w mg base E.f17.F E.f17.b 30 (sG ad):=by
 have:=Iw E;have:=zG E;obtain⟨_,_⟩:=kR E 24
 exists vj,E.f17,iQ,jb,iR
theorem HH:dF P w mg base E.f20.F E.f20.b 1 (qE ad):=by
 exists BC,E.f20,Ab
theorem F_:dF P w mg base E.f21.F E.f21.b 1 (vX ad):=by
 exists ur,E.f21,vS,uP,tq
theorem fM:dF P w mg base E.f22.F E.f22.b 2 (aW ad):=by
 have:=HH E
 exists vC,E.f22,uc,wg,sR,vJ,uH,wn,vB,uh
theorem Fb:dF P w mg base E.f23.F E.f23.b 3 (vE ad):=by
 have:=fM E
 exists uR,E.f23,tO,vM,tD
theorem z9:dF P w mg base E.f24.F E.f24.b 3 (lV ad):=by
 have:=fM E
 exists sP,E.f24,pz,qq,wj,tW,uw,sO,vf,sH,tP,ut,tI
theorem kd:∀n:Nat,dF P w mg base E.f25.F E.f25.b (3+n) (Px ad n)/\dF P w mg base E.f26.F E.f26.b (3+n) (Pw ad n):=by
 have:=fM E;have:=z9 E;intro n
 induction n with
 |zero=>exact⟨cT,cT⟩
 |succ n ih=>
  obtain⟨_,_⟩:=ih;refine⟨?_,?_⟩
  .exists (3+n),t_,E.f25,uK,wu,vk,uX,vR,ub,tR,tH,uJ
  .exists (3+n),wt,E.f26,tB,vU,sX,uk,vW,tS,vm
theorem Fd:dF P w mg base E.f27.F E.f27.b 28 (uM ad):=by
 have:=fM E;have:=Fb E;obtain⟨_,_⟩:=kd E 24
 exists uD,E.f27,wf,vN,wc,uj
theorem db:∀n:Nat,dF P w mg base E.f28.F E.f28.b (0+n) (PK ad n):=by
 intro n
 induction n with
 |zero=>exact cT
 |succ n ih=>
  exists (0+n),D8,E.f28,qV,ki,k7,nr,on
theorem fP:∀n:Nat,dF P w mg base E.f29.F E.f29.b (24+n) (Py ad n):=by
 have:=fM E;have:=db E 24;have:=z9 E;intro n
 induction n with
 |zero=>exact cT
 |succ n ih=>
  exists (24+n),Dc,E.f29,mQ,gH,jr,j8,gB,o6,mw,mZ,oq,jH,ni,kf,nM,mO
theorem Hl:dF P w mg base E.f30.F E.f30.b 49 (vt ad):=by
 have:=db E 24;have:=Fd E;have:=fP E 24
 exists vh,E.f30,iP,jh,jt,jk
theorem HL:dF P w mg base E.f31.F E.f31.b 1 (C3 ad):=by
 exists B3,E.f31,rZ,mT,sB
theorem jR:∀n:Nat,dF P w mg base E.f32.F E.f32.b (0+n) (Pu ad n):=by
 intro n
 induction n with
 |zero=>exact cT
 |succ n ih=>
  exists (0+n),sY,E.f32,k8,eM,g8,gm,gy,jl,ja,jz,gq,iU,gA,jp,iI
theorem GL:dF P w mg base E.f33.F E.f33.b 25 (tV ad):=by
 have:=HL E;have:=jR E 24
 exists w6,E.f33,iM,jx
theorem gM:∀n:Nat,dF P w mg base E.f34.F E.f34.b (0+n) (PJ ad n):=by
 intro n
 induction n with
 |zero=>exact cT
 |succ n ih=>
  exists (0+n),CO,E.f34,rD,kZ,og,kC,nB,jT
theorem GY:dF P w mg base E.f35.F E.f35.b 25 (qg ad):=by
 have:=gM E 24
 exists wq,E.f35
theorem EO:dF P w mg base E.f36.F E.f36.b 1 (uq ad):=by
 exists sI,E.f36,uZ,vi
theorem F4:Hz P w mg base E.f37.F E.f37.b 1 ad.C_TooBig (vZ ad):=by
 exact fnSE rfl E.f37.F E.f37.b ⟨rfl,rfl,rfl,by decide +kernel,rfl,by decide +kernel,by decide +kernel⟩ rfl λhS _ _ A _ s _ _ _ _ hr ux h0=>(by have hU:=hr.units;have hu:=huN hr;have hg:=hr.gd;have E2:=E;cases E2;unfold tK sN uy;(first|refine eZ ?_ ?_|refine g7 ?_);repeat' trivial)
theorem kA:∀n:Nat,dF P w mg base E.f38.F E.f38.b (0+n) (PD ad n):=by
 intro n
 induction n with
 |zero=>exact cT
 |succ n ih=>
  exists (0+n),gD,E.f38,uA,um,uG,tf,tw,vA,ui,wy,sJ
theorem Ij:dF P w mg base E.f39.F E.f39.b 3 (CT ad):=by
 have:=fM E
 exists CZ,E.f39,oh,mU,mL,nH,mM,nD,o5,ng
theorem FA:dF P w mg base E.f40.F E.f40.b 50 (Aa ad):=by
 have:=kA E 24;have:=Ij E;have:=fM E;have:=GY E;have:=F4 E;have:=EO E;have:=F_ E;have:=Hl E;have:=GL E;have:=zG E;have:=FI E
 exists vQ,E.f40,kn,mR,gG,i_,mG,iS,dQ,j9,j0,ji
end
end Tw
namespace L3
open PySem L2
theorem b6{T:Sd}{EE:DX}{ds:List D}{M:Mem}{Q:DK}{b:BxQ EE Q}{d:D}(hm:∀Q' E',Q' d M->T ds M Q' E')(h:Q d M):calls T EE ds M Q b:=
 au λQ' E' hq _=>hm Q' E' (hq d M h)
theorem bK{α:Type}{xs:List α}{i:Int}(h:0<=i):atI xs i=xs[i.toNat]?:=by
 unfold atI uY;rw[if_pos h]
 by_cases hi:i<xs.length
 .rw[if_pos hi];rfl
 .rw[if_neg hi,Ni (by lia)];rfl
@[simp] theorem atI_0 {α:Type} {xs:List α}:atI xs 0=xs[0]?:=bK (by decide)
@[simp] theorem atI_1 {α:Type} {xs:List α}:atI xs 1=xs[1]?:=bK (by decide)
@[simp] theorem atI_2 {α:Type} {xs:List α}:atI xs 2=xs[2]?:=bK (by decide)
@[simp] theorem atI_3 {α:Type} {xs:List α}:atI xs 3=xs[3]?:=bK (by decide)
@[simp] theorem atI_4 {α:Type} {xs:List α}:atI xs 4=xs[4]?:=bK (by decide)
theorem bt{g:jn}{tb:ar}{DD:DEnds}{ok:Mem->Prop}{b:BxF g tb DD ok}(I:List D->Dl->Mem->Prop)(hok:∀xs Y M,I xs Y M->ok M)(h0:∀Y M,I [] Y M->DD.nx Y M)
  (hs:∀x xs Y M,I (x::xs) Y M->∀D':DEnds,(∀δ' M',I xs δ' M'->D'.nx δ' M')->(∀δ' M',I xs δ' M'->D'.ct δ' M')->D'.rt=DD.rt->D'.bk=DD.nx->g x Y M λδ2 M2=>tb D' δ2 M2):∀xs Y M,I xs Y M->qX g tb DD ok b xs Y M
 |[],Y,M,h=>⟨hok _ _ _ h,h0 Y M h⟩
 |x::xs,Y,M,h=>⟨hok _ _ _ h,hs x xs Y M h _ (λδ' M' h'=>bt I hok h0 hs xs δ' M' h') (λδ' M' h'=>bt I hok h0 hs xs δ' M' h') rfl rfl⟩
theorem bh{g:jn}{tt:eG}{te:bg}{ok:Mem->Prop}{Q:List D->Mem->Prop}{b:BxC g tt te ok Q}(I:List D->List D->Dl->Mem->Prop)(hok:∀xs acc Y M,I xs acc Y M->ok M)(h0:∀acc Y M,I [] acc Y M->Q acc M)
  (hs:∀x xs acc Y M,I (x::xs) acc Y M->∀N:Bool->D->Dl->Mem->Prop,(∀y δ' M',acc.length<sizeLine->I xs (acc++[y]) δ' M'->N true y δ' M')->(∀y δ' M',I xs acc δ' M'->N false y δ' M')->g x Y M λδ2 M2=>tt δ2 M2 λc M3=>if c=true then te δ2 M3 λy M4=>N true y δ2 M4 else N false .non δ2 M3)
  (hl:∀x xs acc Y M,I (x::xs) acc Y M->acc.length<sizeLine):∀xs acc Y M,I xs acc Y M->da g tt te ok Q b xs acc Y M
 |[],acc,Y,M,h=>⟨hok _ _ _ _ h,h0 acc Y M h⟩
 |x::xs,acc,Y,M,h=>⟨hok _ _ _ _ h,hs x xs acc Y M h (λk y δ' M'=>if k=true then acc.length<sizeLine/\da g tt te ok Q b xs (acc++[y]) δ' M' else da g tt te ok Q b xs acc δ' M')
   (λy δ' M' hlen h'=>by rw[if_pos rfl];exact⟨hlen,bh I hok h0 hs hl xs _ δ' M' h'⟩) (λy δ' M' h'=>by rw[if_neg (by simp)];exact bh I hok h0 hs hl xs _ δ' M' h') |> λz=>by simpa using z⟩
theorem aM{n:Nat}(h:n<=1000000):n<=sizeLine:=Ki h (by decide)
theorem gC{n:Nat}(h:n<1000000):n<sizeLine:=JX h (by decide)
end L3
namespace Tw
open PySem L2 L3
inductive Rw where
 |put (x:Str) (k:Int)|take (x:Str) (i:Int)|pick (x y:Str)|two (w x y z:Str)|ifr (x:Str) (a b:List Rw)|again (x:Str) (a:List Rw)
mutual
def Rw.d:Rw->D
 |.put x k=>.tup [.str "put",.str x,.int k]
 |.take x i=>.tup [.str "take",.str x,.int i]
 |.pick x y=>.tup [.str "pick",.str x,.str y]
 |.two w x y z=>.tup [.str w,.str x,.str y,.str z]
 |.ifr x a b=>.tup [.str "if",.str x,.tup (ag a),.tup (ag b)]
 |.again x a=>.tup [.str "again",.str x,.tup (ag a)]
def ag:List Rw->List D
 |[]=>[]
 |r::rs=>r.d::ag rs
end
theorem e_:∀rs:List Rw,ag rs=rs.map Rw.d
 |[]=>rfl
 |r::rs=>by rw[ag,e_ rs];rfl
abbrev Nms:=List (Str×Int)
def gN(n:Nms)(x:Str):Option Int:=(n.find? λp=>decide (p.1=x)).map (·.2)
def nm(n:Nms)(x:Str):Int:=(gN n x).getD 0
theorem ofs_inj(a b:String):(JL a=JL b)=(a=b):=by
 refine propext ⟨λh=>?_,λh=>by rw[h]⟩
 rw[Str.ofString_eq_byList]at h;have h1:=congrArg (λx:Str=>x.cps.toList) h;simp only[Str.ofStringByList]at h1;exact String.toList_inj.mp ((List.map_inj_right λx y e=>Char.toNat_inj.mp e).mp h1)
end Tw
namespace L3
open PySem L2
def bJ:Nat->List D->List D
 |_,[]=>[]
 |k,x::xs=>.tup [.int (k:Nat),x]::bJ (k+1) xs
theorem qk:∀(xs:List D) (k:Nat),(xs.zipIdx k).map (λp=>D.tup [.int (p.2:Nat),p.1])=bJ k xs
 |[],_=>rfl
 |x::xs,k=>by rw[Mp,JO,qk xs (k+1)];rfl
theorem cG(xs:List D):pI xs=bJ 0 xs:=qk xs 0
theorem aA{xs:List D}{M:Mem}:DIt.ok ⟨xs,[]⟩ M:=λ_ h=>by cases h
end L3
namespace Tw
open PySem L2 L3
def gs(names:List Str)(m many:Int):Rw->Prop
 |.put x k=>x∈names/\0<=k/\k<m
 |.take x i=>x∈names/\0<=i/\i<many
 |.pick x y=>x∈names/\y∈names/\0<many
 |.two w x y z=>(w="sum"\/w="by"\/w="less"\/w="same")/\x∈names/\y∈names/\z∈names
 |_=>False
mutual
def cM(names:List Str)(m many:Int):Rw->Prop
 |.ifr x a b=>x∈names/\aO names m many a/\aO names m many b
 |.again x a=>x∈names/\aO names m many a
 |.put x k=>gs names m many (.put x k)
 |.take x k=>gs names m many (.take x k)
 |.pick x k=>gs names m many (.pick x k)
 |.two w x y z=>gs names m many (.two w x y z)
def aO(names:List Str)(m many:Int):List Rw->Prop
 |[]=>True
 |r::rs=>cM names m many r/\aO names m many rs
end
mutual
def hR:Rw->Nat
 |.ifr _ a b=>1+max (bq a) (bq b)
 |.again _ a=>1+bq a
 |_=>0
def bq:List Rw->Nat
 |[]=>0
 |r::rs=>max (hR r) (bq rs)
end
end Tw
open PySem L2 L3 Tw
local macro_rules | `(tactic| simp! [$a,*]) => do let p <- ("uF uE tN tQ tY sL uQ ud uT v_ tm wp ju mo vc sZ tG u_ we sM ua uv tM pD tF uW nc jm iZ nI iX j7 iY jA j5 l0 qL mJ su nz jg ou iK g9 f_ jc iR jb iQ Ab tq uP vS uh vB wn uH vJ sR wg uc tD vM tO tI ut tP sH vf sO uw tW wj qq pz uJ tH tR ub vR uX vk wu uK vm tS vW uk sX vU tB uj wc vN wf on nr k7 ki qV mO nM kf ni jH oq mZ mw o6 gB j8 jr gH mQ jk jt jh iP sB mT rZ iI jp gA iU gq jz ja jl gy gm g8 eM k8 jx iM jT nB kC og kZ rD vi uZ uy sN sJ wy ui vA tw tf uG um uA ng o5 nD mM nH mL mU oh ji j0 j9 dQ iS mG i_ gG mR kn dD pe gQ mF n_ nj mS Fs mE s_ GK iO xL sS AE gE aP startN ak aE ao bR yD al cH gK dv bN fits aG cA ac dC ax zN aC di h9 iT eD Ea oI vw gT aD aH cz aj frz aF BR vF t6 ap af bX aK bY iF CF aa ae av aX br cq Ag bV bU b_ lC eA Ha Cd lw qd bD eE bo cC yG gX hZ pA At xu eV zW sD d_ ba aB ai t7 cL eR eJ Gh bF cF pk yf frzs dg iB qy fJ".splitOn " ").toArray.mapM (fun s => `(Lean.Parser.Tactic.simpLemma| ↓$(Lean.mkIdent s.toName):ident)); let q <- ("List.map_cons List.map_nil List.cons_append List.nil_append List.length_cons List.length_nil List.getElem?_cons_succ List.getElem?_cons_zero List.set_cons_succ List.set_cons_zero Nat.zero_add Nat.reduceAdd Nat.reduceSub List.replicate_succ List.replicate_zero List.append_nil true_and and_true if_true if_false Bool.false_eq_true decide_eq_true_eq decide_eq_false_iff_not Bool.not_true Bool.not_false Bool.and_true Bool.true_and Bool.and_false Bool.false_and Mem.upd_same Option.isSome_some Option.isSome_none ofs_inj String.reduceEq".splitOn " ").toArray.mapM (fun s => `(Lean.Parser.Tactic.simpLemma| $(Lean.mkIdent s.toName):ident)); let r : Lean.TSyntaxArray [`Lean.Parser.Tactic.simpStar, `Lean.Parser.Tactic.simpErase, `Lean.Parser.Tactic.simpLemma] := (p.map (⟨·.raw⟩)) ++ (q.map (⟨·.raw⟩)) ++ a.getElems; `(tactic| simp -dsimp only [$r,*])
namespace Tw
open PySem L2 L3
structure Pt where
 p:Addr
 q:Addr
 ne:p≠q
def Has(k:Pt)(M:Mem):Prop:=∃(cells:List Int) (t h sd:Int),cells.length<=63/\M k.p=some (.lst [.ref k.q,.int t,.int h,.int sd])/\M k.q=some (.lst<|cells.map D.int)
def Dr(k:Pt)(M M':Mem):Prop:=Has k M'/\∀b,b≠k.p->b≠k.q->M' b=M b
theorem Has.refl{k:Pt}{M:Mem}(h:Has k M):Dr k M M:=⟨h,λ_ _ _=>rfl⟩
theorem Dr.trans{k:Pt}{M M1 M2:Mem}(a:Dr k M M1)(b:Dr k M1 M2):Dr k M M2:=⟨b.1,λx h1 h2=>(b.2 x h1 h2).trans (a.2 x h1 h2)⟩
theorem Has.nep{k:Pt}{M:Mem}(h:Has k M){l:Addr}(hl:M l=none):l≠k.p/\l≠k.q:=by
 obtain⟨cells,t,hh,sd,_,e1,e2⟩:=h;exact⟨λe=>(by rw[e,e1]at hl;cases hl),λe=>(by rw[e,e2]at hl;cases hl)⟩
theorem Has.upd{k:Pt}{M:Mem}{l:Addr}{o:MO}(h:Has k M)(h1:l≠k.p/\l≠k.q):Has k (M.upd l o):=by
 obtain⟨cells,t,hh,sd,hc,e1,e2⟩:=h;exact⟨cells,t,hh,sd,hc,by rw[ah (Kw h1.1)];exact e1,by rw[ah (Kw h1.2)];exact e2⟩
theorem Has.del{k:Pt}{M:Mem}{l:Addr}(h:Has k M)(h1:l≠k.p/\l≠k.q):Has k (M.del l):=by
 obtain⟨cells,t,hh,sd,hc,e1,e2⟩:=h;refine⟨cells,t,hh,sd,hc,?_,?_⟩
 .unfold Mem.del;rw[if_neg (Kw h1.1)];exact e1
 .unfold Mem.del;rw[if_neg (Kw h1.2)];exact e2
theorem Dr.none{k:Pt}{M M':Mem}(h0:Has k M)(h:Dr k M M'){l:Addr}(hl:M l=none):M' l=none:=by
 have:=h0.nep hl;rw[h.2 l this.1 this.2];exact hl
theorem lO:∀(n:Nat) (cs:List Int),fits n (cs.map D.int)=true
 |_,[]=>by unfold fits;rfl
 |n,c::cs=>by
  rw[JO];unfold fits;rw[lO n cs];cases n<;>rfl
theorem gk{ad:Ad}{M:Mem}{Q:DK}{E:DX}{a b:Int}(h:∀r,Q (.int r) M):qE ad [.int a,.int b] M Q E:=by
 simp![u_q7,BC];refine⟨.inr (by decide),.inr (by decide),by decide,⟨by decide,by decide⟩,.inr (by decide),by decide,⟨by decide,by decide⟩,aq<|h _⟩
theorem zb{α:Type}{x:α}{xs:List α}:atI (x::xs) 0=some x:=by rw[atI_0];rfl
theorem oN{a m:Int}(h:0<m):0<=a % m/\a % m<m:=⟨Int.emod_nonneg _ (by lia),Int.emod_lt_of_pos _ h⟩
theorem Aj{n:Nat}{i:Int}(h:0<=i)(h2:i<n):uY n i=some i.toNat:=by unfold uY;rw[if_pos h,if_pos h2]
theorem ix0{n:Nat}:uY (n+1) 0=some 0:=Aj (by decide) (by lia)
theorem DB:uY 4 2=some 2:=rfl
theorem bZ{s u:ar}{D0:DEnds}{Y:Dl}{M:Mem}(h:s { D0 with nx:=u D0 } Y M):ak s u D0 Y M:=h
theorem Bh{D0:DEnds}{Y:Dl}{M:Mem}{k:Pt}{t hh sd:Int}(h0:Y[0]?=some (some<|.ref k.p))(e1:M k.p=some (.lst [.ref k.q,.int t,.int hh,.int sd]))(h:D0.nx Y (M.upd k.p<|.lst [.ref k.q,.int (t+1),.int hh,.int sd])):
  ap (al aF (al aD (ac 0)<|dC<|.int 1)<|dC<|.int 1) (iF (ac 0)<|dC<|.int 1) D0 Y M:=by
 simp![h0,e1,atI_1,Aj (n:=4) (i:=1) (by decide) (by decide),show (1:Int).toNat=1 from rfl]
 exact h
theorem uO{ad:Ad}{EE:DX}{D0:DEnds}{M:Mem}{k:Pt}{t hh sd many:Int}{c2:Option D}(h0:0<many)(h1:many<2 ^ 62)(e1:M k.p=some (.lst [.ref k.q,.int t,.int hh,.int sd]))
  (ha:∀r,D0.rt (.int<|r % many) M) (hb:D0.rt (.int<|hh % many) (M.upd k.p<|.lst [.ref k.q,.int t,.int (hh / many),.int sd])):
  (ak (aE (ao<|al cH (al aD (ac 0)<|dC<|.int 2)<|dC<|.int 0) (ax<|al iD (aj<|ai (qE ad) EE 2<|aa (al aD (ac 0)<|dC<|.int 3)<|aa (al aD (ac 0)<|dC<|.int 1) ae)<|ac 1) aC)
  (ak (ap (al iD (al aD (ac 0)<|dC<|.int 2)<|ac 1)<|af 3)
  (ak (ap (al lL (al aD (ac 0)<|dC<|.int 2)<|ac 1)<|iF (ac 0)<|dC<|.int 2)
  (ax<|ac 3)))) D0 [some (.ref k.p),some (.int many),c2,none] M:=by
 simp![e1,atI_1,atI_2,atI_3]
 by_cases ez:hh=0
 .rw[if_pos ez]
  refine au λQ' E' hq _=>gk λr=>hq _ _ ?_;simp![];exact⟨h0,ha r⟩
 .rw[if_neg ez]
  simp![e1,DB];exact⟨h0,⟨h0,by lia⟩,hb⟩
theorem B8{ad:Ad}{EE:DX}{D0:DEnds}{M:Mem}{k:Pt}{t hh sd many:Int}{cells:List Int}(h0:0<many)(e1:M k.p=some (.lst [.ref k.q,.int t,.int hh,.int sd]))(e2:M k.q=some (.lst<|cells.map D.int))
  (hA:D0.nx [some (.ref k.p),some (.int many),none,none] M)
  (hB:∀c cs,hh=0->cells=c::cs->∀r,D0.rt (.int<|r % many) (M.upd k.q<|.lst<|cs.map D.int))
  (hC:∀c cs,hh=0->cells=c::cs->¬c<10 ^ Int.toNat 18->D0.nx [some (.ref k.p),some (.int many),some (.int c),none] ((M.upd k.q<|.lst<|cs.map D.int).upd k.p<|.lst [.ref k.q,.int t,.int c,.int sd])):
  aE (h9 (ao<|al cH (al aD (ac 0)<|dC<|.int 2)<|dC<|.int 0)<|ao<|al gK (al aD (ac 0)<|dC<|.int 0)<|aj<|aX ae) (ak (ap (eE "list" yG (al aD (ac 0)<|dC<|.int 0)<|aa (dC<|.int 0) ae)<|af 2)
   (ak (aE (ao<|al DC (ac 2)<|al Fx (dC<|.int 10)<|dC<|.int 18) (ax<|al iD (aj<|ai (qE ad) EE 2<|aa (ac 2)<|aa (al aD (ac 0)<|dC<|.int 1) ae)<|ac 1) aC)
   (ap (ac 2)<|iF (ac 0)<|dC<|.int 2))) aC D0 [some (.ref k.p),some (.int many),none,none] M:=by
 have hne:=k.ne;simp![e1,atI_2,zb]
 by_cases ez:hh=0
 .rw[if_pos ez]
  refine⟨aM (by decide),λp hp=>?_⟩
  simp only[Mem.upd_del,am hp,e2];cases cells with
  |nil=>
   simp![];exact hA
  |cons c cs=>
   have g2:∀o',(M.upd k.q o') k.p=some (.lst [.ref k.q,.int t,.int hh,.int sd]):=λo'=>by rw[ah hne,e1]
   simp![zb,e1,e2,g2,lO,ix0,DB,List.eraseIdx_zero,List.tail_cons,atI_1,atI_2,atI_3];refine⟨⟨by decide,by decide,by decide⟩,?_⟩
   by_cases hb:c<10 ^ Int.toNat 18
   .rw[if_pos hb]
    refine au λQ' E' hq _=>gk λr=>hq _ _ ?_;simp![];exact⟨h0,hB c cs ez rfl r⟩
   .rw[if_neg hb]
    exact hC c cs ez rfl hb
 .rw[if_neg ez]
  exact hA
theorem ib{ad:Ad}{M:Mem}{Q:DK}{E:DX}{k:Pt}{many:Int}(hp:Has k M)(h0:0<many)(h1:many<2 ^ 62)(h:∀r M',0<=r->r<many->Dr k M M'->Q (.int r) M'):
  aW ad [.ref k.p,.int many] M Q E:=by
 obtain⟨cells,t,hh,sd,hc,e1,e2⟩:=hp;have hne:=k.ne;have fin:∀(r:Int) (M':Mem) (cells':List Int) (t' hh' sd':Int),cells'.length<=63->(∀b,b≠k.p->b≠k.q->M' b=M b)->M' k.p=some (.lst [.ref k.q,.int t',.int hh',.int sd'])->M' k.q=some (.lst<|cells'.map D.int)->drp Q (.int<|r % many) M':=by
  intro r M' cells' t' hh' sd' a1 a2 a3 a4;exact aq (h _ _ (oN h0).1 (oN h0).2 ⟨⟨cells',t',hh',sd',a1,a3,a4⟩,a2⟩)
 have g1:∀o,(M.upd k.p o) k.q=some (.lst<|cells.map D.int):=λo=>by rw[ah (Kw hne)];exact e2
 rw[IW (n:=0)];unfold vC;refine bZ (Bh rfl e1 ?_);dsimp only;refine bZ (B8 h0 Mem.upd_same (g1 _) ?_ (λc cs ez ec r=>?_) λc cs ez ec hb=>?_)
 .dsimp only
  refine uO h0 h1 Mem.upd_same (λr=>?_) ?_
  .exact fin _ _ cells _ _ _ hc (λb b1 b2=>ah b1) Mem.upd_same (g1 _)
  .exact fin _ _ cells _ _ _ hc (λb b1 b2=>by rw[ah b1,ah b1]) Mem.upd_same (by rw[ah (Kw hne),g1])
 .subst ec
  exact fin _ _ cs _ _ _ (by simp at hc;lia) (λb b1 b2=>by rw[ah b2,ah b1]) (by rw[ah hne,Mem.upd_same]) Mem.upd_same
 .subst ec
  dsimp only;refine uO h0 h1 Mem.upd_same (λr=>?_) ?_
  .exact fin _ _ cs _ _ _ (by simp at hc;lia) (λb b1 b2=>by rw[ah b1,ah b2,ah b1]) Mem.upd_same (by rw[ah (Kw hne),Mem.upd_same])
  .exact fin _ _ cs _ _ _ (by simp at hc;lia) (λb b1 b2=>by rw[ah b1,ah b1,ah b2,ah b1]) Mem.upd_same (by rw[ah (Kw hne),ah (Kw hne),Mem.upd_same])
theorem cN{xs:List D}{k:Nat}:df xs none (some (k:Int))=xs.take k:=by
 unfold df;rw[HT.oS,HT.ul,List.drop_zero,Nat.sub_zero];rcases Nat.le_total k xs.length with h|h
 .rw[Nat.min_eq_left h]
 .rw[Nat.min_eq_right h,Mg (JE _),Mg h]
theorem oj{xs:List D}{k:Nat}:df xs (some (k:Int)) none=xs.drop k:=by
 unfold df;rw[HT.oS,HT.ul];rcases Nat.le_total k xs.length with h|h
 .rw[Nat.min_eq_left h,Mg (by simp)]
 .rw[Nat.min_eq_right h,OL (JE _),OL h];simp
theorem yh{ad:Ad}{M:Mem}{Q:DK}{E:DX}{ns:List Int}(h:∀(k:Pt) M',Has k M'->(∀b,b≠k.p->b≠k.q->M' b=M b)->Q (.ref k.p) M'):vX ad [.ml (ns.map D.int)] M Q E:=by
 have c63:df (ns.map D.int) none (some 63)=(ns.take 63).map D.int:=by rw[List.map_take];exact cN (k:=63)
 simp![HM,ur,bW,c63];intro a ha;refine bt (λxs Y M'=>∃(cs:List Int) (sd:Int) (c2:Option D),xs=cs.map D.int/\Y=[some (.ml<|ns.map D.int),some (.int sd),c2]/\M'=M) (λ_ _ _ _=>aA) ?_ ?_ _ _ _ ⟨ns.take 63,7,none,rfl,rfl,by rw[Mem.upd_del,am ha]⟩
 .rintro Y M' ⟨cs,sd,c2,_,rfl,rfl⟩
  simp![c63];intro b hb;rw[Mem.upd_del,am hb];intro q hq;refine⟨aM (by decide),λp hp=>?_⟩
  have ne:p≠q:=by intro e;subst e;rw[Mem.upd_same]at hp;cases hp
  refine aq (h ⟨p,q,ne⟩ _ ⟨ns.take 63,0,0,sd,by simp;lia,Mem.upd_same,?_⟩ λb b1 b2=>?_)
  .show ((M'.upd q _).upd p _) q=_
   rw[ah (Kw ne),Mem.upd_same]
  .rw[ah b1,ah b2]
 .rintro x xs Y M' ⟨cs,sd,c2,e1,rfl,rfl⟩ D' hnx _ _ _
  cases cs with
  |nil=>simp at e1
  |cons c cs=>
   simp only[JO,Kc]at e1;obtain⟨rfl,rfl⟩:=e1;simp![];exact⟨.inr (by decide),by decide,hnx _ _ ⟨cs,_,_,rfl,rfl,rfl⟩⟩
def alpha:Str:="abcdefghijklmnopqrstuvwxyz"
theorem yT:∀i<26,alpha.cps.toList[i]?=some (97+i):=by decide +kernel
theorem xK:alpha.length<=sizeLine:=Ki (show alpha.length<=100 by decide +kernel) (by decide)
theorem pQ{names:List Str}{t:Nat}(hl:names.length<=12)(h:∀(j:Nat) (hj:j<names.length),names[j].cps[0]?=some (97+(t+7*j) % 26)):names.Nodup:=by
 refine L6.mpr λi j hi hj hij e=>?_;have h1:=h i hi;have h2:=h j hj;rw[e,h2]at h1;have h3:=Kl h1;lia
def xI(x:Str):Prop:=∃(n c:Nat),1<=n/\n<=8/\97<=c/\c<=122/\x=⟨LH n c⟩
theorem sF{ad:Ad}{M:Mem}{Q:DK}{E:DX}{k:Pt}{many:Nat}(hp:Has k M)(h1:many<=12)(h:∀(names:List Str) (M':Mem),names.length=many->names.Nodup->(∀x∈names,xI x)->Dr k M M'->Q (.tup<|names.map D.str) M'):vE ad [.ref k.p,.int many] M Q E:=by
 simp![Jq,uR,bW];refine au λQ' E' hq _=>ib hp (by decide) (by decide) λturn M1 t0 t1 d1=>hq _ _ ?_
 simp![];refine⟨aM (by decide),λl hl=>?_⟩
 have nel:=d1.1.nep hl;refine⟨by lia,by lia,?_⟩
 obtain⟨t,rfl⟩:=OO t0
 refine bt (λxs Y M'=>∃(j:Nat) (acc:List Str) (c4 c5:Option D),j<=many/\xs=(Nq j (many-j)).map (λ(i:Nat)=>D.int (0+(i:Int)))/\Y=[some (.ref k.p),some (.int (many:Nat)),some (.int (t:Nat)),some (.ref l),c4,c5]/\acc.length=j/\(∀(i:Nat) (hi:i<acc.length),acc[i].cps[0]?=some (97+(t+7*i) % 26))/\(∀x∈acc,xI x)/\
  Has k M'/\M' l=some (.lst<|acc.map D.str)/\∀b,b≠k.p->b≠k.q->b≠l->M' b=M1 b) (λ_ _ _ _=>aA) ?_ ?_ _ _ _ ⟨0,[],none,none,KR _,?_,rfl,rfl,?_,by simp,d1.1.upd nel,Mem.upd_same,λb _ _ hb=>ah hb⟩
 .rintro Y M' ⟨j,acc,c4,c5,hj,e,rfl,ha,hf,hone,hh,hm,hs⟩
  have:j=many:=by
   have:=congrArg Km e;simp at this;lia
  subst this;simp![hm];refine⟨M'.del l,λb o e=>?_,h acc _ ha (pQ (by lia) hf) hone ⟨hh.del nel,λb b1 b2=>?_⟩⟩
  .unfold Mem.del at e;split at e
   .cases e
   .exact e
  .unfold Mem.del
   split
   .rename_i e;subst e;rw[<- d1.2 b b1 b2];exact hl.symm
   .rename_i e;rw[hs b b1 b2 e,d1.2 b b1 b2]
 .rintro x xs Y M' ⟨j,acc,c4,c5,hj,e,rfl,ha,hf,hone,hh,hm,hs⟩ D' hnx _ _ _
  have hjl:j<many:=by
   have:=congrArg Km e;simp at this;lia
  obtain⟨n,hn⟩:∃n,many-j=n+1:=⟨many-j-1,by lia⟩
  rw[hn,List.range'_succ,JO,Kc]at e;obtain⟨rfl,rfl⟩:=e;have hidx:atI alpha.cps.toList (((t:Nat)+7*(0+(j:Int))) % 26)=some (97+(t+7*j) % 26):=by
   have:(((t:Nat):Int)+7*(0+(j:Int))) % 26=(((t+7*j) % 26:Nat):Int):=by lia
   rw[this,bK (by lia),KD,yT _ (by lia)]
  simp only[alpha]at hidx;simp![hidx,hm];refine⟨.inl (by decide),by decide,xK,?_⟩
  refine au λQ' E' hq _=>ib hh (by decide) (by decide) λr M2 r0 r1 d2=>hq _ _ ?_
  have hm2:M2 l=some (.lst<|acc.map D.str):=by rw[d2.2 l nel.1 nel.2];exact hm
  simp![hm2];refine⟨by lia,by lia,by simp;exact gC (by lia),hnx _ _ ⟨j+1,acc++[⟨LH (1+r).toNat (97+(t+7*j) % 26)⟩],_,_,by lia,?_,rfl,by simp[ha],?_,?_,d2.1.upd nel,?_,?_⟩⟩
  .rw[show many-(j+1)=n by lia]
  .intro i hi
   by_cases hij:i<acc.length
   .rw[List.getElem_append_left hij];exact hf i hij
   .have:i=acc.length:=by simp at hi;lia
    subst this;rw[List.getElem_append_right (JE _)];simp only[Nat.sub_self,OK];rw[Array.getElem?_replicate,if_pos (by lia),ha]
  .intro x hx
   rcases JW.mp hx with hx|hx
   .exact hone x hx
   .simp at hx;subst hx
    exact⟨(1+r).toNat,97+(t+7*j) % 26,by lia,by lia,by lia,by lia,rfl⟩
  .rw[Mem.upd_same];simp
  .intro b b1 b2 b3
   rw[ah b3,d2.2 b b1 b2,hs b b1 b2 b3]
 .simp[dl,O5]
 .intro i hi;simp at hi
@[simp] theorem atI_5 {α:Type} {xs:List α}:atI xs 5=xs[5]?:=bK (by decide)
@[simp] theorem atI_6 {α:Type} {xs:List α}:atI xs 6=xs[6]?:=bK (by decide)
@[simp] theorem atI_7 {α:Type} {xs:List α}:atI xs 7=xs[7]?:=bK (by decide)
@[simp] theorem atI_8 {α:Type} {xs:List α}:atI xs 8=xs[8]?:=bK (by decide)
theorem j6{names:List Str}{r:Int}(h0:0<=r)(h1:r<names.length):∃y,y∈names/\atI (names.map D.str) r=some (.str y):=by
 have hr:r.toNat<names.length:=by lia
 refine⟨names[r.toNat],Mq hr,?_⟩;rw[bK h0,Kf,JG hr];rfl
structure ToldOk(names:List Str)(m many:Int):Prop where
 m2:2<=m
 m1:m<=997
 n0:0<names.length
 n1:names.length<=12
 k0:0<=many
 k1:many<=40
def cf(names:List Str)(m many:Int):D:=.tup [.int m,.tup (names.map D.str),.int many]
theorem aI{ad:Ad}{M:Mem}{Q:DK}{EE:DX}{b:BxQ EE Q}{k:Pt}{many:Int}(hp:Has k M)(h0:0<many)(h1:many<2 ^ 62)(h:∀r M',0<=r->r<many->Dr k M M'->Q (.int r) M'):calls (aW ad) EE [.ref k.p,.int many] M Q b:=
 au λQ' E' hq _=>ib hp h0 h1 λr M' r0 r1 d=>hq _ _ (h r M' r0 r1 d)
section
variable {ad:Ad}{EE:DX}{D0:DEnds}{Y:Dl}{M:Mem}{k:Pt}
theorem Gy{te:bg}{i:Nat}(h:te Y M λd M1=>D0.nx (Y.set i<|some d) M1):ap te (af i) D0 Y M:=h
theorem zD{i:Nat}{d:D}(h:Y[i]?=some (some d)){K:DK}(hK:K d M):ac i Y M K:=by simp only[ac,h];exact hK
theorem qN{i:Nat}{w c:Str}{A B:ar}(hv:Y[i]?=some (some<|.str w))(h1:w=c->A D0 Y M)(h2:w≠c->B D0 Y M):aE (ao<|al cH (ac i)<|dC<|.str c) A B D0 Y M:=by
 have e:aE (ao<|al cH (ac i)<|dC<|.str c) A B D0 Y M=(if w=c then A D0 Y M else B D0 Y M):=by
  simp[aE,ao,al,ac,dC,cH,bN,dv,aG,hv]
 rw[e]
 by_cases q:w=c
 .rw[if_pos q];exact h1 q
 .rw[if_neg q];exact h2 q
theorem Fo{te:bg}{v:Int}{K:DK}(h0:Y[0]?=some (some<|.ref k.p))(ht:∀K:DK,K (.int v) M->te Y M K)(hp:Has k M)(v0:0<v)(v1:v<2 ^ 62)(h:∀r M',0<=r->r<v->Dr k M M'->K (.int r) M'):
  ai (aW ad) EE 2 (aa (ac 0)<|aa te ae) Y M K:=by
 simp only[ai,aa,ac,ae,h0];refine ht _ ?_;exact⟨rfl,aI hp v0 v1 h⟩
theorem Ce{K:DK}{te:bg}(h:te Y M λd M'=>frz d M' K):aj te Y M K:=h
theorem E5{te:bg}{v:Int}{K:DK}(h0:Y[0]?=some (some<|.ref k.p))(ht:∀K:DK,K (.int v) M->te Y M K)(hp:Has k M)(v0:0<v)(v1:v<2 ^ 62)(h:∀r M',0<=r->r<v->Dr k M M'->K (.int r) M'):
  aj (ai (aW ad) EE 2<|aa (ac 0)<|aa te ae) Y M K:=
 Ce (Fo h0 ht hp v0 v1 λr M' a b d=>by simp only[frz];exact h r M' a b d)
theorem Go{i:Nat}{names:List Str}{K:DK}(h0:Y[0]?=some (some<|.ref k.p))(h3:Y[i]?=some (some<|.tup<|names.map D.str))(hp:Has k M)(n0:0<names.length)(n1:names.length<=12)(h:∀x M',x∈names->Dr k M M'->K (.str x) M'):
  al aD (ac i) (aj<|ai (aW ad) EE 2<|aa (ac 0)<|aa (br cq<|aa (ac i) ae) ae) Y M K:=by
 have hl:∀K:DK,K (.int names.length) M->br cq (aa (ac i) ae) Y M K:=λK hK=>by
  simp![h3,JK];exact hK
 simp only[al];refine zD h3 (E5 h0 hl hp (by lia) (by lia) λr M' a b d=>?_)
 obtain⟨x,hx,ex⟩:=j6 a b;simp![ex];exact h x M' hx d
theorem EX{a b:D}{i j:Nat}{te:bg}(hi:Y[i]?=some (some a))(hj:Y[j]?=some (some b))(h:te Y M λd M'=>3<=sizeLine/\D0.rt (.tup [a,b,d]) M'):ax (av<|aa (ac i)<|aa (ac j)<|aa te ae) D0 Y M:=by
 simp only[ax,av,aa,ae,ac,hi,hj];exact h
theorem ret4{a b c:D}{i j l:Nat}{te:bg}(hi:Y[i]?=some (some a))(hj:Y[j]?=some (some b))(hl:Y[l]?=some (some c))(h:te Y M λd M'=>4<=sizeLine/\D0.rt (.tup [a,b,c,d]) M'):ax (av<|aa (ac i)<|aa (ac j)<|aa (ac l)<|aa te ae) D0 Y M:=by
 simp only[ax,av,aa,ae,ac,hi,hj,hl];exact h
theorem C9{a:Option D}{names:List Str}{m many:Int}{s:Dl}(h:D0.nx (a::some (cf names m many)::some (.int m)::some (.tup<|names.map D.str)::some (.int many)::s) M){b c d:Option D}:
  ap (ac 1) (bX 3<|aK (af 2)<|aK (af 3)<|aK (af 4) bY) D0 (a::some (cf names m many)::b::c::d::s) M:=by
 unfold cf at h ⊢;simp![];exact h
end
def waysL:List Str:=["put","sum","by","less","same","sum","put","take","pick"]
def DN(many:Int)(w:Str):Prop:=w="put"\/(w="sum"\/w="by"\/w="less"\/w="same")\/(0<many/\(w="take"\/w="pick"))
section
variable {ad:Ad}{EE:DX}{D0:DEnds}{Y:Dl}{M:Mem}{k:Pt}{many:Int}
theorem Bk(h:D0.nx (Y.set 5<|some<|.lst<|waysL.map D.str) M):
  ap (aj<|aX<|aa (dC<|.str "put")<|aa (dC<|.str "sum")<|aa (dC<|.str "by")<|aa (dC<|.str "less")<|aa (dC<|.str "same")<|aa (dC<|.str "sum")<|aa (dC<|.str "put")<|aa (dC<|.str "take")<|aa (dC<|.str "pick") ae) (af 5) D0 Y M:=by
 simp![];refine⟨aM (by decide),λp hpn=>?_⟩
 rw[Mem.upd_del,am hpn];exact h
theorem Fh(r:Nat)(h1:r<if 0<many then 9 else 7):∃w,atI (waysL.map D.str) (r:Int)=some (.str w)/\DN many w:=by
 rw[bK (by lia),KD]
 by_cases hm:0<many
 .rw[if_pos hm]at h1
  match r,h1 with
  |0,_=>exact⟨_,rfl,.inl rfl⟩
  |1,_=>exact⟨_,rfl,.inr<|.inl<|.inl rfl⟩
  |2,_=>exact⟨_,rfl,.inr<|.inl<|.inr<|.inl rfl⟩
  |3,_=>exact⟨_,rfl,.inr<|.inl<|.inr<|.inr<|.inl rfl⟩
  |4,_=>exact⟨_,rfl,.inr<|.inl<|.inr<|.inr<|.inr rfl⟩
  |5,_=>exact⟨_,rfl,.inr<|.inl<|.inl rfl⟩
  |6,_=>exact⟨_,rfl,.inl rfl⟩
  |7,_=>exact⟨_,rfl,.inr<|.inr ⟨hm,.inl rfl⟩⟩
  |8,_=>exact⟨_,rfl,.inr<|.inr ⟨hm,.inr rfl⟩⟩
 .rw[if_neg hm]at h1
  match r,h1 with
  |0,_=>exact⟨_,rfl,.inl rfl⟩
  |1,_=>exact⟨_,rfl,.inr<|.inl<|.inl rfl⟩
  |2,_=>exact⟨_,rfl,.inr<|.inl<|.inr<|.inl rfl⟩
  |3,_=>exact⟨_,rfl,.inr<|.inl<|.inr<|.inr<|.inl rfl⟩
  |4,_=>exact⟨_,rfl,.inr<|.inl<|.inr<|.inr<|.inr rfl⟩
  |5,_=>exact⟨_,rfl,.inr<|.inl<|.inl rfl⟩
  |6,_=>exact⟨_,rfl,.inl rfl⟩
theorem Jt{K:DK}(h0:Y[0]?=some (some<|.ref k.p))(h4:Y[4]?=some (some<|.int many))(h5:Y[5]?=some (some<|.lst<|waysL.map D.str))(hp:Has k M)(h:∀w M',DN many w->Dr k M M'->K (.str w) M'):
  al aD (ac 5) (aj<|ai (aW ad) EE 2<|aa (ac 0)<|aa (zN (ao<|al zV (ac 4)<|dC<|.int 0) (dC<|.int 9)<|dC<|.int 7) ae) Y M K:=by
 have hl:∀K:DK,K (.int (if 0<many then 9 else 7)) M->zN (ao<|al zV (ac 4)<|dC<|.int 0) (dC<|.int 9) (dC<|.int 7) Y M K:=λK hK=>by
  simp![h4]
  by_cases hm:0<many
  .rw[if_pos hm]at hK ⊢;exact hK
  .rw[if_neg hm]at hK ⊢;exact hK
 simp only[al];refine zD h5 (E5 h0 hl hp (by split<;>decide) (by split<;>decide) λr M' a b d=>?_)
 obtain⟨r,rfl⟩:=OO a;obtain⟨w,ew,hw⟩:=Fh (many:=many) r (by split at b<;>(split<;>lia))
 simp![ew];exact h w M' hw d
end
theorem o_{ad:Ad}{M:Mem}{Q:DK}{E:DX}{k:Pt}{names:List Str}{m many:Int}(hp:Has k M)(ht:ToldOk names m many)(h:∀(r:Rw) M',gs names m many r->Dr k M M'->Q r.d M'):lV ad [.ref k.p,cf names m many] M Q E:=by
 obtain⟨m2,m1,n0,n1,k0,k1⟩:=ht;rw[Iq (n:=0)];unfold sP;refine bZ (C9 ?_);dsimp only;refine bZ (Bk ?_);dsimp only;refine bZ (Gy (Jt rfl rfl rfl hp λw M1 hw d1=>?_));dsimp only;refine bZ (Gy (Go rfl rfl d1.1 n0 n1 λx M2 hx d2=>?_));dsimp only;refine bZ (qN rfl (λe=>?_) λe1=>?_)
 .subst e
  refine EX rfl rfl (Fo rfl (λK q=>zD rfl q) d2.1 (by lia) (by lia) λr M3 a b d3=>?_)
  exact⟨aM (by decide),aq<|h (.put x r) M3 ⟨hx,a,b⟩<|d1.trans<|d2.trans d3⟩
 dsimp only[aC];refine bZ (qN rfl (λe=>?_) λe2=>?_)
 .subst e
  have hm:0<many:=by
   rcases hw with e|(e|e|e|e)|e
   .exact(e1 e).elim
   .exact absurd e (by decide +kernel)
   .exact absurd e (by decide +kernel)
   .exact absurd e (by decide +kernel)
   .exact absurd e (by decide +kernel)
   .exact e.1
  refine EX rfl rfl (Fo rfl (λK q=>zD rfl q) d2.1 (by lia) (by lia) λr M3 a b d3=>?_)
  exact⟨aM (by decide),aq<|h (.take x r) M3 ⟨hx,a,b⟩<|d1.trans<|d2.trans d3⟩
 dsimp only[aC];refine bZ (Gy (Go rfl rfl d2.1 n0 n1 λy M3 hy d3=>?_));dsimp only;refine bZ (qN rfl (λe=>?_) λe3=>?_)
 .subst e
  have hm:0<many:=by
   rcases hw with e|(e|e|e|e)|e
   .exact(e1 e).elim
   .exact absurd e (by decide +kernel)
   .exact absurd e (by decide +kernel)
   .exact absurd e (by decide +kernel)
   .exact absurd e (by decide +kernel)
   .exact e.1
  exact EX rfl rfl (zD rfl ⟨aM (by decide),aq<|h (.pick x y) M3 ⟨hx,hy,hm⟩<|d1.trans<|d2.trans d3⟩)
 dsimp only[aC];have w4:w="sum"\/w="by"\/w="less"\/w="same":=by
  rcases hw with e|e|⟨_,e|e⟩
  .exact(e1 e).elim
  .exact e
  .exact(e2 e).elim
  .exact(e3 e).elim
 refine ret4 rfl rfl rfl (Go rfl rfl d3.1 n0 n1 λz M4 hz d4=>?_);exact⟨aM (by decide),aq<|h (.two w x y z) M4 ⟨w4,hx,hy,hz⟩<|d1.trans<|d2.trans<|d3.trans d4⟩
mutual
def Hv:Rw->Prop
 |.ifr _ a b=>(a.length<=200/\dU a)/\b.length<=200/\dU b
 |.again _ a=>a.length<=200/\dU a
 |_=>True
def dU:List Rw->Prop
 |[]=>True
 |r::rs=>Hv r/\dU rs
end
theorem LnRs_append:∀{a b:List Rw},dU (a++b)↔dU a/\dU b
 |[],b=>by simp[dU]
 |r::a,b=>by simp[dU,LnRs_append,and_assoc]
mutual
def cR:Rw->Nat
 |.ifr _ a b=>1+cRs a+cRs b
 |.again _ a=>1+cRs a
 |.put _ _=>1
 |.take _ _=>1
 |.pick _ _=>1
 |.two _ _ _ _=>1
def cRs:List Rw->Nat
 |[]=>0
 |r::rs=>cR r+cRs rs
end
theorem aU:∀{a b:List Rw},cRs (a++b)=cRs a+cRs b
 |[],b=>by simp[cRs]
 |r::a,b=>by simp only[Ky,cRs,aU];lia
theorem Ec{names:List Str}{m many:Int}{r:Rw}(h:gs names m many r):cR r=1:=by
 cases r with
 |ifr=>exact h.elim
 |again=>exact h.elim
 |_=>simp only[cR]
def Rv(rm:Addr)(M:Mem)(v:Int):Prop:=M rm=some (.lst [.int v])/\0<=v
def Kp(k:Pt)(rm:Addr)(M M':Mem):Prop:=Has k M'/\(∃v:Int,M' rm=some (.lst [.int v]))/\∀b o,b≠k.p->b≠k.q->b≠rm->M b=some o->M' b=some o
theorem Kp.trans{k:Pt}{rm:Addr}{M M1 M2:Mem}(a:Kp k rm M M1)(b:Kp k rm M1 M2):Kp k rm M M2:=⟨b.1,b.2.1,λx o h1 h2 h3 h=>b.2.2 x o h1 h2 h3 (a.2.2 x o h1 h2 h3 h)⟩
structure Rm(k:Pt)(rm:Addr)(M:Mem):Prop where
 h:Has k M
 n1:rm≠k.p
 n2:rm≠k.q
 v:∃v:Int,M rm=some (.lst [.int v])
theorem Rm.kp{k:Pt}{rm:Addr}{M:Mem}(r:Rm k rm M):Kp k rm M M:=⟨r.h,r.v,λ_ _ _ _ _ e=>e⟩
theorem Rm.go{k:Pt}{rm:Addr}{M M':Mem}(r:Rm k rm M)(d:Kp k rm M M'):Rm k rm M':=⟨d.1,r.n1,r.n2,d.2.1⟩
theorem Rm.dr{k:Pt}{rm:Addr}{M M':Mem}(r:Rm k rm M)(d:Dr k M M'):Kp k rm M M':=⟨d.1,by obtain⟨v,e⟩:=r.v;exact⟨v,by rw[d.2 rm r.n1 r.n2];exact e⟩,λb o h1 h2 _ e=>by rw[d.2 b h1 h2];exact e⟩
theorem Rm.new{k:Pt}{rm:Addr}{M:Mem}(r:Rm k rm M){l:Addr}(hl:M l=none)(o:MO):Kp k rm M (M.upd l o):=by
 have a:=r.h.nep hl;obtain⟨v,e⟩:=r.v;have b:rm≠l:=Mem.ne e hl;exact⟨r.h.upd a,⟨v,by rw[ah b];exact e⟩,λc o _ _ _ e=>by rw[ah (Mem.ne e hl)];exact e⟩
theorem Rm.set{k:Pt}{rm:Addr}{M:Mem}(r:Rm k rm M)(v:Int):Kp k rm M (M.upd rm<|.lst [.int v]):=
 ⟨r.h.upd ⟨r.n1,r.n2⟩,⟨v,Mem.upd_same⟩,λc o _ _ h e=>by rw[ah h];exact e⟩
section
variable {ad:Ad}{k:Pt}{rm:Addr}{names:List Str}{m many:Int}
def PRo(ad:Ad)(k:Pt)(rm:Addr)(names:List Str)(m many:Int)(n:Nat):Prop:=∀(deep:Nat) (most:Int) (M:Mem) (Q:DK) (E:DX),deep<=4->2*(4-deep)+1<=n->0<most->most<=30->Rm k rm M->∀v:Int,Rv rm M v->
 (∀(rs:List Rw) (M':Mem),(∃v',Rv rm M' v'/\(cRs rs:Int)+v'<=v)->aO names m many rs/\dU rs->bq rs+deep<=4->rs.length<=100->Kp k rm M M'->Q (.tup<|ag rs) M')->Pw ad n [.ref k.p,cf names m many,.ref rm,.int deep,.int most] M Q E
def PBl(ad:Ad)(k:Pt)(rm:Addr)(names:List Str)(m many:Int)(n:Nat):Prop:=∀(deep:Nat) (M:Mem) (Q:DK) (E:DX),deep<4->2*(4-deep)<=n->Rm k rm M->∀v:Int,Rv rm M v->
 (∀(rs:List Rw) (l:Addr) (M':Mem),(∃v',Rv rm M' v'/\(cRs rs:Int)+v'<=v+4)->aO names m many rs/\dU rs->bq rs+deep<=4->rs.length<=3->Kp k rm M M'->M' l=none->Q (.ref l) (M'.upd l<|.lst<|ag rs))->Px ad n [.ref k.p,cf names m many,.ref rm,.int deep] M Q E
theorem OkRs_append:∀{a b:List Rw},aO names m many (a++b)↔aO names m many a/\aO names m many b
 |[],b=>by simp[aO]
 |r::a,b=>by simp[aO,OkRs_append,and_assoc]
theorem bd:∀{a b:List Rw},bq (a++b)=max (bq a) (bq b)
 |[],b=>by simp[bq]
 |r::a,b=>by simp only[Ky,bq,bd,Nat.max_assoc]
theorem aS:∀{a b:List Rw},ag (a++b)=ag a++ag b
 |[],b=>rfl
 |r::a,b=>by simp[ag,aS]
theorem bc:∀{a:List Rw},(ag a).length=a.length
 |[]=>rfl
 |r::a=>by simp[ag,bc]
theorem sE{r:Rw}(h:gs names m many r):cM names m many r:=by
 cases r with
 |ifr=>exact h.elim
 |again=>exact h.elim
 |_=>simpa only[cM] using h
theorem Ew{r:Rw}(h:gs names m many r):hR r=0:=by
 cases r with
 |ifr=>exact h.elim
 |again=>exact h.elim
 |_=>simp only[hR]
theorem Hk{r:Rw}(h:gs names m many r):Hv r:=by
 cases r with
 |ifr=>exact h.elim
 |again=>exact h.elim
 |_=>simp only[Hv]
theorem rL(ht:ToldOk names m many){n:Nat}(ih:PRo ad k rm names m many n):PBl ad k rm names m many (n+1):=by
 intro deep M Q E hd hn r v rv h;obtain⟨m2,m1,n0,n1,k0,k1⟩:=ht;have dd:(deep:Int)+1=((deep+1:Nat):Int):=by lia
 simp![Iu,t_,cf,JK];refine aI r.h (by lia) (by lia) λr1 M1 a1 b1 d1=>?_
 have R1:=r.go (r.dr d1);have rv1:Rv rm M1 v:=⟨by rw[d1.2 rm r.n1 r.n2];exact rv.1,rv.2⟩
 obtain⟨x,hx,ex⟩:=j6 a1 b1;simp![ex,dd];refine au λQ' E' hq _=>ih (deep+1) 5 M1 Q' E' (by lia) (by lia) (by decide) (by decide) R1 v rv1 λfirst M2 c2 o2 h2 l2 d2=>hq _ _ ?_
 obtain⟨v2,rv2,c2⟩:=c2;have R2:=R1.go d2;simp![];refine aI R2.h (by decide) (by decide) λw M3 a3 b3 d3=>?_
 have R3:=R2.go (R2.dr d3);have rv3:Rv rm M3 v2:=⟨by rw[d3.2 rm r.n1 r.n2];exact rv2.1,rv2.2⟩
 simp![dd]
 by_cases hw:w<2
 .rw[if_pos hw]
  refine au λQ' E' hq _=>ih (deep+1) 5 M3 Q' E' (by lia) (by lia) (by decide) (by decide) R3 v2 rv3 λsecond M4 c4 o4 h4 l4 d4=>hq _ _ ?_
  obtain⟨v4,rv4,c4⟩:=c4;simp![];refine⟨aM (by decide),aM (by decide),λl hl=>aq (h [.ifr x first second] l M4 ⟨v4,rv4,by simp only[cRs,cR];lia⟩ ?_ ?_ (by simp) ((r.dr d1).trans<|d2.trans<|(R2.dr d3).trans d4) hl)⟩
  .simp only[aO,cM,dU,Hv];exact⟨⟨⟨hx,o2.1,o4.1⟩,trivial⟩,⟨⟨by lia,o2.2⟩,by lia,o4.2⟩,trivial⟩
  .simp only[bq,hR];lia
 .rw[if_neg hw]
  by_cases hw2:w=2
  .rw[if_pos hw2]
   refine⟨aM (by decide),aM (by decide),λl hl=>aq (h [.again x first] l M3 ⟨v2,rv3,by simp only[cRs,cR];lia⟩ ?_ ?_ (by simp) ((r.dr d1).trans<|d2.trans<|R2.dr d3) hl)⟩
   .simp only[aO,cM,dU,Hv];exact⟨⟨⟨hx,o2.1⟩,trivial⟩,⟨by lia,o2.2⟩,trivial⟩
   .simp only[bq,hR];lia
  .rw[if_neg hw2]
   simp only[JK];refine aI R3.h (by lia) (by lia) λr4 M4 a4 b4 d4=>?_
   have R4:=R3.go (R3.dr d4);obtain⟨y,hy,ey⟩:=j6 a4 b4;simp![ey];refine aI R4.h (by split<;>lia) (by split<;>lia) λr5 M5 a5 b5 d5=>?_
   have b5':r5<m:=by split at b5<;>lia
   simp![];refine⟨aM (by decide),aM (by decide),aM (by decide),aM (by decide),aM (by rw[bc];lia),aM (by decide),aM (by decide),λl hl=>aq ?_⟩
   have:=h [.put x r5,.put y (m-1),.again x (first++[.two "sum" x x y])] l M5 ⟨v2,⟨by rw[d5.2 rm r.n1 r.n2,d4.2 rm r.n1 r.n2];exact rv3.1,rv3.2⟩,by simp only[cRs,cR,aU];lia⟩ ?_ ?_ (by simp) ((r.dr d1).trans<|d2.trans<|(R2.dr d3).trans<|(R3.dr d4).trans<|R4.dr d5) hl
   .simp only[ag,Rw.d,aS]at this
    exact this
   .simp only[aO,cM,gs,OkRs_append,dU,Hv,LnRs_append]
    exact⟨⟨⟨hx,a5,b5'⟩,⟨hy,by lia,by lia⟩,⟨hx,o2.1,⟨.inl trivial,hx,hx,hy⟩,trivial⟩,trivial⟩,trivial,trivial,⟨by simp;lia,o2.2,trivial,trivial⟩,trivial⟩
   .simp only[bq,hR,bd];lia
theorem DQ{r:Rw}{M:Mem}{Q:DK}:frz r.d M Q=Q r.d M:=by cases r<;>rfl
theorem vd{c v:Int}{D0:DEnds}{Y:Dl}{M:Mem}(h2:Y[2]?=some (some<|.ref rm))(hv:M rm=some (.lst [.int v]))(h:D0.nx Y (M.upd rm<|.lst [.int (v-c)])):
  ap (al gP (al aD (ac 2)<|dC<|.int 0)<|dC<|.int c) (iF (ac 2)<|dC<|.int 0) D0 Y M:=by
 simp![h2,hv,zb,ix0];exact h
theorem FF{EE:DX}{A B:ar}{D0:DEnds}{Y:Dl}{M:Mem}{v:Int}{deep:Int}(h0:Y[0]?=some (some<|.ref k.p))(h2:Y[2]?=some (some<|.ref rm))(h3:Y[3]?=some (some<|.int deep))(hp:Has k M)(hv:M rm=some (.lst [.int v]))
  (hA:∀M',4<v->deep<4->Dr k M M'->A D0 Y M') (hB:∀M',Dr k M M'->B D0 Y M'):
  aE (h9 (ao<|al zV (al aD (ac 2)<|dC<|.int 0)<|dC<|.int 4)<|h9 (ao<|al DC (ac 3)<|dC<|.int 4)<|ao<|al cH (aj<|ai (aW ad) EE 2<|aa (ac 0)<|aa (dC<|.int 4) ae)<|dC<|.int 0) A B D0 Y M:=by
 simp![h0,h2,h3,hv,zb]
 by_cases h4:4<v
 .rw[if_pos h4]
  by_cases h5:deep<4
  .rw[if_pos h5]
   refine aI hp (by decide) (by decide) λw M2 a2 b2 d2=>?_
   simp![]
   by_cases h6:w=0
   .rw[if_pos h6];exact hA _ h4 h5 d2
   .rw[if_neg h6];exact hB _ d2
  .rw[if_neg h5];exact hB _ hp.refl
 .rw[if_neg h4];exact hB _ hp.refl
theorem AM{A:ar}{D0:DEnds}{Y:Dl}{M:Mem}{v:Int}(h2:Y[2]?=some (some<|.ref rm))(hv:M rm=some (.lst [.int v]))(hA:0<v->A D0 Y M)(hB:D0.nx Y M):
  aE (ao<|al zV (al aD (ac 2)<|dC<|.int 0)<|dC<|.int 0) A aC D0 Y M:=by
 simp![h2,hv,zb]
 by_cases h4:0<v
 .rw[if_pos h4];exact hA h4
 .rw[if_neg h4];exact hB
theorem Bj{EE:DX}{D0:DEnds}{Y:Dl}{M:Mem}{l:Addr}{acc:List Rw}(h0:Y[0]?=some (some<|.ref k.p))(h1:Y[1]?=some (some<|cf names m many))(h5:Y[5]?=some (some<|.ref l))(hp:Has k M)(ht:ToldOk names m many)(n1:l≠k.p)(n2:l≠k.q)
  (hl:M l=some (.lst<|ag acc)) (ha:acc.length<=1000) (h:∀(r:Rw) M',gs names m many r->Dr k M M'->D0.nx Y (M'.upd l<|.lst (ag acc++[r.d]))):
  bD (eE "list" bo (ac 5)<|aa (aj<|ai (lV ad) EE 2<|aa (ac 0)<|aa (ac 1) ae) ae) D0 Y M:=by
 simp![h0,h1,h5,hl];refine au λQ' E' hq _=>o_ hp ht λrw1 M3 ok3 d3=>hq _ _ ?_;have hl3:M3 l=some (.lst<|ag acc):=by rw[d3.2 l n1 n2];exact hl
 have fin:=h rw1 M3 ok3 d3;have sz:(ag acc).length+1<=sizeLine:=by rw[bc];exact gC (by lia)
 rw[DQ];simp![hl3];exact⟨sz,fin⟩
theorem A_{n:Nat}(ih:PBl ad k rm names m many n){EE:DX}{D0:DEnds}{Y:Dl}{M:Mem}{l:Addr}{acc:List Rw}{deep:Nat}(h0:Y[0]?=some (some<|.ref k.p))(h1:Y[1]?=some (some<|cf names m many))(h2:Y[2]?=some (some<|.ref rm))(h3:Y[3]?=some (some<|.int deep))(h5:Y[5]?=some (some<|.ref l))
  (hd:deep<4) (hn:2*(4-deep)<=n) (R:Rm k rm M) (n1:l≠k.p) (n2:l≠k.q) (n3:l≠rm) (hl:M l=some (.lst<|ag acc)) (ha:acc.length<=1000) {v:Int} (rv:Rv rm M v)
  (h:∀(rs:List Rw) (l3:Addr) (M':Mem),(∃v',Rv rm M' v'/\(cRs rs:Int)+v'<=v+4)->aO names m many rs/\dU rs->bq rs+deep<=4->rs.length<=3->Kp k rm M M'->M' l3=none->D0.nx (Y.set 5<|some<|.ref l3) (M'.upd l3<|.lst (ag acc++ag rs))):
  ap (al aF (ac 5)<|aj<|ai (Px ad n) EE 4<|aa (ac 0)<|aa (ac 1)<|aa (ac 2)<|aa (ac 3) ae) (af 5) D0 Y M:=by
 simp![h0,h1,h2,h3,h5];refine au λQ' E' hq _=>ih deep M Q' E' hd hn R v rv λbl l2 M3 c3 ok3 hh len3 k3 nl3=>hq _ _ ?_;have hm3:M3 l=some (.lst<|ag acc):=k3.2.2 l _ n1 n2 n3 hl;simp![Mem.upd_del,am nl3,hm3];exact⟨by rw[bc,bc];exact aM (by lia),λl3 hl3=>h bl l3 M3 c3 ok3 hh len3 k3 hl3⟩
structure RInv(k:Pt)(rm:Addr)(names:List Str)(m many:Int)(M:Mem)(v:Int)(deep:Nat)(n j:Nat)(acc:List Rw)(l:Addr)(M':Mem):Prop where
 cv:∃v',Rv rm M' v'/\(cRs acc:Int)+v'<=v
 hj:n+j<=30
 ha:acc.length<=3*j
 ok:aO names m many acc
 ln:dU acc
 hh:bq acc+deep<=4
 kp:Kp k rm M M'
 hm:M' l=some (.lst<|ag acc)
 n1:l≠k.p
 n2:l≠k.q
 n3:l≠rm
 h0:M l=none
theorem RInv.len{M:Mem}{v:Int}{deep n j:Nat}{acc:List Rw}{l:Addr}{M':Mem}(I:RInv k rm names m many M v deep n j acc l M'):acc.length<=100:=by
 have:=I.hj;have:=I.ha;lia
theorem jX(ht:ToldOk names m many){n:Nat}(ih:PBl ad k rm names m many n):PRo ad k rm names m many (n+1):=by
 intro deep most M Q E hd hn h0 h1 r v0 rv0 h;simp![Ir,wt,bW];refine⟨aM (by decide),λl hl=>?_⟩
 have R1:=r.go (r.new hl<|.lst []);refine aI R1.h h0 (by lia) λcnt M1 a1 b1 d1=>?_
 have nel:=r.h.nep hl;simp![];refine⟨by lia,by lia,?_⟩
 refine bt (λxs Y M'=>∃(j:Nat) (acc:List Rw) (l:Addr) (c6:Option D),RInv k rm names m many M v0 deep xs.length j acc l M'/\Y=[some (.ref k.p),some (cf names m many),some (.ref rm),some (.int deep),some (.int most),some (.ref l),c6]) (λ_ _ _ _=>aA) ?_ ?_ _ _ _ ⟨0,[],l,none,⟨⟨v0,⟨?_,rv0.2⟩,by simp[cRs]⟩,?_,by simp,by simp only[aO],by simp only[dU],by simp only[bq];lia,(r.new hl _).trans (R1.dr d1),?_,nel.1,nel.2,?_,hl⟩,rfl⟩
 .rintro Y M' ⟨j,acc,l,c6,I,rfl⟩
  simp![I.hm];exact aq (h acc M' I.cv ⟨I.ok,I.ln⟩ I.hh I.len I.kp)
 .rintro x xs Y M' ⟨j,acc,l,c6,I,rfl⟩ D' hnx _ _ _
  have R:=r.go I.kp;have hj:=I.hj;have ha:=I.ha;simp only[JC]at hj;obtain⟨v,⟨hv,hv0⟩,hcv⟩:=I.cv;refine FF rfl rfl rfl R.h hv (λM2 h4 h5 d2=>?_) λM2 d2=>?_
  .have k2:=I.kp.trans (R.dr d2)
   have R2:=r.go k2;refine bZ (vd rfl (by rw[d2.2 rm r.n1 r.n2];exact hv) ?_)
   have hs:=R2.set (v-4);dsimp only;refine A_ (deep:=deep) (acc:=acc) ih rfl rfl rfl rfl rfl (by lia) (by lia) (R2.go hs) I.n1 I.n2 I.n3 (by rw[ah I.n3,d2.2 l I.n1 I.n2];exact I.hm) (by lia) (v:=v-4) ⟨Mem.upd_same,by lia⟩ λbl l3 M3 c3 ok3 hh3 len3 k3 hl3=>?_
   have hk3:=(k2.trans hs).trans k3;have R3:=r.go hk3;have ne3:=R3.h.nep hl3;have ner:l3≠rm:=by
    obtain⟨u,eu⟩:=R3.v;exact λe=>by rw[e,eu]at hl3;cases hl3
   have hM3:M l3=none:=by
    cases e:M l3 with
    |none=>rfl
    |some o=>rw[hk3.2.2 l3 o ne3.1 ne3.2 ner e]at hl3;cases hl3
   obtain⟨v3,rv3,c3⟩:=c3;exact hnx _ _ ⟨j+1,acc++bl,l3,_,⟨⟨v3,⟨by rw[ah (Kw ner)];exact rv3.1,rv3.2⟩,by rw[aU];lia⟩,by lia,by rw[JD];lia,OkRs_append.mpr ⟨I.ok,ok3.1⟩,LnRs_append.mpr ⟨I.ln,ok3.2⟩,by rw[bd];exact Ki (NP (Nat.add_max_add_right ..).symm) (Nat.max_le.mpr ⟨I.hh,hh3⟩),hk3.trans (R3.new hl3 _),by rw[Mem.upd_same,aS],ne3.1,ne3.2,ner,hM3⟩,rfl⟩
  .have k2:=I.kp.trans (R.dr d2)
   have R2:=r.go k2;have hm2:M2 l=some (.lst<|ag acc):=by rw[d2.2 l I.n1 I.n2];exact I.hm
   refine AM rfl (by rw[d2.2 rm r.n1 r.n2];exact hv) (λhz=>?_) ?_
   .refine bZ (vd rfl (by rw[d2.2 rm r.n1 r.n2];exact hv) ?_)
    have hs:=R2.set (v-1);dsimp only;refine Bj (acc:=acc) rfl rfl rfl hs.1 ht I.n1 I.n2 (by rw[ah I.n3];exact hm2) (by lia) λrw1 M3 ok3 d3=>?_
    have hk3:=(k2.trans hs).trans ((R2.go hs).dr d3);refine hnx _ _ ⟨j+1,acc++[rw1],l,_,⟨⟨v-1,⟨by rw[ah (Kw I.n3),d3.2 rm r.n1 r.n2,Mem.upd_same],by lia⟩,by rw[aU];simp only[cRs,Ec ok3];lia⟩,by lia,by rw[JD,KZ];lia,OkRs_append.mpr ⟨I.ok,by simp only[aO];exact⟨sE ok3,trivial⟩⟩,LnRs_append.mpr ⟨I.ln,by simp only[dU];exact⟨Hk ok3,trivial⟩⟩,by rw[bd];simp only[bq,Ew ok3,Nat.max_zero,Nat.max_self];exact I.hh,?_,by rw[Mem.upd_same,aS];rfl,I.n1,I.n2,I.n3,I.h0⟩,rfl⟩
    refine⟨hk3.1.upd ⟨I.n1,I.n2⟩,?_,λb o h1 h2 h3 e=>?_⟩
    .obtain⟨u,eu⟩:=hk3.2.1
     exact⟨u,by rw[ah (Kw I.n3)];exact eu⟩
    .rw[ah (Mem.ne e I.h0)];exact hk3.2.2 b o h1 h2 h3 e
   .exact hnx _ _ ⟨j,acc,l,_,⟨⟨v,⟨by rw[d2.2 rm r.n1 r.n2];exact hv,hv0⟩,hcv⟩,by lia,ha,I.ok,I.ln,I.hh,k2,hm2,I.n1,I.n2,I.n3,I.h0⟩,rfl⟩
 .rw[d1.2 rm r.n1 r.n2,ah (λz=>by rw[<- z,rv0.1]at hl;cases hl)];exact rv0.1
 .simp[dl];lia
 .rw[d1.2 l nel.1 nel.2,Mem.upd_same];rfl
 .obtain⟨v,e⟩:=r.v
  exact λe'=>by rw[e',e]at hl;cases hl
theorem g_(ht:ToldOk names m many):∀n:Nat,PRo ad k rm names m many n/\PBl ad k rm names m many n
 |0=>⟨λdeep most M Q E _ h=>by lia,λdeep M Q E _ h=>by lia⟩
 |n+1=>⟨jX ht (g_ ht n).2,rL ht (g_ ht n).1⟩
end
section
variable {ad:Ad}{k:Pt}{M:Mem}{Q:DK}{E:DX}
def Kq(k:Pt)(M M':Mem):Prop:=Has k M'/\∀b o,b≠k.p->b≠k.q->M b=some o->M' b=some o
theorem Kq.trans{M1 M2:Mem}(a:Kq k M M1)(b:Kq k M1 M2):Kq k M M2:=⟨b.1,λx o h1 h2 h=>b.2 x o h1 h2 (a.2 x o h1 h2 h)⟩
theorem Dr.kq{M':Mem}(d:Dr k M M'):Kq k M M':=⟨d.1,λb o h1 h2 e=>by rw[d.2 b h1 h2];exact e⟩
structure PlG(m many:Int)(names:List Str)(rows:List Rw)(mk:Str):Prop where
 t:ToldOk names m many
 nd:names.Nodup
 ok:aO names m many rows
 h:bq rows<=4
 cn:cRs rows<=60
 l:rows.length<=100
 ln:dU rows
 mkm:mk∈names
 one:∀x∈names,xI x
def bj(m many:Int)(names:List Str)(rows:List Rw)(mk:Str):D:=.tup [.int m,.tup (names.map D.str),.int many,.tup (ag rows),.str mk]
theorem wC{v:Int}(v0:0<=v)(v60:v<=60)(hp:Has k M)(h:∀(m many:Int) (names:List Str) (rows:List Rw) (mk:Str) (M':Mem),PlG m many names rows mk->Kq k M M'->Q (bj m many names rows mk) M'):uM ad [.ref k.p,.int v] M Q E:=by
 simp![IP,uD];refine aI hp (by decide) (by decide) λx1 M1 a1 b1 d1=>?_
 simp![];refine aI d1.1 (by decide) (by decide) λx2 M2 a2 b2 d2=>?_
 simp![];refine⟨aM (by decide),λp hpn=>?_⟩
 rw[Mem.upd_del,am hpn];refine aI d2.1 (by decide) (by decide) λx3 M3 a3 b3 d3=>?_
 obtain⟨m,em,m2,m1⟩:∃m:Int,atI [D.int 2,.int 3,.int (2+x1),.int (2+x2)] x3=some (.int m)/\2<=m/\m<=997:=by
  have:x3=0\/x3=1\/x3=2\/x3=3:=by lia
  rcases this with rfl|rfl|rfl|rfl
  .exact⟨2,by simp,by lia,by lia⟩
  .exact⟨3,by simp,by lia,by lia⟩
  .exact⟨2+x1,by simp,by lia,by lia⟩
  .exact⟨2+x2,by simp,by lia,by lia⟩
 simp![em];refine⟨aM (by decide),λp hpn=>?_⟩
 rw[Mem.upd_del,am hpn];refine aI d3.1 (by decide) (by decide) λx4 M4 a4 b4 d4=>?_
 obtain⟨w,ew,w2,w1⟩:∃m:Int,atI [D.int 3,.int 5,.int 12] x4=some (.int m)/\0<m/\m<=12:=by
  have:x4=0\/x4=1\/x4=2:=by lia
  rcases this with rfl|rfl|rfl
  .exact⟨3,by simp,by lia,by lia⟩
  .exact⟨5,by simp,by lia,by lia⟩
  .exact⟨12,by simp,by lia,by lia⟩
 simp![ew];refine aI d4.1 w2 (by lia) λx5 M5 a5 b5 d5=>?_
 simp![];obtain⟨nn,hnn⟩:∃nn:Nat,(1:Int)+x5=nn:=⟨(1+x5).toNat,by lia⟩
 rw[hnn];refine au λQ' E' hq _=>sF d5.1 (by lia) λnames M6 n6 nd6 on6 d6=>hq _ _ ?_
 simp![];refine aI d6.1 (by decide) (by decide) λx7 M7 a7 b7 d7=>?_
 simp![];refine aI d7.1 (by decide) (by decide) λx8 M8 a8 b8 d8=>?_
 simp![];refine⟨aM (by decide),λp hpn=>?_⟩
 rw[Mem.upd_del,am hpn];refine aI d8.1 (by decide) (by decide) λx9 M9 a9 b9 d9=>?_
 obtain⟨many,ek,k0,k1⟩:∃m:Int,atI [D.int 0,.int (1+x7),.int x8] x9=some (.int m)/\0<=m/\m<=40:=by
  have:x9=0\/x9=1\/x9=2:=by lia
  rcases this with rfl|rfl|rfl
  .exact⟨0,by simp,by lia,by lia⟩
  .exact⟨1+x7,by simp,by lia,by lia⟩
  .exact⟨x8,by simp,by lia,by lia⟩
 simp![ek];refine⟨aM (by decide),aM (by decide),λrm hrm=>⟨aM (by decide),λp hpn=>?_⟩⟩
 rw[Mem.upd_del,am hpn];have D9:=d1.trans (d2.trans<|d3.trans<|d4.trans<|d5.trans<|d6.trans<|d7.trans<|d8.trans d9);have nrm:=d9.1.nep hrm;have R9:Rm k rm (M9.upd rm<|.lst [.int v]):=⟨d9.1.upd nrm,nrm.1,nrm.2,v,Mem.upd_same⟩;refine aI R9.h (by decide) (by decide) λx10 M10 a10 b10 d10=>?_
 have R10:=R9.go (R9.dr d10);obtain⟨most,eo,o0,o1⟩:∃m:Int,atI [D.int 6,.int 12,.int 30] x10=some (.int m)/\0<m/\m<=30:=by
  have:x10=0\/x10=1\/x10=2:=by lia
  rcases this with rfl|rfl|rfl
  .exact⟨6,by simp,by lia,by lia⟩
  .exact⟨12,by simp,by lia,by lia⟩
  .exact⟨30,by simp,by lia,by lia⟩
 simp![eo];have ht:ToldOk names m many:=⟨m2,m1,by lia,by lia,k0,k1⟩
 refine au λQ' E' hq _=>(g_ ht 24).1 0 most M10 Q' E' (by decide) (by decide) o0 o1 R10 v ⟨by rw[d10.2 rm nrm.1 nrm.2,Mem.upd_same],v0⟩ λrows M11 c11 ok11 h11 l11 k11=>hq _ _ ?_
 obtain⟨v11,rv11,c11⟩:=c11;have v110:=rv11.2;simp![JK];refine aI k11.1 (by lia) (by lia) λx12 M12 a12 b12 d12=>?_
 obtain⟨mk,hmk,emk⟩:=j6 a12 b12;simp![emk];refine⟨aM (by decide),aq<|h m many names rows mk M12 ⟨ht,nd6,ok11.1,by lia,by lia,l11,ok11.2,hmk,on6⟩ ?_⟩
 refine D9.kq.trans (Kq.trans ?_ d12.kq);refine⟨k11.1,λb o h1 h2 e=>?_⟩;have hb:b≠rm:=Mem.ne e hrm;have:=(R9.dr d10).2.2 b o h1 h2 hb (by rw[ah hb];exact e)
 exact k11.2.2 b o h1 h2 hb this
end
def Di:Nat->D->Prop
 |_,.non=>True
 |_,.bl _=>True
 |_,.int _=>True
 |_,.str _=>True
 |n+1,.tup xs=>xs.length<=100000/\∀x∈xs,Di n x
 |n+1,.lst xs=>xs.length<=100000/\∀x∈xs,Di n x
 |_,_=>False
theorem dN:∀n:Nat,eA (JN n<|.bl true)=some (JN n true)
 |0=>rfl
 |n+1=>by rw[Kg,eA,dN n];rfl
theorem kF{n:Nat}:(JN n true).all id=true:=by simp
theorem i1:bE "tuple" "bool"=false:=by decide +kernel
theorem i2:bE "tuple" "int"=false:=by decide +kernel
theorem i3:bE "tuple" "str"=false:=by decide +kernel
theorem i4:bE "tuple" "tuple"=true:=by decide +kernel
theorem i5:bE "tuple" "list"=false:=by decide +kernel
theorem i6:bE "list" "bool"=false:=by decide +kernel
theorem i7:bE "list" "int"=false:=by decide +kernel
theorem i8:bE "list" "str"=false:=by decide +kernel
theorem i9:bE "list" "tuple"=false:=by decide +kernel
theorem i10:bE "list" "list"=true:=by decide +kernel
theorem i11:bE "bool" "bool"=true:=by decide +kernel
theorem i12:bE "int" "bool"=false:=by decide +kernel
theorem i13:bE "int" "int"=true:=by decide +kernel
theorem i14:bE "str" "bool"=false:=by decide +kernel
theorem i15:bE "str" "int"=false:=by decide +kernel
theorem qM:bE "str" "str"=true:=by decide +kernel
theorem t1:qS "bool"=true:=by decide +kernel
theorem t2:qS "int"=true:=by decide +kernel
theorem t3:qS "str"=true:=by decide +kernel
theorem t4:qS "tuple"=true:=by decide +kernel
theorem t5:qS "list"=true:=by decide +kernel
theorem j_:∀xs:List D,nJ xs xs=xs.map (λz=>D.tup [z,z])
 |[]=>rfl
 |x::xs=>by
  have:=j_ xs;simp only[nJ]at this ⊢;simp[this]
theorem fR{ad:Ad}:∀(n:Nat) (x:D) (M:Mem) (Q:DK) (E:DX),Di n x->Q (.bl true) M->PD ad (n+1) [x,x] M Q E
 |n,x,M,Q,E,hx,h=>by
  cases x with
  |non=>simp![lG,gD];exact aq h
  |bl b=>simp![lG,gD,i11,t1,beq_self_eq_true];exact aq h
  |int i=>simp![lG,gD,i12,i13,t1,t2];exact aq h
  |str i=>simp![lG,gD,i14,i15,qM,t1,t2,t3];exact aq h
  |tup xs=>
   cases n with
   |zero=>exact hx.elim
   |succ n=>
    obtain⟨hl,hx⟩:=hx;simp![lG,gD,i1,i2,i3,i4,i5,t1,t2,t3,t4,t5,aN];rw[if_neg (by decide),if_neg (by decide),if_neg (by decide)]
    refine bh (λys acc Y M'=>∃(zs:List D) (j:Nat) (c0 c1:Option D),ys=zs.map (λz=>D.tup [z,z])/\(∀z∈zs,Di n z)/\zs.length+j<=100000/\acc=JN j (.bl true)/\Y=[c0,c1]/\M'=M) (λ_ _ _ _ _=>aA) ?_ ?_ ?_ _ _ _ _ ⟨xs,0,none,none,j_ xs,hx,by omega,rfl,rfl,rfl⟩
    .rintro acc Y M' ⟨zs,j,c0,c1,e1,e2,e3,rfl,rfl,rfl⟩ p hpn
     simp![Mem.upd_del,am hpn,dN,kF];exact aq h
    .rintro y ys acc Y M' ⟨zs,j,c0,c1,e1,e2,e3,rfl,rfl,rfl⟩ N hN _
     cases zs with
     |nil=>simp at e1
     |cons z zs=>
      simp only[JO,Kc]at e1;obtain⟨rfl,rfl⟩:=e1;simp only[JC]at e3;simp![];refine b6 (d:=.bl true) (λQ' E' q=>fR n z M' Q' E' (e2 z<|KP ..) q) ?_;simp![];exact hN _ _ _ (by simp;exact gC (by omega)) ⟨zs,j+1,_,_,rfl,λw hw=>e2 w (JZ _ hw),by omega,by rw[Np],rfl,rfl⟩
    .rintro y ys acc Y M' ⟨zs,j,c0,c1,e1,e2,e3,rfl,rfl,rfl⟩
     simp;exact gC (by omega)
  |lst xs=>
   cases n with
   |zero=>exact hx.elim
   |succ n=>
    obtain⟨hl,hx⟩:=hx;simp![lG,gD,i6,i7,i8,i9,i10,t1,t2,t3,t4,t5,aN];rw[if_neg (by decide),if_neg (by decide),if_neg (by decide)]
    refine bh (λys acc Y M'=>∃(zs:List D) (j:Nat) (c0 c1:Option D),ys=zs.map (λz=>D.tup [z,z])/\(∀z∈zs,Di n z)/\zs.length+j<=100000/\acc=JN j (.bl true)/\Y=[c0,c1]/\M'=M) (λ_ _ _ _ _=>aA) ?_ ?_ ?_ _ _ _ _ ⟨xs,0,none,none,j_ xs,hx,by omega,rfl,rfl,rfl⟩
    .rintro acc Y M' ⟨zs,j,c0,c1,e1,e2,e3,rfl,rfl,rfl⟩ p hpn
     simp![Mem.upd_del,am hpn,dN,kF];exact aq h
    .rintro y ys acc Y M' ⟨zs,j,c0,c1,e1,e2,e3,rfl,rfl,rfl⟩ N hN _
     cases zs with
     |nil=>simp at e1
     |cons z zs=>
      simp only[JO,Kc]at e1;obtain⟨rfl,rfl⟩:=e1;simp only[JC]at e3;simp![];refine b6 (d:=.bl true) (λQ' E' q=>fR n z M' Q' E' (e2 z<|KP ..) q) ?_;simp![];exact hN _ _ _ (by simp;exact gC (by omega)) ⟨zs,j+1,_,_,rfl,λw hw=>e2 w (JZ _ hw),by omega,by rw[Np],rfl,rfl⟩
    .rintro y ys acc Y M' ⟨zs,j,c0,c1,e1,e2,e3,rfl,rfl,rfl⟩
     simp;exact gC (by omega)
  |_=>cases n<;>exact hx.elim
end Tw
namespace Tw
open PySem L2 L3 LS
def cD:Rw->Bool
 |.pick _ _=>true
 |_=>false
def aV:Rw->Bool
 |.ifr _ _ _=>true
 |.again _ _=>true
 |_=>false
abbrev Tr:=List Int×Rw×Rw
mutual
def eg(pl:List Int):Rw->Rw->Option (List Tr)
 |.ifr x a b,o=>match o with
  |.ifr y a' b'=>if x=y then (match cr (pl++[1]) 0 a a',cr (pl++[0]) 0 b b' with
   |some l1,some l2=>some (l1++l2)
   |_,_=>none) else none
  |_=>none
 |.again x a,o=>match o with
  |.again y a'=>if x=y then cr (pl++[0]) 0 a a' else none
  |_=>none
 |r,o=>if (cD r||cD o||aV o)=true then none else some [(pl,r,o)]
def cr(pl:List Int):Nat->List Rw->List Rw->Option (List Tr)
 |_,[],os=>match os with
  |[]=>some []
  |_=>none
 |j,r::rs,os=>match os with
  |[]=>none
  |o::os=>match eg (pl++[(j:Int)]) r o,cr pl (j+1) rs os with
   |some l1,some l2=>some (l1++l2)
   |_,_=>none
end
mutual
def iW:Rw->Rw->Bool
 |.ifr x a b,o=>match o with
  |.ifr y a' b'=>decide (x=y)&&(bv a a'&&bv b b')
  |_=>false
 |.again x a,o=>match o with
  |.again y a'=>decide (x=y)&&bv a a'
  |_=>false
 |r,o=>!(cD r||cD o||aV o)
def bv:List Rw->List Rw->Bool
 |[],os=>os.isEmpty
 |r::rs,os=>match os with
  |[]=>false
  |o::os=>iW r o&&bv rs os
end
def xR(r o:Rw):Bool:=!aG r.d o.d
mutual
def bH(pl:List Int):Rw->Rw->List (List Int)
 |.ifr _ a b,o=>match o with
  |.ifr _ a' b'=>bf (pl++[0]) 0 b b'++bf (pl++[1]) 0 a a'
  |_=>[]
 |.again _ a,o=>match o with
  |.again _ a'=>bf (pl++[0]) 0 a a'
  |_=>[]
 |r,o=>if xR r o=true then [pl] else []
def bf(pl:List Int):Nat->List Rw->List Rw->List (List Int)
 |_,[],_=>[]
 |j,r::rs,os=>match os with
  |[]=>[]
  |o::os=>bH (pl++[(j:Int)]) r o++bf pl (j+1) rs os
end
def nE(l:List Tr):List (List Int):=(l.filter λt=>xR t.2.1 t.2.2).map (·.1)
theorem vL{a b:List Tr}:nE (a++b)=nE a++nE b:=by simp[nE]
mutual
theorem G1:∀(r o:Rw) (pl:List Int),(eg pl r o).isSome=iW r o
 |.ifr x a b,o,pl=>by
  have h1:=dP a;have h2:=dP b;cases o with
  |ifr y a' b'=>
   simp only[eg,iW]
   by_cases c:x=y
   .rw[if_pos c,decide_eq_true c,Kn,<- h1 a' (pl++[1]) 0,<- h2 b' (pl++[0]) 0]
    cases cr (pl++[1]) 0 a a'<;>cases cr (pl++[0]) 0 b b'<;>rfl
   .rw[if_neg c,decide_eq_false c,Ku];rfl
  |_=>rfl
 |.again x a,o,pl=>by
  have h1:=dP a;cases o with
  |again y a'=>
   simp only[eg,iW]
   by_cases c:x=y
   .rw[if_pos c,decide_eq_true c,Kn,h1]
   .rw[if_neg c,decide_eq_false c,Ku];rfl
  |_=>rfl
 |.put x k,o,pl=>by cases o<;>rfl
 |.take x k,o,pl=>by cases o<;>rfl
 |.pick x k,o,pl=>by cases o<;>rfl
 |.two w x y z,o,pl=>by cases o<;>rfl
theorem dP:∀(rs os:List Rw) (pl:List Int) (j:Nat),(cr pl j rs os).isSome=bv rs os
 |[],os,pl,j=>by cases os<;>rfl
 |r::rs,os,pl,j=>by
  cases os with
  |nil=>rfl
  |cons o os=>
   simp only[cr,bv];rw[<- G1 r o (pl++[(j:Int)]),<- dP rs os pl (j+1)];cases eg (pl++[(j:Int)]) r o<;>cases cr pl (j+1) rs os<;>rfl
end
mutual
theorem Be:∀(r o:Rw) (pl:List Int) (l:List Tr),eg pl r o=some l->(nE l).Perm (bH pl r o)
 |.ifr x a b,o,pl,l,h=>by
  have h1:=eW a;have h2:=eW b;cases o with
  |ifr y a' b'=>
   simp only[eg]at h
   split at h
   .split at h
    .rename_i e1 e2
     cases h;rw[vL];exact(O0 (h1 _ _ _ _ e1)<|h2 _ _ _ _ e2).trans List.perm_append_comm
    .cases h
   .cases h
  |_=>cases h
 |.again x a,o,pl,l,h=>by
  have h1:=eW a;cases o with
  |again y a'=>
   simp only[eg]at h
   split at h
   .exact h1 _ _ _ _ h
   .cases h
  |_=>cases h
 |.put x k,o,pl,l,h=>by
  simp only[eg]at h
  split at h
  .cases h
  .cases h;simp only[bH,nE,MQ,Ng];split<;>simp
 |.take x k,o,pl,l,h=>by
  simp only[eg]at h
  split at h
  .cases h
  .cases h;simp only[bH,nE,MQ,Ng];split<;>simp
 |.pick x k,o,pl,l,h=>by
  simp only[eg]at h
  split at h
  .cases h
  .cases h;simp only[bH,nE,MQ,Ng];split<;>simp
 |.two w x y z,o,pl,l,h=>by
  simp only[eg]at h
  split at h
  .cases h
  .cases h;simp only[bH,nE,MQ,Ng];split<;>simp
theorem eW:∀(rs os:List Rw) (pl:List Int) (j:Nat) (l:List Tr),cr pl j rs os=some l->(nE l).Perm (bf pl j rs os)
 |[],os,pl,j,l,h=>by
  cases os with
  |nil=>cases h;exact MU _
  |cons _ _=>cases h
 |r::rs,os,pl,j,l,h=>by
  cases os with
  |nil=>cases h
  |cons o os=>
   simp only[cr]at h
   split at h
   .rename_i e1 e2
    cases h;rw[vL];exact O0 (Be r o _ _ e1) (eW rs os _ _ _ e2)
   .cases h
end
mutual
theorem mD:∀(r o:Rw) (pl:List Int) (l:List Tr),eg pl r o=some l->l.length<=cR r
 |.ifr x a b,o,pl,l,h=>by
  have h1:=cV a;have h2:=cV b;cases o with
  |ifr y a' b'=>
   simp only[eg]at h
   split at h
   .split at h
    .rename_i e1 e2
     cases h;have q1:=h1 _ _ _ _ e1;have q2:=h2 _ _ _ _ e2;simp only[JD,cR];lia
    .cases h
   .cases h
  |_=>cases h
 |.again x a,o,pl,l,h=>by
  have h1:=cV a;cases o with
  |again y a'=>
   simp only[eg]at h
   split at h
   .have:=h1 _ _ _ _ h
    simp only[cR];lia
   .cases h
  |_=>cases h
 |.put x k,o,pl,l,h=>by
  simp only[eg]at h
  split at h
  .cases h
  .cases h;simp[cR]
 |.take x k,o,pl,l,h=>by
  simp only[eg]at h
  split at h
  .cases h
  .cases h;simp[cR]
 |.pick x k,o,pl,l,h=>by
  simp only[eg]at h
  split at h
  .cases h
  .cases h;simp[cR]
 |.two w x y z,o,pl,l,h=>by
  simp only[eg]at h
  split at h
  .cases h
  .cases h;simp[cR]
theorem cV:∀(rs os:List Rw) (pl:List Int) (j:Nat) (l:List Tr),cr pl j rs os=some l->l.length<=cRs rs
 |[],os,pl,j,l,h=>by
  cases os with
  |nil=>cases h;simp[cRs]
  |cons _ _=>cases h
 |r::rs,os,pl,j,l,h=>by
  cases os with
  |nil=>cases h
  |cons o os=>
   simp only[cr]at h
   split at h
   .rename_i e1 e2
    cases h;have q1:=mD r o _ _ e1;have q2:=cV rs os _ _ _ e2;simp only[JD,cRs];lia
   .cases h
end
theorem dE:∀{rs os:List Rw},bv rs os=true->rs.length=os.length
 |[],os,h=>by cases os with|nil=>rfl|cons _ _=>cases h
 |r::rs,os,h=>by
  cases os with
  |nil=>cases h
  |cons o os=>
   simp only[bv,JU]at h;simp[dE h.2]
def fD:Rw->Str
 |.put _ _=>"put"
 |.take _ _=>"take"
 |.pick _ _=>"pick"
 |.two w _ _ _=>w
 |.ifr _ _ _=>"if"
 |.again _ _=>"again"
def r_:Rw->Str
 |.put x _=>x
 |.take x _=>x
 |.pick x _=>x
 |.two _ x _ _=>x
 |.ifr x _ _=>x
 |.again x _=>x
def rsR:Rw->List D
 |.put _ k=>[.int k]
 |.take _ k=>[.int k]
 |.pick _ y=>[.str y]
 |.two _ _ y z=>[.str y,.str z]
 |.ifr _ a b=>[.tup (ag a),.tup (ag b)]
 |.again _ a=>[.tup (ag a)]
theorem fA(r:Rw):r.d=.tup (.str (fD r)::.str (r_ r)::rsR r):=by cases r<;>rfl
def Aq:Rw->List D
 |.ifr _ a b=>[.tup (ag a),.tup (ag b)]
 |.again _ a=>[.tup (ag a)]
 |_=>[]
def eY:Rw->Bool
 |.ifr _ _ _=>true
 |_=>false
def lq:Rw->Bool
 |.again _ _=>true
 |_=>false
section
variable {ad:Ad}{M N:Mem}{Q:DK}{E:DX}{r o:Rw}{names:List Str}{m many:Int}
theorem p0{w x y z:Str}(h:cM names m many (.two w x y z)):w≠"if"/\w≠"again"/\w≠"pick":=by
 obtain⟨hw,_⟩:=(show gs names m many (.two w x y z) from h);rcases hw with rfl|rfl|rfl|rfl<;>decide +kernel
theorem lN(h:cM names m many r):decide (fD r="if")=eY r:=by
 cases r with
 |two w x y z=>exact decide_eq_false (p0 h).1
 |_=>simp![fD,eY,not_false_eq_true]
theorem pd(h:cM names m many r):decide (fD r="again")=lq r:=by
 cases r with
 |two w x y z=>exact decide_eq_false (p0 h).2.1
 |_=>simp![fD,lq,not_false_eq_true]
theorem zr(h:cM names m many r):decide (fD r="pick")=cD r:=by
 cases r with
 |two w x y z=>exact decide_eq_false (p0 h).2.2
 |_=>simp![fD,cD,not_false_eq_true]
theorem pO(ok:cM names m many r)(h:∀p,M p=none->Q (.ref p) (M.upd p<|.lst<|Aq r)):dA ad [r.d] M Q E:=by
 have w1:=lN ok;have w2:=pd ok;rw[ph (n:=0)];unfold io mo;generalize hK:ju ad (aJ E)=K;generalize hL:ak (aE (ao<|al cH (al aD (ac 0)<|dC<|.int 0)<|dC<|.str "again") (ax<|aX<|aa (al aD (ac 0)<|dC<|.int 2) ae) aC) (ax<|aX ae)=L;have tL:eY r=false->L { nx:=λ_ M'=>drp Q .non M',rt:=drp Q } [some r.d] M:=λe=>by
  rw[<- hL];generalize hG:ax (aX<|aa (al aD (ac 0)<|dC<|.int 2) ae)=G;rw[fA];simp only[ak,aE,ao,al,ac,dC,aD,aH,atI_0,cH,dv,aG,bN,JA,dt];rw[w2];refine⟨trivial,trivial,?_⟩;cases r with
  |ifr x a b=>cases e
  |again x a=>
   show G _ _ M;rw[<- hG];exact⟨aM (by simp),λp hp=>aq (h p hp)⟩
  |_=>exact⟨aM (by simp),λp hp=>aq (h p hp)⟩
 rw[fA]at tL ⊢;simp only[ak,aE,ao,al,ac,dC,aD,aH,atI_0,cH,dv,aG,bN,JA,dt];rw[w1];refine⟨trivial,trivial,?_⟩;cases r with
 |ifr x a b=>
  show K _ _ M;rw[<- hK];unfold ju;exact⟨aM (by simp),λp hp=>aq (h p hp)⟩
 |_=>exact tL rfl
theorem bQ{EE:DX}{bx:BxQ EE λd M'=>frz d M' Q}(ok:cM names m many r)(h:Q (.lst<|Aq r) M):calls (dA ad) EE [r.d] M (λd M'=>frz d M' Q) bx:=
 au λQ' E' hq _=>pO ok λp hp=>hq _ _ (by simp only[frz,Mem.upd_same,Mem.upd_del,am hp];exact h)
def nC(r o:Rw):Bool:=!cD r&&!cD o&&(!(aV r||aV o)||(decide (fD r=fD o)&&decide (r_ r=r_ o)))
theorem qp(ok:cM names m many r)(ok2:cM names m many o)(h1:nC r o=true->Q .non M)(h2:nC r o=false->E ad.C_NoBuild M):Cc ad [r.d,o.d] M Q E:=by
 have w1:=zr ok;have w2:=zr ok2;have hn:nC r o=true->drp Q .non M:=λe=>aq (h1 e);have hx:nC r o=false->aJ E ad.C_NoBuild M:=λe=>nU (h2 e);rw[u_q0 (n:=0)];unfold C1;generalize hK:nI ad (aJ E)=K;generalize hD:({ nx:=λ_ M'=>drp Q .non M',rt:=drp Q }:DEnds)=DD;have t1:cD r=false->cD o=false->K DD [some r.d,some o.d] M:=λp1 p2=>by
  rw[<- hK,<- hD];unfold nI;have eS:nC r o=(!(aV r||aV o)||(decide (fD r=fD o)&&decide (r_ r=r_ o))):=by unfold nC;rw[p1,p2];rfl
  have cmp:∀K:Bool->Mem->Prop,K (!(decide (fD r=fD o)&&decide (r_ r=r_ o))) M->ao (al gK (aj<|d_ (ac 0) aB<|ba<|dC<|.int 2)<|aj<|d_ (ac 1) aB<|ba<|dC<|.int 2) [some r.d,some o.d] M K:=λK q=>by
   rw[fA r,fA o];have e2:∀(a b:D) (l:List D),df (a::b::l) none (some 2)=[a,b]:=λa b l=>cN (k:=2);simp only[ao,al,aj,d_,ac,aB,ba,dC,sD,e2,frz,JA,dt];refine⟨rfl,rfl,?_⟩;simp only[dv,aG,cA,Kt];exact q
  generalize hC:ao (al gK (aj<|d_ (ac 0) aB<|ba<|dC<|.int 2)<|aj<|d_ (ac 1) aB<|ba<|dC<|.int 2)=CC at cmp ⊢;simp only[aE,h9,iT,bR,aj,ai,aa,ac,ae,JA,dt];have fin:(aV r||aV o)=true->CC [some r.d,some o.d] M (λb M1=>if b=true then eV ad.C_NoBuild (aJ E) { nx:=λ_ M'=>drp Q .non M',rt:=drp Q } [some r.d,some o.d] M1 else aC { nx:=λ_ M'=>drp Q .non M',rt:=drp Q } [some r.d,some o.d] M1):=λe=>by
   refine cmp _ ?_;rw[e]at eS;rw[Kz,NB]at eS;rw[<- eS];cases c:nC r o with
   |true=>exact hn c
   |false=>exact hx c
  refine⟨rfl,bQ ok ?_⟩;have tr:∀q:Rw,yD M (.lst<|Aq q)=some (aV q):=λq=>by cases q<;>rfl
  simp only[tr];cases c1:aV r with
  |true=>
   rw[c1]at fin;exact fin rfl
  |false=>
   simp only[JQ,if_false];refine⟨rfl,bQ ok2 ?_⟩;simp only[tr];cases c2:aV o with
   |true=>
    rw[c1,c2]at fin;exact fin rfl
   |false=>
    rw[c1,c2]at eS;exact hn eS
 have a1:∀q:Rw,atI (.str (fD q)::.str (r_ q)::rsR q) 0=some (.str<|fD q):=λq=>by rw[atI_0];rfl
 have no:(cD r||cD o)=true->nC r o=false:=λe=>by
  unfold nC;cases c:cD r with
  |true=>rfl
  |false=>rw[c,NB]at e;rw[e];rfl
 have rd:∀(q:Rw),q.d=.tup (.str (fD q)::.str (r_ q)::rsR q):=fA;rw[rd r,rd o]at t1 ⊢;simp only[ak,aE,iT,ao,al,ac,dC,aD,aH,a1,cH,dv,aG,bN,JA,dt];rw[w1,w2];refine⟨trivial,trivial,?_⟩;cases c1:cD r with
 |true=>exact hx (no<|by rw[c1];rfl)
 |false=>
  refine⟨trivial,trivial,?_⟩;cases c2:cD o with
  |true=>exact hx (no<|by rw[c2,Bool.or_true])
  |false=>
   rw[c1,c2]at t1;exact t1 rfl rfl
end
def AS(t:Tr):D:=.tup [aw t.1,t.2.1.d,t.2.2.d]
theorem fv{M:Mem}{Q:DK}{p:Addr}{xs:List D}(hp:M p=none)(h:Q (.lst xs) M):frz (.ref p) (M.upd p<|.lst xs) Q:=by
 simp only[frz,Mem.upd_same,Mem.upd_del,am hp];exact h
theorem kH{a b:List Rw}{o:Rw}:atI (ag (a++o::b)) (a.length:Nat)=some o.d:=by
 rw[bK (by lia),KD,e_,Kf]
 simp
def PPa(ad:Ad)(n:Nat):Prop:=∀(rs os:List Rw) (pl:List Int) (M:Mem) (Q:DK) (E:DX) (names:List Str) (m many:Int),aO names m many rs->aO names m many os->2*bq rs+1<=n->cRs rs<=1000->pl.length+2*bq rs+1<=900->
 (∀l,cr pl 0 rs os=some l->∀p,M p=none->Q (.ref p) (M.upd p<|.lst<|l.map AS))->(cr pl 0 rs os=none->E ad.C_NoBuild M)->Pz ad n [.tup (ag rs),.tup (ag os),aw pl] M Q E
def PWi(ad:Ad)(n:Nat):Prop:=∀(r o:Rw) (pl:List Int) (M:Mem) (Q:DK) (E:DX) (names:List Str) (m many:Int),cM names m many r->cM names m many o->aV r=true->nC r o=true->2*hR r<=n->cR r<=1000->pl.length+2*hR r<=900->
 (∀l,eg pl r o=some l->∀p,M p=none->Q (.ref p) (M.upd p<|.lst<|l.map AS))->(eg pl r o=none->E ad.C_NoBuild M)->PH ad n [r.d,o.d,aw pl] M Q E
section
variable {ad:Ad}{M N:Mem}{Q:DK}{E:DX}{r o:Rw}{names:List Str}{m many:Int}{n:Nat}
theorem oX{pl:List Int}(ok:cM names m many r)(ok2:cM names m many o)(h1:aV r=false):(nC r o=true->eg pl r o=some [(pl,r,o)])/\(nC r o=false->eg pl r o=none):=by
 cases r<;>first|cases h1|skip
 all_goals cases o<;>refine⟨λh=>?_,λh=>?_⟩<;>first|rfl|(cases h;done)|(simp[nC,cD,aV,eg,fD]at h ⊢;done)|skip
 .exact absurd (by simp[nC,cD,aV,fD]at h;exact of_decide_eq_true h.1) (p0 ok).1
 .exact absurd (by simp[nC,cD,aV,fD]at h;exact of_decide_eq_true h.1) (p0 ok).2.1
theorem Gn{pl:List Int}(h1:aV r=true)(h:nC r o=false):eg pl r o=none:=by
 cases r<;>first|cases h1|skip
 all_goals cases o<;>first|rfl|skip
 .rename_i x a b y a' b'
  have:¬x=y:=λe=>by subst e;simp[nC,cD,aV,fD,r_]at h
  simp only[eg,if_neg this]
 .rename_i x a y a'
  have:¬x=y:=λe=>by subst e;simp[nC,cD,aV,fD,r_]at h
  simp only[eg,if_neg this]
theorem cB{pl:List Int}{i:Int}{K:DK}(hl:pl.length<=100000)(q:K (aw (pl++[i])) M):aF (aw pl) (.tup [.int i]) M K:=by
 have e:aw (pl++[i])=.tup (pl.map D.int++[.int i]):=by simp[aw]
 rw[e]at q;exact⟨aM (by simp only[JK,JC,JT];lia),q⟩
theorem Cz(ih:PWi ad n){pl:List Int}{rsD:D}{os1 os2:List Rw}{p:Addr}{acc:List Tr}{EE:DX}{D2:DEnds}(ok:cM names m many r)(ok2:cM names m many o)(hn:2*hR r<=n)(hc:cR r<=1000)(hl:pl.length+1+2*hR r<=900)(ha:acc.length<=100000)(hp:N p=some (.lst<|acc.map AS))
  (h1:∀l,eg (pl++[(os1.length:Int)]) r o=some l->D2.nx [some rsD,some (.tup<|ag (os1++o::os2)),some (aw pl),some (.ref p),some (.int (os1.length:Nat)),some r.d] (N.upd p<|.lst<|(acc++l).map AS))
  (h2:eg (pl++[(os1.length:Int)]) r o=none->EE ad.C_NoBuild N):
  jA ad (Pz ad n) (PH ad n) EE D2 [some rsD,some (.tup<|ag (os1++o::os2)),some (aw pl),some (.ref p),some (.int (os1.length:Nat)),some r.d] N:=by
 have eo:=kH (a:=os1) (b:=os2) (o:=o);unfold jA;generalize hK3:iY ad (Pz ad n) (PH ad n) EE=K3;simp only[ak,bD,ai,aa,ac,al,ae,aD,aH,eo,JA,dt];refine⟨rfl,au λQ' E' hq hE=>qp ok ok2 (λs=>hq _ _ ?_) λs=>hE _ _ (h2 ?_)⟩
 .rw[<- hK3]
  unfold iY;generalize hK1:iX ad (Pz ad n) (PH ad n) EE=K1;generalize hK2:j7 ad (Pz ad n) (PH ad n) EE=K2;simp only[aE,bR,aj,ai,aa,ac,ae,JA,dt];refine⟨rfl,bQ ok ?_⟩;have tr:yD N (.lst<|Aq r)=some (aV r):=by cases r<;>rfl
  simp only[tr];cases cb:aV r with
  |true=>
   show K1 D2 _ N;rw[<- hK1];unfold iX;simp only[bD,eE,aj,ai,aa,ac,al,av,ae,aD,aH,eo,b_,hp,JA,dt];refine⟨trivial,aM (by simp),cB (by lia) ⟨rfl,au λQ2 E2 hq2 hE2=>ih r o _ N Q2 E2 names m many ok ok2 cb s hn hc (by simp;lia) (λl el q hq=>hq2 _ _ (fv hq ?_)) λe=>hE2 _ _ (h2 e)⟩⟩
   have hle:=mD r o _ _ el;simp only[cC,hp,cz];refine⟨aM (by simp only[JK];lia),?_⟩
   rw[<- LL];exact h1 l el
  |false=>
   obtain⟨s1,_⟩:=oX (pl:=pl++[(os1.length:Int)]) ok ok2 cb;show K2 D2 _ N;rw[<- hK2];unfold j7;simp only[bD,eE,aa,ac,al,av,ae,aD,aH,eo,b_,hp,JA,dt];refine⟨trivial,aM (by simp),cB (by lia) ⟨aM (by simp),?_⟩⟩
   simp only[bo,hp];refine⟨gC (by simp only[JK];lia),?_⟩
   have:=h1 _ (s1 s);rw[LL]at this;exact this
 .cases cb:aV r with
  |true=>exact Gn cb s
  |false=>exact(oX ok ok2 cb).2 s
theorem AB(ih:PWi ad n):PPa ad (n+1):=by
 intro rs os pl M Q E names m many ok ok2 hn hc hl h1 h2;rw[Jh (n:=n)];unfold vp;generalize hK5:j5 ad (Pz ad n) (PH ad n) (aJ E)=K5;simp only[ak,aE,ao,al,br,aa,ac,ae,cq,aH,bc,gK,dv,aG,bN,JA,dt];refine⟨trivial,trivial,?_⟩
 by_cases c:((rs.length:Nat):Int)=(os.length:Nat)
 .rw[decide_eq_true c,Kz,if_neg (by simp)]
  unfold aC;dsimp only;simp only[ak,ap];refine⟨aM (by simp),λp hp=>?_⟩
  simp only[af,JP];rw[<- hK5];unfold j5;simp only[ak,bW,eJ,aa,ac,ae,aH,bF,cG,JA,dt]
  refine bt (λxs Y N=>∃(rs2 os1 os2:List Rw) (acc:List Tr) (c4 c5:Option D),xs=bJ os1.length (ag rs2)/\os=os1++os2/\rs2.length=os2.length/\aO names m many rs2/\aO names m many os2/\2*bq rs2+1<=n+1/\acc.length+cRs rs2<=1000/\pl.length+2*bq rs2+1<=900/\Y=[some (.tup<|ag rs),some (.tup<|ag os),some (aw pl),some (.ref p),c4,c5]/\N=M.upd p (.lst<|acc.map AS)/\
   (∀l,cr pl os1.length rs2 os2=some l->cr pl 0 rs os=some (acc++l))/\(cr pl os1.length rs2 os2=none->cr pl 0 rs os=none)) (λ_ _ _ _=>aA) ?_ ?_ _ _ _ ⟨rs,[],os,[],none,none,rfl,rfl,by lia,ok,ok2,by lia,by simpa using hc,by lia,rfl,rfl,λl e=>by simpa using e,λe=>e⟩
  .rintro Y N ⟨rs2,os1,os2,acc,c4,c5,e1,e2,e3,o1,o2,b1,b2,b3,rfl,rfl,g1,g2⟩
   have:rs2=[]:=by cases rs2 with|nil=>rfl|cons _ _=>simp[ag,bJ]at e1
   subst this;have:os2=[]:=List.length_eq_zero_iff.mp (by simpa using e3.symm)
   subst this;have:=g1 [] rfl;rw[JR]at this;exact aq (h1 acc this p hp)
  .rintro x xs Y N ⟨rs2,os1,os2,acc,c4,c5,e1,e2,e3,o1,o2,b1,b2,b3,rfl,rfl,g1,g2⟩ D' hnx _ _ _
   cases rs2 with
   |nil=>simp[ag,bJ]at e1
   |cons r rs2=>
    cases os2 with
    |nil=>simp at e3
    |cons o os2=>
     simp only[ag,bJ,Kc]at e1;obtain⟨rfl,rfl⟩:=e1;simp only[bq,cRs]at b1 b2 b3;have q1:2*max (hR r) (bq rs2)=max (2*hR r) (2*bq rs2):=by lia
     simp only[bX,aK,bY,af,JP,JC,JT];subst e2;refine⟨trivial,Cz ih o1.1 o2.1 (by lia) (by lia) (by lia) (by lia) Mem.upd_same (λl el=>?_) λe=>?_⟩
     .rw[Mem.upd_upd]
      have le:=mD r o _ _ el;refine hnx _ _ ⟨rs2,os1++[o],os2,acc++l,_,_,by simp,by simp,by simpa using e3,o1.2,o2.2,by lia,by simp;lia,by lia,rfl,rfl,λl2 el2=>?_,λe=>?_⟩
      .have:cr pl os1.length (r::rs2) (o::os2)=some (l++l2):=by
        simp only[JD,JC,JT]at el2;simp only[cr,el,el2]
       rw[g1 _ this,Ko]
      .apply g2
       simp only[JD,JC,JT]at e;simp only[cr,el,e]
     .refine⟨M,λb ob z=>by rw[ah (λw=>by rw[w,hp]at z;cases z)];exact z,h2<|g2 ?_⟩
      simp only[cr,e]
 .rw[decide_eq_false c,MB,if_pos rfl]
  unfold eV;refine nU (h2 ?_);cases e:cr pl 0 rs os with
  |none=>rfl
  |some l=>
   have:=dP rs os pl 0;rw[e]at this;have:=dE this.symm;lia
end
section
variable {ad:Ad}{M N:Mem}{Q:DK}{E:DX}{r o:Rw}{names:List Str}{m many:Int}{n:Nat}
def Ef(r:Rw):List D:=if eY r=true then [.int 1,.int 0] else [.int 0]
theorem fE{EE:DX}{bx:BxQ EE λd M'=>frz d M' Q}(ok:cM names m many r)(h:Q (.lst<|Ef r) M):calls (pN ad) EE [r.d] M (λd M'=>frz d M' Q) bx:=
 au λQ' E' hq _=>by
  have w1:=lN ok;rw[Hy (n:=0)];unfold sW;rw[fA];simp only[ax,zN,ao,al,ac,dC,aD,aH,atI_0,cH,dv,aG,bN,JA,dt];rw[w1];refine⟨trivial,trivial,?_⟩;unfold Ef at h;cases c:eY r with
  |true=>
   rw[c,if_pos rfl]at h;exact⟨aM (by simp),λp hp=>aq (hq _ _<|fv hp h)⟩
  |false=>
   rw[c,if_neg (by simp)]at h
   exact⟨aM (by simp),λp hp=>aq (hq _ _<|fv hp h)⟩
theorem mP(ih:PPa ad n){pl:List Int}{rd od:D}{a a':List Rw}{i:Int}{p:Addr}{acc:List Tr}{EE:DX}{D2:DEnds}(ok:aO names m many a)(ok2:aO names m many a')(hn:2*bq a+1<=n)(hc:cRs a<=1000)(hl:pl.length+1+2*bq a+1<=900)(ha:acc.length<=100000)(hp:N p=some (.lst<|acc.map AS))
  (h1:∀l,cr (pl++[i]) 0 a a'=some l->D2.nx [some rd,some od,some (aw pl),some (.ref p),some (.int i),some (.tup<|ag a),some (.tup<|ag a')] (N.upd p<|.lst<|(acc++l).map AS))
  (h2:cr (pl++[i]) 0 a a'=none->EE ad.C_NoBuild N):
  l0 ad (Pz ad n) (PH ad n) EE D2 [some rd,some od,some (aw pl),some (.ref p),some (.int i),some (.tup<|ag a),some (.tup<|ag a')] N:=by
 unfold l0;simp only[bD,eE,aj,ai,aa,ac,al,av,ae,b_,hp,JA,dt];refine⟨trivial,aM (by simp),cB (by lia) ⟨rfl,au λQ2 E2 hq2 hE2=>ih a a' _ N Q2 E2 names m many ok ok2 hn hc (by simp;lia) (λl el q hq=>hq2 _ _ (fv hq ?_)) λe=>hE2 _ _ (h2 e)⟩⟩
 have hle:=cV a a' _ _ _ el;simp only[cC,hp,cz];refine⟨aM (by simp only[JK];lia),?_⟩
 rw[<- LL];exact h1 l el
theorem B_(ih:PPa ad n):PWi ad (n+1):=by
 intro r o pl M Q E names m many ok ok2 hb hs hn hc hl h1 h2;rw[u_q5 (n:=n)];unfold Dd qL;generalize hK1:l0 ad (Pz ad n) (PH ad n) (aJ E)=K1;simp only[ak,ap];refine⟨aM (by simp),λp hp=>?_⟩
 simp only[af,JP,bW,pe,aa,aj,ai,ac,ae,JA,dt];refine⟨rfl,fE ok ⟨rfl,bQ ok ⟨rfl,bQ ok2 ?_⟩⟩⟩;simp only[aH,bF,JR];have bad:∀{l:List D},eg pl r o=none->aJ E ad.C_NoBuild (M.upd p<|.lst l):=λe=>⟨M,λb ob z=>by rw[ah (λw=>by rw[w,hp]at z;cases z)];exact z,h2 e⟩
 simp only[nC,JU]at hs;have hs:=hs.2;rw[hb,Bool.true_or,Kz,NB,JU]at hs;have e1:=of_decide_eq_true hs.1;have e2:=of_decide_eq_true hs.2;cases r with
 |ifr x a b=>
  have i2:=lN ok2;rw[<- e1,decide_eq_true (show fD (.ifr x a b)="if" from rfl)]at i2;cases o with
  |ifr y a' b'=>
   have:x=y:=e2;subst this;simp only[hR,cR]at hn hc hl;simp only[Aq,Ef,eY,if_true,cJ];refine⟨aA,?_⟩;simp only[bX,aK,bY,af,JP,JC,JT];refine⟨trivial,?_⟩;rw[<- hK1];refine mP ih (acc:=[]) ok.2.1 ok2.2.1 (by lia) (by lia) (by lia) (by simp) Mem.upd_same (λl1 el1=>⟨aA,?_⟩) λe=>bad (by simp only[eg,e,if_true])
   simp only[bX,aK,bY,af,JP,JC,JT];have q1:=cV a a' _ _ _ el1;refine⟨trivial,mP ih ok.2.2 ok2.2.2 (by lia) (by lia) (by lia) (by simp;lia) Mem.upd_same (λl2 el2=>⟨aA,?_⟩) λe=>?_⟩
   .rw[Mem.upd_upd,Mem.upd_upd]
    exact aq (h1 _ (by simp only[eg,el1,el2,if_true,LK]) p hp)
   .rw[Mem.upd_upd]
    exact bad (by simp only[eg,e,el1,if_true])
  |_=>simp[eY]at i2
 |again x a=>
  have i2:=pd ok2;rw[<- e1,decide_eq_true (show fD (.again x a)="again" from rfl)]at i2;cases o with
  |again y a'=>
   have:x=y:=e2;subst this;simp only[hR,cR]at hn hc hl;simp only[Aq,Ef,eY,JQ,if_false,cJ];refine⟨aA,?_⟩;simp only[bX,aK,bY,af,JP,JC,JT];refine⟨trivial,?_⟩;rw[<- hK1];refine mP ih (acc:=[]) ok.2 ok2.2 (by lia) (by lia) (by lia) (by simp) Mem.upd_same (λl1 el1=>⟨aA,?_⟩) λe=>bad (by simp only[eg,e,if_true])
   rw[Mem.upd_upd];exact aq (h1 _ (by simp only[eg,el1,if_true,LK]) p hp)
  |_=>simp[lq]at i2
 |_=>cases hb
theorem qO:∀n:Nat,PPa ad n/\PWi ad n
 |0=>⟨λ_ _ _ _ _ _ _ _ _ _ _ h=>by lia,λr _ _ _ _ _ _ _ _ _ _ hb _ h=>by
   cases r with
   |ifr x a b=>simp only[hR]at h;lia
   |again x a=>simp only[hR]at h;lia
   |_=>cases hb⟩
 |n+1=>⟨AB (qO n).2,B_ (qO n).1⟩
end
theorem pE:∀(n:Nat) (l:List Str),fits n (l.map D.str)=true
 |n,[]=>by simp[fits]
 |n,x::l=>by simp[fits,bN,pE n l]
mutual
theorem Bp:∀(r o:Rw) (pl:List Int),pl≠[]->∀x∈bH pl r o,x≠[]
 |.ifr _ a b,o,pl,h=>by
  have h1:=dm a;have h2:=dm b;cases o with
  |ifr y a' b'=>
   intro x hx;simp only[bH,JW]at hx;rcases hx with hx|hx
   .exact h2 _ _ _ x hx
   .exact h1 _ _ _ x hx
  |_=>intro x hx;cases hx
 |.again _ a,o,pl,h=>by
  have h1:=dm a;cases o with
  |again y a'=>
   intro x hx;exact h1 _ _ _ x hx
  |_=>intro x hx;cases hx
 |.put _ _,o,pl,h=>by intro x hx;simp only[bH]at hx;split at hx<;>simp at hx;rw[hx];exact h
 |.take _ _,o,pl,h=>by intro x hx;simp only[bH]at hx;split at hx<;>simp at hx;rw[hx];exact h
 |.pick _ _,o,pl,h=>by intro x hx;simp only[bH]at hx;split at hx<;>simp at hx;rw[hx];exact h
 |.two _ _ _ _,o,pl,h=>by intro x hx;simp only[bH]at hx;split at hx<;>simp at hx;rw[hx];exact h
theorem dm:∀(rs os:List Rw) (pl:List Int) (j:Nat),∀x∈bf pl j rs os,x≠[]
 |[],os,pl,j=>by intro x hx;cases hx
 |r::rs,os,pl,j=>by
  cases os with
  |nil=>intro x hx;cases hx
  |cons o os=>
   intro x hx;simp only[bf,JW]at hx;rcases hx with hx|hx
   .exact Bp r o _ (by simp) x hx
   .exact dm rs os _ _ x hx
end
mutual
theorem Fu:∀(r o:Rw) (pl:List Int) (l:List Tr),eg pl r o=some l->∀t∈l,aV t.2.1=false/\aV t.2.2=false
 |.ifr x a b,o,pl,l,h=>by
  have h1:=fZ a;have h2:=fZ b;cases o with
  |ifr y a' b'=>
   simp only[eg]at h
   split at h
   .split at h
    .rename_i e1 e2
     cases h;intro t ht;rcases JW.mp ht with z|z
     .exact h1 _ _ _ _ e1 t z
     .exact h2 _ _ _ _ e2 t z
    .cases h
   .cases h
  |_=>cases h
 |.again x a,o,pl,l,h=>by
  have h1:=fZ a;cases o with
  |again y a'=>
   simp only[eg]at h
   split at h
   .exact h1 _ _ _ _ h
   .cases h
  |_=>cases h
 |.put x k,o,pl,l,h=>by cases o<;>cases h<;>simp[aV]
 |.take x k,o,pl,l,h=>by cases o<;>cases h<;>simp[aV]
 |.pick x k,o,pl,l,h=>by cases o<;>cases h
 |.two w x y z,o,pl,l,h=>by cases o<;>cases h<;>simp[aV]
theorem fZ:∀(rs os:List Rw) (pl:List Int) (j:Nat) (l:List Tr),cr pl j rs os=some l->∀t∈l,aV t.2.1=false/\aV t.2.2=false
 |[],os,pl,j,l,h=>by
  cases os with
  |nil=>cases h;simp
  |cons _ _=>cases h
 |r::rs,os,pl,j,l,h=>by
  cases os with
  |nil=>cases h
  |cons o os=>
   simp only[cr]at h
   split at h
   .rename_i e1 e2
    cases h;intro t ht;rcases JW.mp ht with z|z
    .exact Fu r o _ _ e1 t z
    .exact fZ rs os _ _ _ e2 t z
   .cases h
end
theorem wI{a b:List (List Int)}(h:a.Perm b):zJ fK a=zJ fK b:=qW fK (nF fK a) ((dB fK a).trans h)
theorem hW:∀ks:List (List Int),lT (ks.map aw)=some ks
 |[]=>rfl
 |k::ks=>by
  have h:∀k:List Int,cX (k.map D.int)=some k:=λk=>by
   induction k with
   |nil=>rfl
   |cons a k ih=>simp[cX,ih]
  rw[JO];simp only[aw,lT,h];rw[hW ks]
theorem mx{r:Rw}(h:aV r=false):bN 60 r.d=true:=by cases r<;>first|rfl|cases h
theorem IY{M:Mem}(r:Rw):dv M r.d=r.d:=by cases r<;>rfl
def y0(rs os:List Rw):List D:=(zJ fK<|bf [] 0 rs os).map aw
section
variable {ad:Ad}{M N:Mem}{Q:DK}{E:DX}{names names':List Str}{m many m' many':Int}{rs os:List Rw}{mk mk':Str}
theorem Fq{a b a' b':Int}{l l':List Str}:cA [.int a,.tup (l.map D.str),.int b] [.int a',.tup (l'.map D.str),.int b']=decide (a=a'/\l=l'/\b=b'):=by
 have e:∀l l':List Str,cA (l.map D.str) (l'.map D.str)=decide (l=l'):=λl=>by
  induction l with
  |nil=>intro l';cases l'<;>rfl
  |cons x l ih=>intro l';cases l' with
   |nil=>rfl
   |cons y l'=>simp only[JO,cA,aG,ih,Kc,N8]
 simp only[cA,aG,e,Kt,N8]
theorem AH{A:ar}{D0:DEnds}{cc:Option D}(h1:¬((m=m'/\names=names'/\many=many')/\mk=mk')->A D0 [some (bj m many names rs mk),some (bj m' many' names' os mk'),cc] M)(h2:(m=m'/\names=names'/\many=many')->mk=mk'->D0.nx [some (bj m many names rs mk),some (bj m' many' names' os mk'),cc] M):
  aE (iT (ao<|al gK (aj<|d_ (ac 0) aB<|ba<|dC<|.int 3)<|aj<|d_ (ac 1) aB<|ba<|dC<|.int 3)<|ao<|al gK (al aD (ac 0)<|dC<|.int 4)<|al aD (ac 1)<|dC<|.int 4) A aC D0 [some (bj m many names rs mk),some (bj m' many' names' os mk'),cc] M:=by
 have e3:∀(a b c:D) (l:List D),df (a::b::c::l) none (some 3)=[a,b,c]:=λa b c l=>cN (k:=3);have f3:∀(l:List Str) (a b:Int),bN 60 (.tup [.int a,.tup (l.map D.str),.int b])=true:=λl a b=>by simp[bN,fits,pE]
 simp only[aE,iT,ao,al,aj,d_,ac,aB,ba,dC,sD,bj,e3,frz,gK,dv,JA,dt];refine⟨f3 _ _ _,f3 _ _ _,?_⟩;have hd:aG (.tup [.int m,.tup (names.map D.str),.int many]) (.tup [.int m',.tup (names'.map D.str),.int many'])=decide (m=m'/\names=names'/\many=many'):=by rw[<- Fq];rfl
 rw[hd]
 by_cases c:m=m'/\names=names'/\many=many'
 .rw[decide_eq_true c]
  simp only[Kz,JQ,if_false,aD,aH,atI_4,JA,dt,gK,dv,bN,aG];refine⟨trivial,trivial,?_⟩;show if (!decide (mk=mk'))=true then A D0 [some (bj m many names rs mk),some (bj m' many' names' os mk'),cc] M else D0.nx [some (bj m many names rs mk),some (bj m' many' names' os mk'),cc] M
  by_cases c2:mk=mk'
  .rw[if_neg (by rw[decide_eq_true c2];simp)]
   exact h2 c c2
  .rw[if_pos (by rw[decide_eq_false c2];rfl)]
   exact h1 λz=>c2 z.2
 .rw[decide_eq_false c]
  exact h1 λz=>c z.1
theorem p8(ok:aO names m many rs)(ok2:aO names m many os)(hh:bq rs<=10)(hc:cRs rs<=63)(h1:bv rs os=true->∀p,M p=none->Q (.ref p) (M.upd p<|.lst<|y0 rs os))(h2:bv rs os=false->E ad.C_NoBuild M):BZ ad [bj m many names rs mk,bj m many names os mk] M Q E:=by
 rw[u_q8 (n:=0)];unfold AA;refine AH (λz=>absurd ⟨⟨rfl,rfl,rfl⟩,rfl⟩ z) λ_ _=>?_;dsimp only;have pa:=(qO (ad:=ad) 24).1 rs os [] M;unfold su;generalize hK:mJ ad (aJ E)=K;simp only[ak,ap,aj,ai,aa,al,ac,dC,av,ae,aD,bj,aH,atI_3,JA,dt];refine⟨aM (by simp),rfl,au λQ' E' hq hE=>pa Q' E' names m many ok ok2 (by lia) (by lia) (by simp;lia) (λl el p hp=>hq _ _ (fv hp ?_)) λe=>hE _ _ ?_⟩
 .have eo:bv rs os=true:=by rw[<- dP rs os [] 0,el];rfl
  have hlf:=fZ _ _ _ _ _ el;have hle:=cV _ _ _ _ _ el;have hpm:=eW _ _ _ _ _ el;simp only[af,JP];rw[<- hK];unfold mJ;simp only[ax,br,aa,aj,ae,aN,cL,ac,aH,bF,JA,dt];refine bh (λys acc Y M'=>∃(us zs:List Tr) (c0 c1 c2:Option D),l=us++zs/\ys=zs.map AS/\acc=(nE us).map aw/\Y=[c0,c1,c2]/\M=M') (λ_ _ _ _ _=>aA) ?_ ?_ ?_ _ _ _ _ ⟨[],l,none,none,none,rfl,rfl,rfl,rfl,rfl⟩
  .rintro acc Y M' ⟨us,zs,c0,c1,c2,e1,e2,rfl,rfl,rfl⟩ p hp
   have ez:zs=[]:=by simpa using e2.symm
   subst ez;rw[JR]at e1;subst e1;refine fv hp ?_;simp only[dD,cz,hW];have hul:(nE l).length<=l.length:=by simp only[nE,JK];exact LP ..
   refine⟨by lia,λk hk=>dm _ _ _ _ k (hpm.mem_iff.mp hk),λp hp=>?_⟩
   rw[wI hpm];exact aq (h1 eo p hp)
  .rintro y ys acc Y M' ⟨us,zs,c0,c1,c2,e1,e2,rfl,rfl,rfl⟩ N hN1 hN2
   cases zs with
   |nil=>simp at e2
   |cons z zs=>
    simp only[JO,Kc]at e2;obtain⟨rfl,rfl⟩:=e2;have hz:=hlf z (by rw[e1];simp)
    have hl:=congrArg Km e1;simp only[JD,JC]at hl;have hul:(nE us).length<=us.length:=by simp only[nE,JK];exact LP ..
    simp only[AS,bX,aK,bY,af,JP,ao,al,ac,gK,IY,JC,JT,JA,dt];refine⟨trivial,mx hz.1,mx hz.2,?_⟩;have en:(!aG z.2.1.d z.2.2.d)=xR z.2.1 z.2.2:=rfl;rw[en];cases c:xR z.2.1 z.2.2 with
    |true=>exact hN1 _ _ _ (by simp;exact gC (by lia)) ⟨us++[z],zs,_,_,_,by rw[e1];simp,rfl,by simp[nE,c],rfl,rfl⟩
    |false=>exact hN2 _ _ _ ⟨us++[z],zs,_,_,_,by rw[e1];simp,rfl,by simp[nE,c],rfl,rfl⟩
  .rintro y ys acc Y M' ⟨us,zs,c0,c1,c2,e1,e2,rfl,rfl,rfl⟩
   have hl:=congrArg Km e1;simp only[JD]at hl;have hul:(nE us).length<=us.length:=by simp only[nE,JK];exact LP ..
   simp;exact gC (by lia)
 .refine nU (h2 ?_)
  rw[<- dP rs os [] 0];exact Option.not_isSome_iff_eq_none.mpr e |> NK.mpr
end
def flagsD:List D:=[.bl false,.bl false,.bl false,.bl false,.bl false,.bl true,.bl false,.bl false,.bl false,.bl false,.bl true]
section
variable {ad:Ad}{M N:Mem}{Q:DK}{E:DX}
theorem gF{Q:DK}{d:D}{M:Mem}{p:Addr}{o:MO}(hp:M p=none)(h:Q d M):drp Q d (M.upd p o):=
 ⟨M,λb u e=>by rw[ah (λz=>by rw[z,hp]at e;cases e)];exact e,h⟩
theorem qU{ea:Addr}(h:∀p,M p=none->Q (.ref p) (M.upd p<|.lst flagsD)):vZ ad ea [.ref ea] M Q E:=by
 simp![I_,tK];refine⟨aM (by decide),λp1 h1=>⟨aM (by decide),λp2 h2=>⟨aM (by decide),λp3 h3=>⟨aM (by decide),λp4 h4=>⟨aM (by decide),λp5 h5=>?_⟩⟩⟩⟩⟩
 simp only[Mem.upd_del,am h1]at h2 h3 h4 h5 ⊢;simp only[am h2]at h3 h4 h5 ⊢;simp only[am h3]at h4 h5 ⊢;simp only[am h4]at h5 ⊢;exact aq (h p5 h5)
theorem xo{p:Addr}(hp:M p=some (.lst flagsD))(h:Q (.str<|JL "big") M):uq ad [.ref p] M Q E:=by
 have ec:df flagsD none (some (10:Int))=flagsD.take 10:=cN (k:=10);have eb:eA (flagsD.take 10)=some [false,false,false,false,false,true,false,false,false,false]:=rfl;have eb2:eA flagsD=some [false,false,false,false,false,true,false,false,false,false,true]:=rfl;have el:flagsD.length=11:=rfl;have e10:atI flagsD 10=some (.bl true):=by rw[bK (by lia)];rfl
 have ecn:List.countP (λx=>x==true) [false,false,false,false,false,true,false,false,false,false]=1:=by decide
 have eix:List.findIdx? (λx=>x==true) [false,false,false,false,false,true,false,false,false,false,true]=some 5:=by decide
 simp![Jr,sI,hp];refine⟨aM (by decide),λp1 h1=>?_⟩
 simp only[Mem.upd_del,am h1,hp,el];simp only[show decide (((11:Nat):Int)=11)=true from rfl,Kz,JQ,if_false];intro p2 h2;simp only[am h2,hp,ec,eb,ecn,e10];simp only[show decide (((1:Nat):Int)=1)=true from rfl,Kz,JQ,if_false,eb2,eix];refine⟨trivial,by decide,?_⟩
 rw[bK (by lia)]
 exact aq h
end
def IB:Rw->Rw
 |.pick x _=>.take x 0
 |r=>r
mutual
def pZ:Rw->Rw
 |.ifr x a b=>.ifr x (cE a) (cE b)
 |.again x a=>.again x (cE a)
 |.pick x _=>.take x 0
 |r=>r
def cE:List Rw->List Rw
 |[]=>[]
 |r::rs=>pZ r::cE rs
end
theorem pF:∀{a b:List Rw},cE (a++b)=cE a++cE b
 |[],_=>rfl
 |r::a,b=>by simp only[Ky,cE,pF]
theorem zH:∀{a:List Rw},(cE a).length=a.length
 |[]=>rfl
 |r::a=>by simp only[cE,JC,zH]
theorem ff:∀{rs:List Rw},rs.length<=cRs rs
 |[]=>by simp
 |r::rs=>by
  have:=ff (rs:=rs);have:1<=cR r:=by cases r<;>simp[cR]<;>lia
  simp only[JC,cRs];lia
def Du:Rw->List (List Rw)
 |.ifr _ a b=>[a,b]
 |.again _ a=>[a]
 |_=>[]
theorem HY{r:Rw}(h:aV r=true):rsR r=(Du r).map λa=>D.tup (ag a):=by cases r<;>first|rfl|cases h
section
variable {ad:Ad}{M N:Mem}{Q:DK}{E:DX}{names:List Str}{m many:Int}{n:Nat}{r:Rw}
theorem yA(ok:cM names m many r){K:DK}(h:K (.bl<|aV r) M):qy (.str<|fD r) (.lst [.str (JL "if"),.str (JL "again")]) M K:=by
 have w1:=lN ok;have w2:=pd ok;have e:iB M (.str<|fD r) (.lst [.str (JL "if"),.str (JL "again")])=some (aV r):=by
  have e1:decide (JL "if"=fD r)=eY r:=by rw[<- w1];exact decide_eq_decide.mpr eq_comm
  have e2:decide (JL "again"=fD r)=lq r:=by rw[<- w2];exact decide_eq_decide.mpr eq_comm
  simp only[iB,aH,dv,bN,fits,aG,Ls,List.any_nil,e1,e2,Kt,and_self,if_true,OA];cases r<;>rfl
 simp only[qy,e];exact h
def Ia(ad:Ad)(n:Nat):Prop:=∀(rs:List Rw) (M:Mem) (Q:DK) (E:DX) (names:List Str) (m many:Int),aO names m many rs->bq rs+1<=n->cRs rs<=1000->Q (.tup<|ag<|cE rs) M->PK ad n [.tup (ag rs)] M Q E
theorem np_e(ih:Ia ad n){Y:Dl}{w x:Str}{ps:List (List Rw)}{K:DK}(h2:Y[2]?=some (some<|.tup (.str w::.str x::ps.map λa=>D.tup (ag a))))(hps:∀a∈ps,aO names m many a/\bq a+1<=n/\cRs a<=1000)(hl:ps.length<=10)(h:K (.lst (ps.map λa=>D.tup (ag<|cE a))) M):
  aj (aN (cL<|aj<|d_ (ac 2) (ba<|dC<|.int 2) aB) ["some"] [] (af 0) cF<|aj<|ai (PK ad n) qw 1<|aa (ac 0) ae) Y M K:=by
 have e2:∀(a b:D) (l:List D),df (a::b::l) (some 2) none=l:=λa b l=>oj (k:=2);simp only[aj,aN,cL,d_,ac,ba,aB,dC,h2,sD,e2,frz,aH,bF];refine bh (λys acc Y M'=>∃(us zs:List (List Rw)) (c0:Option D),ps=us++zs/\ys=(zs.map λa=>D.tup (ag a))/\acc=(us.map λa=>D.tup (ag<|cE a))/\Y=[c0]/\M=M') (λ_ _ _ _ _=>aA) ?_ ?_ ?_ _ _ _ _ ⟨[],ps,none,rfl,rfl,rfl,rfl,rfl⟩
 .rintro acc Y M' ⟨us,zs,c0,e1,e2,rfl,rfl,rfl⟩ p hp
  have ez:zs=[]:=by simpa using e2.symm
  subst ez;rw[JR]at e1;subst e1;exact fv hp h
 .rintro y ys acc Y M' ⟨us,zs,c0,e1,e2,rfl,rfl,rfl⟩ N hN1 hN2
  cases zs with
  |nil=>simp at e2
  |cons z zs=>
   simp only[JO,Kc]at e2;obtain⟨rfl,rfl⟩:=e2;have hl2:=congrArg Km e1;simp only[JD,JC]at hl2;have hz:=hps z (by rw[e1];simp)
   simp only[af,JP,cF,if_true,ai,aa,ac,ae,dt];exact⟨rfl,au λQ' E' hq _=>ih z M Q' E' names m many hz.1 hz.2.1 hz.2.2 (hq _ _<|hN1 _ _ _ (by simp;exact gC (by lia)) ⟨us++[z],zs,_,by rw[e1];simp,rfl,by simp,rfl,rfl⟩)⟩
 .rintro y ys acc Y M' ⟨us,zs,c0,e1,e2,rfl,rfl,rfl⟩
  have hl2:=congrArg Km e1;simp only[JD]at hl2;simp;exact gC (by lia)
theorem zM{T:Sd}{rsD:D}{p:Addr}{acc:List Rw}{EE:DX}{D2:DEnds}(ok:decide (fD r="pick")=cD r)(ha:acc.length<=1000)(hp:N p=some (.lst<|ag acc))(h:∀c2,D2.nx [some rsD,some (.ref p),c2] (N.upd p<|.lst<|ag (acc++[IB r]))):
  k7 ad T EE D2 [some rsD,some (.ref p),some r.d] N:=by
 have app:∀q:Rw,q=IB r->bD (eE "list" bo (ac 1)<|aa (ac 2) ae) D2 [some rsD,some (.ref p),some q.d] N:=λq e=>by
  subst e;simp only[bD,eE,aa,ac,ae,b_,hp,bo,JA,dt];refine⟨trivial,gC (by rw[bc];lia),?_⟩
  have:=h (some (IB r).d);rw[aS]at this;exact this
 unfold k7;generalize hG:bD (eE "list" bo (ac 1)<|aa (ac 2) ae)=G at app ⊢;generalize hK:nr ad T EE=K;have app2:cD r=false->G D2 [some rsD,some (.ref p),some r.d] N:=λe=>app r (by cases r<;>first|rfl|cases e)
 rw[fA]at app2 ⊢;simp only[ak,aE,ao,al,ac,dC,aD,aH,atI_0,cH,dv,aG,bN,JA,dt];rw[ok];refine⟨trivial,trivial,?_⟩;cases r with
 |pick x y=>
  show K _ _ N;rw[<- hK];unfold nr;simp only[fD,r_,ap,av,aa,dC,al,ac,ae,aD,aH,atI_1,af,JP,JA,dt];exact⟨aM (by simp),app (.take x 0) rfl⟩
 |_=>exact app2 rfl
theorem CV(ih:Ia ad n){rsD:D}{p:Addr}{acc:List Rw}{EE:DX}{D2:DEnds}(ok:cM names m many r)(hn:hR r<=n)(hc:cR r<=1000)(ha:acc.length<=1000)(hp:N p=some (.lst<|ag acc))(h:∀c2,D2.nx [some rsD,some (.ref p),c2] (N.upd p<|.lst<|ag (acc++[pZ r]))):
  ki ad (PK ad n) EE D2 [some rsD,some (.ref p),some r.d] N:=by
 unfold ki;generalize hK3:k7 ad (PK ad n) EE=K3;generalize hK1:on ad (PK ad n) EE=K1;have lf:aV r=false->K3 D2 [some rsD,some (.ref p),some r.d] N:=λe=>by
  rw[<- hK3];refine zM (zr ok) ha hp ?_;have:IB r=pZ r:=by cases r<;>first|rfl|cases e
  rw[this];exact h
 have bl:aV r=true->K1 { D2 with nx:=K3 D2 } [some rsD,some (.ref p),some r.d] N:=λe=>by
  rw[<- hK1];unfold on;have hps:∀a∈Du r,aO names m many a/\bq a+1<=n/\cRs a<=1000:=λa ha=>by
   cases r with
   |ifr x a b=>
    simp only[hR,cR]at hn hc;simp only[Du,JM,Kb,or_false]at ha;rcases ha with rfl|rfl
    .exact⟨ok.2.1,by lia,by lia⟩
    .exact⟨ok.2.2,by lia,by lia⟩
   |again x a=>
    simp only[hR,cR]at hn hc;simp only[Du,JM,Kb,or_false]at ha;subst ha;exact⟨ok.2,by lia,by lia⟩
   |_=>cases e
  have hpl:(Du r).length<=2:=by cases r<;>simp[Du]
  have key:∀K:DK,_->_:=λK hK=>np_e (K:=K) (M:=N) (Y:=[some rsD,some (.ref p),some (.tup (.str (fD r)::.str (r_ r)::(Du r).map λa=>D.tup (ag a)))]) ih rfl hps (by lia) hK
  rw[fA,HY e];generalize (aj<|aN (cL<|aj<|d_ (ac 2) (ba<|dC<|.int 2) aB) ["some"] [] (af 0) cF<|aj<|ai (PK ad n) qw 1<|aa (ac 0) ae)=Z at key ⊢;have e2:∀(a b:D) (l:List D),df (a::b::l) none (some 2)=[a,b]:=λa b l=>cN (k:=2);simp only[ap,aj,al,d_,ac,aB,ba,dC,sD,e2,frz,br,aa,JA,dt];refine key _ ?_;simp only[ae,bV,cz,aF];refine⟨aM (by simp;lia),?_⟩
  simp only[frz,af,JP];rw[<- hK3];have e3:D.tup ([D.str (fD r),.str (r_ r)]++(Du r).map λa=>D.tup (ag<|cE a))=(pZ r).d:=by cases r<;>first|rfl|cases e
  rw[e3];refine zM ?_ ha hp ?_
  .cases r<;>first|rfl|cases e
  .have:IB (pZ r)=pZ r:=by cases r<;>first|rfl|cases e
   rw[this];exact h
 have rd:=fA r;rw[rd]at lf bl ⊢;simp only[ak,aE,ao,al,ac,dC,aD,aH,atI_0,aj,aX,aa,ae,JA,dt];refine⟨aM (by simp),λq hq=>fv hq (yA ok ?_)⟩
 cases c:aV r with
 |true=>exact bl c
 |false=>exact lf c
theorem Cy(ih:Ia ad n):Ia ad (n+1):=by
 intro rs M Q E names m many ok hn hc h;rw[u_q4 (n:=n)];unfold D8 qV;generalize hK4:ki ad (PK ad n) (aJ E)=K4;simp only[ak,ap];refine⟨aM (by simp),λp hp=>?_⟩
 simp only[af,JP,bW,cL,ac,aH,bF,JA,dt];refine bt (λxs Y N=>∃(us zs:List Rw) (c2:Option D),rs=us++zs/\xs=ag zs/\Y=[some (.tup<|ag rs),some (.ref p),c2]/\N=M.upd p (.lst<|ag<|cE us)) (λ_ _ _ _=>aA) ?_ ?_ _ _ _ ⟨[],rs,none,rfl,rfl,rfl,rfl⟩
 .rintro Y N ⟨us,zs,c2,e1,e2,rfl,rfl⟩
  have ez:zs=[]:=by cases zs with|nil=>rfl|cons _ _=>simp[ag]at e2
  subst ez;rw[JR]at e1;subst e1;simp only[ax,br,aa,ac,ae,bV,cz,Mem.upd_same,JA,dt];exact gF hp h
 .rintro x xs Y N ⟨us,zs,c2,e1,e2,rfl,rfl⟩ D' hnx _ _ _
  cases zs with
  |nil=>simp[ag]at e2
  |cons z zs=>
   simp only[ag,Kc]at e2;obtain⟨rfl,rfl⟩:=e2;have l1:=ff (rs:=rs);subst e1;rw[OkRs_append]at ok;simp only[bd,bq]at hn;simp only[aU,cRs]at hc;have l2:(cE us).length=us.length:=zH;simp only[aU,cRs,JD,JC]at l1;simp only[af,JP];rw[<- hK4];refine CV ih ok.2.1 (by lia) (by lia) (by lia) Mem.upd_same λc=>?_
   rw[Mem.upd_upd];exact hnx _ _ ⟨us++[z],zs,c,by simp,rfl,rfl,by rw[pF];rfl⟩
theorem rW:∀n:Nat,Ia ad n
 |0=>λ_ _ _ _ _ _ _ _ h=>by lia
 |n+1=>Cy (rW n)
end
mutual
def ll:Rw->Prop
 |.ifr _ a b=>cK a/\cK b
 |.again _ a=>cK a
 |.pick _ _=>False
 |_=>True
def cK:List Rw->Prop
 |[]=>True
 |r::rs=>ll r/\cK rs
end
theorem noPks_app:∀{a b:List Rw},cK (a++b)↔cK a/\cK b
 |[],b=>by simp[cK]
 |r::a,b=>by simp only[Ky,cK,noPks_app,and_assoc]
mutual
theorem lQ{names:List Str}{m many:Int}:∀r:Rw,cM names m many r->cM names m many (pZ r)/\ll (pZ r)/\hR (pZ r)=hR r/\cR (pZ r)=cR r
 |.ifr x a b,ok=>by
  have h1:=cY a ok.2.1;have h2:=cY b ok.2.2;exact⟨⟨ok.1,h1.1,h2.1⟩,⟨h1.2.1,h2.2.1⟩,by simp only[pZ,hR,h1.2.2.1,h2.2.2.1],by simp only[pZ,cR,h1.2.2.2,h2.2.2.2]⟩
 |.again x a,ok=>by
  have h1:=cY a ok.2;exact⟨⟨ok.1,h1.1⟩,h1.2.1,by simp only[pZ,hR,h1.2.2.1],by simp only[pZ,cR,h1.2.2.2]⟩
 |.pick x k,ok=>by
  obtain⟨h1,h2,h3⟩:=(show gs names m many (.pick x k) from ok);exact⟨⟨h1,by lia,h3⟩,trivial,rfl,rfl⟩
 |.put x k,ok=>⟨ok,trivial,rfl,rfl⟩
 |.take x k,ok=>⟨ok,trivial,rfl,rfl⟩
 |.two w x y z,ok=>⟨ok,trivial,rfl,rfl⟩
theorem cY{names:List Str}{m many:Int}:∀rs:List Rw,aO names m many rs->aO names m many (cE rs)/\cK (cE rs)/\bq (cE rs)=bq rs/\cRs (cE rs)=cRs rs
 |[],_=>⟨trivial,trivial,rfl,rfl⟩
 |r::rs,ok=>by
  have h1:=lQ r ok.1;have h2:=cY rs ok.2;exact⟨⟨h1.1,h2.1⟩,⟨h1.2.1,h2.2.1⟩,by simp only[cE,bq,h1.2.2.1,h2.2.2.1],by simp only[cE,cRs,h1.2.2.2,h2.2.2.2]⟩
end
theorem BL{r o:Rw}(h1:aV r=false)(h2:aV o=false):xR r o=xR o r:=by
 cases r<;>first|cases h1|skip
 all_goals cases o<;>first|cases h2|skip
 all_goals simp only[xR,Rw.d,aG,cA,eq_comm]
theorem kg{r:Rw}(h1:aV r=false):xR r r=false:=by
 cases r<;>first|cases h1|skip
 all_goals simp[xR,Rw.d,aG,cA]
theorem bT{r o:Rw}{pl:List Int}(h:aV r=false):bH pl r o=if xR r o=true then [pl] else []:=by cases r<;>first|rfl|cases h
theorem za{r o:Rw}(h:aV r=false):iW r o=!(cD r||cD o||aV o):=by cases r<;>first|rfl|cases h
mutual
theorem ww:∀(r:Rw) (pl:List Int),ll r->iW r r=true/\bH pl r r=[]
 |.ifr x a b,pl,h=>by
  simp[iW,bH,(dI a (pl++[1]) 0 h.1).1,(dI a (pl++[1]) 0 h.1).2,(dI b (pl++[0]) 0 h.2).1,(dI b (pl++[0]) 0 h.2).2]
 |.again x a,pl,h=>by
  simp[iW,bH,(dI a (pl++[0]) 0 h).1,(dI a (pl++[0]) 0 h).2]
 |.put x k,pl,h=>by rw[bT rfl,kg rfl];exact⟨rfl,rfl⟩
 |.take x k,pl,h=>by rw[bT rfl,kg rfl];exact⟨rfl,rfl⟩
 |.pick x k,pl,h=>h.elim
 |.two w x y z,pl,h=>by rw[bT rfl,kg rfl];exact⟨rfl,rfl⟩
theorem dI:∀(rs:List Rw) (pl:List Int) (j:Nat),cK rs->bv rs rs=true/\bf pl j rs rs=[]
 |[],pl,j,h=>⟨rfl,rfl⟩
 |r::rs,pl,j,h=>by
  simp[bv,bf,(ww r (pl++[(j:Int)]) h.1).1,(ww r (pl++[(j:Int)]) h.1).2,(dI rs pl (j+1) h.2).1,(dI rs pl (j+1) h.2).2]
end
theorem lK{pl:List Int}:∀{a a' b b':List Rw} {j:Nat},a.length=a'.length->bf pl j (a++b) (a'++b')=bf pl j a a'++bf pl (j+a.length) b b'
 |[],[],b,b',j,_=>by simp[bf]
 |[],_::_,b,b',j,h=>by simp at h
 |_::_,[],b,b',j,h=>by simp at h
 |r::a,o::a',b,b',j,h=>by
  have:=lK (pl:=pl) (a:=a) (a':=a') (b:=b) (b':=b') (j:=j+1) (by simpa using h)
  simp only[Ky,bf,this,Ko,JC];rw[show j+1+a.length=j+(a.length+1) by lia]
theorem gj:∀{a a' b b':List Rw},a.length=a'.length->bv (a++b) (a'++b')=(bv a a'&&bv b b')
 |[],[],b,b',_=>by simp[bv]
 |[],_::_,b,b',h=>by simp at h
 |_::_,[],b,b',h=>by simp at h
 |r::a,o::a',b,b',h=>by
  have:=gj (a:=a) (a':=a') (b:=b) (b':=b') (by simpa using h)
  simp only[Ky,bv,this,Nu]
mutual
theorem Ar:∀(r o:Rw) (pl:List Int),(bH pl r o).length<=cR r
 |.ifr x a b,o,pl=>by
  have h1:=cg a;have h2:=cg b;cases o with
  |ifr y a' b'=>
   have q1:=h1 a' (pl++[1]) 0;have q2:=h2 b' (pl++[0]) 0;simp only[bH,JD,cR];lia
  |_=>simp[bH]
 |.again x a,o,pl=>by
  have h1:=cg a;cases o with
  |again y a'=>
   have q1:=h1 a' (pl++[0]) 0;simp only[bH,cR];lia
  |_=>simp[bH]
 |.put x k,o,pl=>by rw[bT rfl];split<;>simp[cR]
 |.take x k,o,pl=>by rw[bT rfl];split<;>simp[cR]
 |.pick x k,o,pl=>by rw[bT rfl];split<;>simp[cR]
 |.two w x y z,o,pl=>by rw[bT rfl];split<;>simp[cR]
theorem cg:∀(rs os:List Rw) (pl:List Int) (j:Nat),(bf pl j rs os).length<=cRs rs
 |[],os,pl,j=>by simp[bf]
 |r::rs,os,pl,j=>by
  cases os with
  |nil=>simp[bf]
  |cons o os=>
   have q1:=Ar r o (pl++[(j:Int)]);have q2:=cg rs os pl (j+1);simp only[bf,JD,cRs];lia
end
structure Wk(k:Pt)(wk lp:Addr)(names:List Str)(m many:Int)(acc:List (List Int))(M:Mem):Prop where
 h:Has k M
 w:∃u:Int,M wk=some (.lst [cf names m many,.ref lp,.int u])
 l:M lp=some (.lst<|acc.map aw)
 n1:wk≠k.p
 n2:wk≠k.q
 n3:lp≠k.p
 n4:lp≠k.q
 n5:wk≠lp
def Fw(k:Pt)(wk lp:Addr)(M M':Mem):Prop:=∀b o,b≠k.p->b≠k.q->b≠wk->b≠lp->M b=some o->M' b=some o
theorem Fw.trans{k:Pt}{wk lp:Addr}{M M1 M2:Mem}(a:Fw k wk lp M M1)(b:Fw k wk lp M1 M2):Fw k wk lp M M2:=λx o h1 h2 h3 h4 h=>b x o h1 h2 h3 h4 (a x o h1 h2 h3 h4 h)
structure Tn(names:List Str)(m many:Int)(rs rs':List Rw):Prop where
 ok:aO names m many rs'
 np:cK rs'
 k:bv rs rs'=true
 h:bq rs'=bq rs
 c:cRs rs'=cRs rs
structure Tn1(names:List Str)(m many:Int)(r r':Rw):Prop where
 ok:cM names m many r'
 np:ll r'
 k:iW r r'=true
 h:hR r'=hR r
 c:cR r'=cR r
section
variable {ad:Ad}{M N:Mem}{Q:DK}{E:DX}{names:List Str}{m many:Int}{n:Nat}{r:Rw}{k:Pt}{wk lp:Addr}{acc:List (List Int)}
theorem Wk.dr{M':Mem}(w:Wk k wk lp names m many acc M)(d:Dr k M M'):Wk k wk lp names m many acc M':=by
 obtain⟨u,e⟩:=w.w;exact⟨d.1,⟨u,by rw[d.2 _ w.n1 w.n2];exact e⟩,by rw[d.2 _ w.n3 w.n4];exact w.l,w.n1,w.n2,w.n3,w.n4,w.n5⟩
theorem Dr.fw{M':Mem}(d:Dr k M M'):Fw k wk lp M M':=λb o h1 h2 _ _ e=>by rw[d.2 b h1 h2];exact e
theorem Wk.upd{p:Addr}{o:MO}(w:Wk k wk lp names m many acc M)(h1:p≠k.p)(h2:p≠k.q)(h3:p≠wk)(h4:p≠lp):Wk k wk lp names m many acc (M.upd p o):=by
 obtain⟨u,e⟩:=w.w;exact⟨w.h.upd ⟨h1,h2⟩,⟨u,by rw[ah (Kw h3)];exact e⟩,by rw[ah (Kw h4)];exact w.l,w.n1,w.n2,w.n3,w.n4,w.n5⟩
theorem Wk.new{p:Addr}(w:Wk k wk lp names m many acc M)(hp:M p=none):p≠k.p/\p≠k.q/\p≠wk/\p≠lp:=by
 obtain⟨u,e⟩:=w.w;obtain⟨h1,h2⟩:=w.h.nep hp;exact⟨h1,h2,λz=>(by rw[z,e]at hp;cases hp),λz=>(by rw[z,w.l]at hp;cases hp)⟩
def FZ(ad:Ad)(k:Pt)(wk lp:Addr)(names:List Str)(m many:Int)(n:Nat):Prop:=∀(rs:List Rw) (pl:List Int) (acc:List (List Int)) (M:Mem) (Q:DK) (E:DX),aO names m many rs->cK rs->bq rs+1<=n->acc.length+cRs rs<=1000->pl.length+2*bq rs+1<=900->Wk k wk lp names m many acc M->
 (∀rs' M',Tn names m many rs rs'->Wk k wk lp names m many (acc++bf pl 0 rs rs') M'->Fw k wk lp M M'->Q (.tup<|ag rs') M')->Py ad n [.ref k.p,.ref wk,.tup (ag rs),aw pl] M Q E
def t8(D2:DEnds)(k:Pt)(wk lp:Addr)(names:List Str)(m many:Int)(acc:List (List Int))(N:Mem)(r:Rw)(hr:List Int)(rsD plD:D)(p:Addr)(c5:Option D):Prop:=∀(r':Rw) (c8 c9 c10 c11:Option D) (N':Mem),Tn1 names m many r r'->Wk k wk lp names m many (acc++bH hr r r') N'->Fw k wk lp N N'->D2.nx [some (.ref k.p),some (.ref wk),some rsD,some plD,some (.ref p),c5,some r'.d,some (aw hr),c8,c9,c10,c11] N'
theorem jw{EE:DX}{rs:List Rw}{pl:List Int}{bx:BxQ EE λd M'=>frz d M' Q}(ih:FZ ad k wk lp names m many n)(ok:aO names m many rs)(np:cK rs)(hn:bq rs+1<=n)(ha:acc.length+cRs rs<=1000)(hl:pl.length+2*bq rs+1<=900)(w:Wk k wk lp names m many acc M)
  (h:∀rs' M',Tn names m many rs rs'->Wk k wk lp names m many (acc++bf pl 0 rs rs') M'->Fw k wk lp M M'->Q (.tup<|ag rs') M'):calls (Py ad n) EE [.ref k.p,.ref wk,.tup (ag rs),aw pl] M (λd M'=>frz d M' Q) bx:=
 au λQ' E' hq _=>ih rs pl acc M Q' E' ok np hn ha hl w λrs' M' t w' f=>hq _ _ (h rs' M' t w' f)
theorem Jg(ih:FZ ad k wk lp names m many n){x:Str}{a b:List Rw}{hr:List Int}{rsD plD:D}{p:Addr}{c5 c8 c9 c10 c11:Option D}{EE:DX}{D2:DEnds}(ok:cM names m many (.ifr x a b))(np:ll (.ifr x a b))(hn:hR (.ifr x a b)<=n)(ha:acc.length+cR (.ifr x a b)<=1000)(hl:hr.length+2*hR (.ifr x a b)<=900)(w:Wk k wk lp names m many acc N)
  (h:t8 D2 k wk lp names m many acc N (.ifr x a b) hr rsD plD p c5):kf ad (Py ad n) EE D2 [some (.ref k.p),some (.ref wk),some rsD,some plD,some (.ref p),c5,some (Rw.ifr x a b).d,some (aw hr),c8,c9,c10,c11] N:=by
 simp only[hR,cR]at hn ha hl;have i2:atI [D.str (JL "if"),.str x,.tup (ag a),.tup (ag b)] 2=some (.tup<|ag a):=by rw[atI_2];rfl
 have i3:atI [D.str (JL "if"),.str x,.tup (ag a),.tup (ag b)] 3=some (.tup<|ag b):=by rw[atI_3];rfl
 unfold kf;generalize hK2:nM ad (Py ad n) EE=K2;simp only[Rw.d,ak,ap,aj,ai,aa,ac,al,dC,av,ae,aD,aH,i3,JA,dt];refine⟨aM (by simp),cB (by lia) ⟨rfl,jw ih ok.2.2 np.2 (by lia) (by lia) (by simp;lia) w λb' N1 t1 w1 f1=>?_⟩⟩
 have q1:=cg b b' (hr++[0]) 0;simp only[af,JP];rw[<- hK2];unfold nM;generalize hK1:mO ad (Py ad n) EE=K1;simp only[ak,ap,aj,ai,aa,ac,al,dC,av,ae,aD,aH,i2,JA,dt];refine⟨aM (by simp),cB (by lia) ⟨rfl,jw ih ok.2.1 np.1 (by lia) (by simp;lia) (by simp;lia) w1 λa' N2 t2 w2 f2=>?_⟩⟩
 simp only[af,JP];rw[<- hK1];unfold mO;have e2:∀(a b:D) (l:List D),df (a::b::l) none (some 2)=[a,b]:=λa b l=>cN (k:=2);simp only[ap,aj,al,d_,ac,aB,ba,dC,sD,e2,frz,av,aa,ae,aF,af,JP,JA,dt];refine⟨aM (by simp),aM (by simp),h (.ifr x a' b') _ _ _ _ N2 ⟨⟨ok.1,t2.ok,t1.ok⟩,⟨t2.np,t1.np⟩,?_,?_,?_⟩ ?_<|f1.trans f2⟩
 .simp[iW,t1.k,t2.k]
 .simp only[hR,t1.h,t2.h]
 .simp only[cR,t1.c,t2.c]
 .rw[Ko]at w2
  exact w2
theorem Id(ih:FZ ad k wk lp names m many n){x:Str}{a:List Rw}{hr:List Int}{rsD plD:D}{p:Addr}{c5 c8 c9 c10 c11:Option D}{EE:DX}{D2:DEnds}(ok:cM names m many (.again x a))(np:ll (.again x a))(hn:hR (.again x a)<=n)(ha:acc.length+cR (.again x a)<=1000)(hl:hr.length+2*hR (.again x a)<=900)(w:Wk k wk lp names m many acc N)
  (h:t8 D2 k wk lp names m many acc N (.again x a) hr rsD plD p c5):jH ad (Py ad n) EE D2 [some (.ref k.p),some (.ref wk),some rsD,some plD,some (.ref p),c5,some (Rw.again x a).d,some (aw hr),c8,c9,c10,c11] N:=by
 simp only[hR,cR]at hn ha hl;have i2:atI [D.str (JL "again"),.str x,.tup (ag a)] 2=some (.tup<|ag a):=by rw[atI_2];rfl
 unfold jH;generalize hK1:ni ad (Py ad n) EE=K1;simp only[Rw.d,ak,ap,aj,ai,aa,ac,al,dC,av,ae,aD,aH,i2,JA,dt];refine⟨aM (by simp),cB (by lia) ⟨rfl,jw ih ok.2 np (by lia) (by lia) (by simp;lia) w λa' N1 t1 w1 f1=>?_⟩⟩
 simp only[af,JP];rw[<- hK1];unfold ni;have e2:∀(a b:D) (l:List D),df (a::b::l) none (some 2)=[a,b]:=λa b l=>cN (k:=2);simp only[ap,aj,al,d_,ac,aB,ba,dC,sD,e2,frz,av,aa,ae,aF,af,JP,JA,dt];refine⟨aM (by simp),aM (by simp),h (.again x a') _ _ _ _ N1 ⟨⟨ok.1,t1.ok⟩,t1.np,?_,?_,?_⟩ w1 f1⟩
 .simp[iW,t1.k]
 .simp only[hR,t1.h]
 .simp only[cR,t1.c]
theorem Tn1.self(ok:cM names m many r)(np:ll r):Tn1 names m many r r:=⟨ok,np,(ww r [] np).1,rfl,rfl⟩
theorem xa(h:gs names m many r):aV r=false:=by cases r<;>first|rfl|exact h.elim
theorem fO{r:Rw}(h:aV r=false):cR r=1/\hR r=0:=by cases r<;>first|exact⟨rfl,rfl⟩|cases h
theorem Ax(ht:ToldOk names m many){hr:List Int}{rsD plD:D}{p:Addr}{c5 c8 c9 c10 c11:Option D}{EE:DX}{D2:DEnds}{T:Sd}(hb:aV r=false)(ok:cM names m many r)(np:ll r)(ha:acc.length<=1000)(w:Wk k wk lp names m many acc N)
  (h:t8 D2 k wk lp names m many acc N r hr rsD plD p c5):gB ad T EE D2 [some (.ref k.p),some (.ref wk),some rsD,some plD,some (.ref p),c5,some r.d,some (aw hr),c8,c9,c10,c11] N:=by
 obtain⟨u,eu⟩:=w.w;have same:∀{N':Mem} {c11},Dr k N N'->D2.nx [some (.ref k.p),some (.ref wk),some rsD,some plD,some (.ref p),c5,some r.d,some (aw hr),c8,c9,c10,c11] N':=λd=>h r _ _ _ _ _ (Tn1.self ok np) (by rw[(ww r hr np).2,JR];exact w.dr d) d.fw
 have i2:∀u:Int,atI [cf names m many,.ref lp,.int u] 2=some (.int u):=λu=>by rw[atI_2];rfl
 have i1:∀u:Int,atI [cf names m many,.ref lp,.int u] 1=some (.ref lp):=λu=>by rw[atI_1];rfl
 have i0:∀u:Int,atI [cf names m many,.ref lp,.int u] 0=some (cf names m many):=λu=>by rw[atI_0];rfl
 unfold gB;generalize hK9:o6 ad T EE=K9;simp only[aE,h9,ao,al,ac,dC,aD,aH,eu,i2,zV,vw,aj,ai,aa,ae,JA,dt]
 by_cases c:¬0<u
 .simp only[c,decide_false,JQ,if_false]
  exact same w.h.refl
 have c:=OP.mp c;simp only[c,decide_true,if_true];refine⟨rfl,aI w.h (by decide) (by decide) λd N1 _ _ d1=>?_⟩
 simp only[frz,cH,dv,aG,bN];refine⟨trivial,trivial,?_⟩
 by_cases c2:¬d=0
 .rw[decide_eq_false c2]
  exact same d1
 rw[decide_eq_true (OP.mp c2)];show K9 _ _ N1;rw[<- hK9];unfold o6;generalize hK8:mw ad T EE=K8;have w1:=w.dr d1;have eu1:N1 wk=some (.lst [cf names m many,.ref lp,.int u]):=by rw[d1.2 _ w.n1 w.n2];exact eu
 simp only[ak,ap,al,aj,ai,aa,av,ac,dC,ae,aD,aH,eu1,i0,JA,dt];refine⟨rfl,au λQ2 E2 hq2 _=>o_ w1.h ht λq N2 rq d2=>hq2 _ _ ?_⟩;rw[DQ];refine⟨aM (by simp),rfl,au λQ3 E3 hq3 _=>rW 24 [q] N2 Q3 E3 names m many ⟨sE rq,trivial⟩ (by simp[bq,Ew rq]) (by simp[cRs,Ec rq]) (hq3 _ _ ?_)⟩
 have d12:=d1.trans d2;have w2:=w.dr d12;have eu2:N2 wk=some (.lst [cf names m many,.ref lp,.int u]):=by rw[d12.2 _ w.n1 w.n2];exact eu
 have fq:=lQ q (sE rq);have hbq:aV (pZ q)=false:=by
  have:=xa rq;cases q<;>first|rfl|cases this
 have ia:atI (ag<|cE [q]) 0=some (pZ q).d:=by rw[atI_0];rfl
 simp only[frz,ia,af,JP];generalize pZ q=o at fq hbq;rw[<- hK8];unfold mw;generalize hK7:mZ ad T EE=K7;simp only[aE,ao,al,ac,gK,IY,JA,dt];refine⟨mx hbq,mx hb,?_⟩;have en:(!aG o.d r.d)=xR r o:=by rw[BL hb hbq];rfl
 rw[en];cases cn:xR r o with
 |false=>exact same d12
 |true=>
  show K7 _ _ N2;rw[<- hK7];unfold mZ;generalize hK6:oq ad T EE=K6;have ix:uY 3 2=some 2:=rfl;simp only[ak,ap,al,ac,dC,aD,aH,eu2,i2,gP,vw,iF,CF,JC,JT,ix,JP,JA,dt];rw[<- hK6];unfold oq;have el:(N2.upd wk<|.lst [cf names m many,.ref lp,.int (u-1)]) lp=some (.lst<|acc.map aw):=by rw[ah (Kw w.n5)];exact w2.l
  simp only[ak,bD,eE,al,ac,dC,aD,aH,Mem.upd_same,i1,b_,el,aa,ae,bo,ap,af,JP,JA,dt];refine⟨trivial,gC (by simp;lia),h o _ _ _ _ _ ⟨fq.1,fq.2.1,?_,?_,?_⟩ ?_ ?_⟩
  .have p1:cD r=false:=by cases r<;>first|rfl|exact np.elim
   have p2:cD o=false:=by have:=fq.2.1;cases o<;>first|rfl|exact this.elim
   rw[za hb,p1,p2,hbq];rfl
  .rw[(fO hb).2,(fO hbq).2]
  .rw[(fO hb).1,(fO hbq).1]
  .rw[bT hb,cn,if_pos rfl]
   refine⟨(w2.h.upd ⟨w.n1,w.n2⟩).upd ⟨w.n3,w.n4⟩,⟨u-1,?_⟩,?_,w.n1,w.n2,w.n3,w.n4,w.n5⟩
   .rw[ah w.n5,Mem.upd_same]
   .rw[Mem.upd_same,LL];rfl
  .intro b ob h1 h2 h3 h4 e
   rw[ah h4,ah h3,d12.2 b h1 h2];exact e
end
section
variable {ad:Ad}{M N:Mem}{Q:DK}{E:DX}{names:List Str}{m many:Int}{n:Nat}{r:Rw}{k:Pt}{wk lp:Addr}{acc:List (List Int)}
theorem AV(ht:ToldOk names m many)(ih:FZ ad k wk lp names m many n){pl:List Int}{j:Nat}{rsD:D}{p:Addr}{us':List Rw}{c7 c8 c9 c10 c11:Option D}{EE:DX}{D2:DEnds}(ok:cM names m many r)(np:ll r)(hn:hR r<=n)(ha:acc.length+cR r<=1000)(hl:pl.length+1+2*hR r<=900)(w:Wk k wk lp names m many acc N)(hp:N p=some (.lst<|ag us'))(hu:us'.length<=1000)(g:p≠k.p/\p≠k.q/\p≠wk/\p≠lp)
  (h:∀(r':Rw) (c6 c7 c8 c9 c10 c11:Option D) (N':Mem),Tn1 names m many r r'->Wk k wk lp names m many (acc++bH (pl++[(j:Int)]) r r') N'->N' p=some (.lst<|ag (us'++[r']))->(∀b o,b≠k.p->b≠k.q->b≠wk->b≠lp->b≠p->N b=some o->N' b=some o)->D2.nx [some (.ref k.p),some (.ref wk),some rsD,some (aw pl),some (.ref p),some (.int (j:Nat)),c6,c7,c8,c9,c10,c11] N'):
  gH ad (Py ad n) EE D2 [some (.ref k.p),some (.ref wk),some rsD,some (aw pl),some (.ref p),some (.int (j:Nat)),some r.d,c7,c8,c9,c10,c11] N:=by
 unfold gH;generalize hK12:jr ad (Py ad n) EE=K12;simp only[ak,ap,al,ac,av,aa,ae,JA,dt];refine⟨aM (by simp),cB (by lia) ?_⟩
 simp only[af,JP];rw[<- hK12];unfold jr;have w1:=lN ok;have w2:=pd ok;generalize hA:bD (eE "list" bo (ac 4)<|aa (ac 6) ae)=A;have aft:t8 { D2 with nx:=A D2 } k wk lp names m many acc N r (pl++[(j:Int)]) rsD (aw pl) p (some<|.int (j:Nat)):=λr' c8 c9 c10 c11 N' t w' f=>by
  have hp':=f p _ g.1 g.2.1 g.2.2.1 g.2.2.2 hp;rw[<- hA];simp only[bD,eE,ac,b_,hp',aa,ae,bo,JA,dt];refine⟨trivial,gC (by rw[bc];lia),h r' _ _ _ _ _ _ _ t (w'.upd g.1 g.2.1 g.2.2.1 g.2.2.2) (by rw[Mem.upd_same,aS];rfl) λb o h1 h2 h3 h4 h5 e=>?_⟩
  rw[ah h5];exact f b o h1 h2 h3 h4 e
 generalize hK3:kf ad (Py ad n) EE=K3;generalize hK11:j8 ad (Py ad n) EE=K11;have hl2:(pl++[(j:Int)]).length+2*hR r<=900:=by simp;lia
 have t11:eY r=false->K11 { D2 with nx:=A D2 } [some (.ref k.p),some (.ref wk),some rsD,some (aw pl),some (.ref p),some (.int (j:Nat)),some r.d,some (aw (pl++[(j:Int)])),c8,c9,c10,c11] N:=λe=>by
  rw[<- hK11];unfold j8;generalize hK5:jH ad (Py ad n) EE=K5;generalize hK10:gB ad (Py ad n) EE=K10;have t5:lq r=true->K5 { D2 with nx:=A D2 } [some (.ref k.p),some (.ref wk),some rsD,some (aw pl),some (.ref p),some (.int (j:Nat)),some r.d,some (aw (pl++[(j:Int)])),c8,c9,c10,c11] N:=λea=>by
   rw[<- hK5];cases r with
   |again x a=>exact Id ih ok np hn ha hl2 w aft
   |_=>cases ea
  have t10:lq r=false->K10 { D2 with nx:=A D2 } [some (.ref k.p),some (.ref wk),some rsD,some (aw pl),some (.ref p),some (.int (j:Nat)),some r.d,some (aw (pl++[(j:Int)])),c8,c9,c10,c11] N:=λea=>by
   rw[<- hK10];exact Ax ht (by cases r<;>first|rfl|(cases e;done)|(cases ea;done)) ok np (by lia) w aft
  rw[fA]at t5 t10 ⊢;simp only[aE,ao,al,ac,dC,aD,aH,atI_0,cH,dv,aG,bN,JA,dt];rw[w2];refine⟨trivial,trivial,?_⟩;cases c:lq r with
  |true=>exact t5 c
  |false=>exact t10 c
 have t3:eY r=true->K3 { D2 with nx:=A D2 } [some (.ref k.p),some (.ref wk),some rsD,some (aw pl),some (.ref p),some (.int (j:Nat)),some r.d,some (aw (pl++[(j:Int)])),c8,c9,c10,c11] N:=λea=>by
  rw[<- hK3];cases r with
  |ifr x a b=>exact Jg ih ok np hn ha hl2 w aft
  |_=>cases ea
 rw[fA]at t3 t11 ⊢;simp only[ak,aE,ao,al,ac,dC,aD,aH,atI_0,cH,dv,aG,bN,JA,dt];rw[w1];refine⟨trivial,trivial,?_⟩;cases c:eY r with
 |true=>exact t3 c
 |false=>exact t11 c
theorem Tn.snoc{a a':List Rw}{r':Rw}(t:Tn names m many a a')(t1:Tn1 names m many r r'):Tn names m many (a++[r]) (a'++[r']):=by
 refine⟨OkRs_append.mpr ⟨t.ok,t1.ok,trivial⟩,noPks_app.mpr ⟨t.np,t1.np,trivial⟩,?_,?_,?_⟩
 .rw[gj (dE t.k),t.k]
  simp[bv,t1.k]
 .simp only[bd,bq,t.h,t1.h]
 .simp only[aU,cRs,t.c,t1.c]
theorem BJ(ht:ToldOk names m many)(ih:FZ ad k wk lp names m many n):FZ ad k wk lp names m many (n+1):=by
 intro rs pl acc M Q E ok np hn ha hl w h;rw[u_q2 (n:=n)];unfold Dc mQ;generalize hK:gH ad (Py ad n) (aJ E)=K;simp only[ak,ap];refine⟨aM (by simp),λp hp=>?_⟩
 have g:=w.new hp;simp only[af,JP,bW,eJ,aa,ac,ae,aH,bF,cG,JA,dt]
 refine bt (λxs Y N=>∃(us us' zs:List Rw) (c5 c6 c7 c8 c9 c10 c11:Option D),rs=us++zs/\xs=bJ us.length (ag zs)/\Y=[some (.ref k.p),some (.ref wk),some (.tup<|ag rs),some (aw pl),some (.ref p),c5,c6,c7,c8,c9,c10,c11]/\Tn names m many us us'/\Wk k wk lp names m many (acc++bf pl 0 us us') N/\N p=some (.lst<|ag us')/\(∀b o,b≠k.p->b≠k.q->b≠wk->b≠lp->b≠p->M b=some o->N b=some o)) (λ_ _ _ _=>aA) ?_ ?_ _ _ _
  ⟨[],[],rs,_,_,_,_,_,_,_,rfl,cG _,rfl,⟨trivial,trivial,rfl,rfl,rfl⟩,by simpa [bf] using w.upd g.1 g.2.1 g.2.2.1 g.2.2.2,Mem.upd_same,λb o _ _ _ _ h5 e=>by rw[ah h5];exact e⟩
 .rintro Y N ⟨us,us',zs,c5,c6,c7,c8,c9,c10,c11,e1,e2,rfl,t,w',hp',f⟩
  have ez:zs=[]:=by cases zs with|nil=>rfl|cons _ _=>simp[ag,bJ]at e2
  subst ez;rw[JR]at e1;subst e1;simp only[ax,br,aa,ac,ae,bV,cz,hp',JA,dt];exact aq (h us' N t w' λb o h1 h2 h3 h4 e=>f b o h1 h2 h3 h4 (λz=>by rw[z,hp]at e;cases e) e)
 .rintro x xs Y N ⟨us,us',zs,c5,c6,c7,c8,c9,c10,c11,e1,e2,rfl,t,w',hp',f⟩ D' hnx _ _ _
  cases zs with
  |nil=>simp[ag,bJ]at e2
  |cons z zs=>
   simp only[ag,bJ,Kc]at e2;obtain⟨rfl,rfl⟩:=e2;have l1:=ff (rs:=rs);have ql:=cg us us' pl 0;have qe:=dE t.k;subst e1;rw[OkRs_append]at ok;rw[noPks_app]at np;simp only[bd,bq]at hn hl;simp only[aU,cRs]at ha;simp only[aU,cRs,JD,JC]at l1;simp only[bX,aK,bY,af,JP,JC,JT];refine⟨trivial,?_⟩;rw[<- hK];refine AV ht ih ok.2.1 np.2.1 (by lia) (by simp;lia) (by lia) w' hp' (by lia) g λr' c6 c7 c8 c9 c10 c11 N' t1 w2 hp2 f2=>?_
   refine hnx _ _ ⟨us++[z],us'++[r'],zs,_,_,_,_,_,_,_,by simp,by simp,rfl,t.snoc t1,?_,hp2,λb o h1 h2 h3 h4 h5 e=>f2 b o h1 h2 h3 h4 h5 (f b o h1 h2 h3 h4 h5 e)⟩
   rw[lK qe];simp only[bf,JR,Mn];rw[<- Ko];exact w2
theorem yI(ht:ToldOk names m many):∀n:Nat,FZ ad k wk lp names m many n
 |0=>λ_ _ _ _ _ _ _ _ h=>by lia
 |n+1=>BJ ht (yI ht n)
end
structure PlH(m many:Int)(names:List Str)(rows:List Rw)(mk:Str):Prop where
 t:ToldOk names m many
 nd:names.Nodup
 ok:aO names m many rows
 np:cK rows
 h:bq rows<=4
 c:cRs rows<=60
 mkm:mk∈names
 one:∀x∈names,xI x
section
variable {ad:Ad}{M N:Mem}{Q:DK}{E:DX}{k:Pt}
theorem so(hp:Has k M)(h:∀(m many:Int) (names:List Str) (rs rs':List Rw) (mk:Str) (M':Mem) (p:Addr),PlH m many names rs mk->Tn names m many rs rs'->Kq k M M'->M' p=none->Q (.tup [bj m many names rs mk,bj m many names rs' mk,.ref p]) (M'.upd p<|.lst<|y0 rs rs')):
  vt ad [.ref k.p,.int 50,.int 12] M Q E:=by
 rw[IE (n:=0)];unfold vh;generalize hK4:iP ad (aJ E)=K4;simp only[ak,ap,aj,ai,aa,ac,ae,JA,dt];refine⟨rfl,au λQ' E' hq _=>wC (by decide) (by decide) hp λm many names rows mk M1 pg k1=>hq _ _ ?_⟩
 have fr:∀{r:List Rw} {K:DK} {M:Mem},frz (bj m many names r mk) M K=K (bj m many names r mk) M:=rfl;rw[fr];have nf:=cY rows pg.ok;have g:PlH m many names (cE rows) mk:=⟨pg.t,pg.nd,nf.1,nf.2.1,by rw[nf.2.2.1];exact pg.h,by rw[nf.2.2.2];exact pg.cn,pg.mkm,pg.one⟩
 have a3:∀r:List Rw,atI [D.int m,.tup (names.map D.str),.int many,.tup (ag r),.str mk] 3=some (.tup<|ag r):=λr=>by rw[atI_3];rfl
 have a4:∀r:List Rw,atI [D.int m,.tup (names.map D.str),.int many,.tup (ag r),.str mk] 4=some (.str mk):=λr=>by rw[atI_4];rfl
 have e3:∀(a b c:D) (l:List D),df (a::b::c::l) none (some 3)=[a,b,c]:=λa b c l=>cN (k:=3);rw[<- hK4];unfold iP;generalize hK3:jh ad (aJ E)=K3;simp only[af,JP,bj,ak,ap,al,aj,d_,ac,aB,ba,dC,sD,e3,frz,av,aa,ai,ae,aD,aH,a3,a4,JA,dt];have hcn:=pg.cn;have hh:=pg.h;refine⟨rfl,au λQ2 E2 hq2 _=>rW 24 rows M1 Q2 E2 names m many pg.ok (by lia) (by lia) (hq2 _ _ ?_)⟩
 simp only[a4,e3,aF];refine⟨aM (by simp),aM (by simp),?_⟩
 rw[<- hK3];unfold jh;generalize hK2:jt ad (aJ E)=K2;simp only[Ky,LK,ak,ap,aX,aa,d_,ac,aB,ba,dC,sD,e3,ae,af,JP,JA,dt];refine⟨aM (by simp),λlp hlp=>⟨aM (by simp),λwk hwk=>?_⟩⟩
 have nlp:=k1.1.nep hlp;have h2:=k1.1.upd (o:=.lst []) nlp;have nwk:=h2.nep hwk;have ne:wk≠lp:=λz=>by rw[z,Mem.upd_same]at hwk;cases hwk
 have hwk1:M1 wk=none:=by rw[ah ne]at hwk;exact hwk
 have w0:Wk k wk lp names m many [] ((M1.upd lp<|.lst []).upd wk<|.lst [cf names m many,.ref lp,.int 12]):=⟨h2.upd nwk,⟨12,Mem.upd_same⟩,by rw[ah (Kw ne),Mem.upd_same];rfl,nwk.1,nwk.2,nlp.1,nlp.2,ne⟩
 rw[<- hK2];unfold jt;generalize hK1:jk ad (aJ E)=K1;simp only[ak,ap,aj,ai,aa,ac,al,dC,av,ae,aD,aH,a3,af,JP,JA,dt];have gh:=g.h;have gc:=g.c;refine⟨aM (by simp),rfl,jw (pl:=[]) (yI pg.t 24) g.ok g.np (by lia) (by simp;lia) (by simp;lia) w0 λrs' M3 t w3 f=>?_⟩
 rw[LK]at w3;obtain⟨u,eu⟩:=w3.w;have i1:atI [cf names m many,.ref lp,.int u] 1=some (.ref lp):=by rw[atI_1];rfl
 rw[<- hK1];unfold jk;simp only[ax,av,aa,ac,al,aj,d_,aB,ba,dC,sD,e3,frz,ae,aD,aH,a4,aF,Ky,LK,br,eu,i1,dD,cz,w3.l,hW,JA,dt];have ql:=cg (cE rows) rs' [] 0;refine⟨aM (by simp),aM (by simp),by lia,λx hx=>dm _ _ _ _ x hx,λp hp3=>⟨aM (by simp),aq<|h m many names (cE rows) rs' mk M3 p g t ⟨w3.h,λb o h1 h2 e=>?_⟩ hp3⟩⟩
 have eb:=k1.2 b o h1 h2 e;have b1:b≠wk:=λz=>by rw[z,hwk1]at eb;cases eb
 have b2:b≠lp:=λz=>by rw[z,hlp]at eb;cases eb
 exact f b o h1 h2 b1 b2 (by rw[ah b1,ah b2];exact eb)
end
section
variable {ad:Ad}{M N:Mem}{Q:DK}{E:DX}
end
section
variable {ad:Ad}{M N:Mem}{Y:Dl}{D0:DEnds}{a b te:bg}
abbrev Ev(te:bg)(Y:Dl)(M:Mem)(d:D):Prop:=∀K:DK,K d M->te Y M K
abbrev EvA(ta:dZ)(Y:Dl)(M:Mem)(ds:List D):Prop:=∀K:List D->Mem->Prop,K ds M->ta Y M K
theorem mY{i:Nat}{d:D}(h:Y[i]?=some (some d)):Ev (ac i) Y M d:=λK q=>by simp only[ac,h];exact q
theorem Fy{d:D}:Ev (dC d) Y M d:=λ_ q=>q
theorem n8:EvA ae Y M []:=λ_ q=>q
theorem dL{t:dZ}{d:D}{ds:List D}(h1:Ev a Y M d)(h2:EvA t Y M ds):EvA (aa a t) Y M (d::ds):=λ_ q=>h1 _ (h2 _ q)
theorem rC{s u:ar}(h:s { D0 with nx:=u D0 } Y M):ak s u D0 Y M:=h
end
section
variable {ad:Ad}{M N:Mem}{Q:DK}{E:DX}{k:Pt}{m many:Int}{names:List Str}{rs:List Rw}{mk:Str}{Y:Dl}
end
theorem i18:bE "NoneType" "str"=false:=by decide +kernel
theorem fm:∀bs:List Bool,eA (bs.map D.bl)=some bs
 |[]=>rfl
 |b::bs=>by rw[JO,eA,fm bs]
theorem jN:∀names:List Str,gX (names.map D.str)=some names
 |[]=>rfl
 |x::names=>by rw[JO,gX,jN names]
theorem i17:bE "int" "str"=false:=by decide +kernel
theorem h_{n:Nat}:∀ss:List Str,fits n (ss.map D.str)=true
 |[]=>rfl
 |x::ss=>by rw[JO,fits,h_ ss,bN];rfl
theorem jU(x:Str):∀ss:List Str,((ss.map D.str).any λd=>aG d (.str x))=decide (x∈ss)
 |[]=>by simp
 |y::ss=>by
  rw[JO,Ls,jU x ss,aG]
  by_cases e:y=x
  .subst e;simp
  .simp[e,Kw e]
def Let(x:Str):Prop:=x.length<=100/\∀c∈x.cps.toList,97<=c/\c<=122
def z_(x:Str):Bool:=decide (1<=x.length)&&decide (x.length<=8)
section
variable {ad:Ad}{M:Mem}{Q:DK}{E:DX}
theorem dM{i lo hi:Int}(h:Q (.bl (decide (lo<=i)&&decide (i<=hi))) M):jZ ad [.int i,.int lo,.int hi] M Q E:=by
 simp![IQ,vb,i12,i13,t1,t2]
 by_cases c:lo<=i
 .rw[decide_eq_true c]at h ⊢
  exact aq h
 .rw[decide_eq_false c]at h ⊢
  exact aq h
theorem Let.ascii{x:Str}(h:Let x):x.cps.all (· < 128)=true:=by
 rw[<- Array.all_toList,MR];intro c hc;have:=h.2 c hc;simp;lia
theorem Db{c:Nat}(h:97<=c):(!decide (([c]:List Nat)<(JL "a").cps.toList))=true:=by
 have e:(JL "a").cps.toList=[97]:=by decide +kernel
 rw[e,NJ,decide_eq_false_iff_not];intro z;have:=(OZ).mp z;rcases this with y|⟨_,y⟩
 .lia
 .exact absurd y (by simp)
theorem CQ{c:Nat}(h:c<=122):(!decide ((JL "z").cps.toList<([c]:List Nat)))=true:=by
 have e:(JL "z").cps.toList=[122]:=by decide +kernel
 rw[e,NJ,decide_eq_false_iff_not];intro z;have:=(OZ).mp z;rcases this with y|⟨_,y⟩
 .lia
 .exact absurd y (by simp)
theorem pG{x:Str}(hx:Let x)(h:Q (.bl<|z_ x) M):sK ad [.str x] M Q E:=by
 simp![IT,sU,qM,t3,↓aN];refine⟨aM (Ki hx.1<|by decide),?_⟩
 unfold z_ at h
 by_cases c:1<=x.length
 .rw[decide_eq_true c,Kn]at h
  rw[decide_eq_true (by lia)]
  by_cases c2:x.length<=8
  .rw[decide_eq_true c2]at h
   simp only[decide_eq_true (show ((x.length:Nat):Int)<=8 by lia),Kz,JQ,if_false]
   refine⟨hx.ascii,?_⟩;have hxl:x.cps.toList.length<=100:=by have:=hx.1;rw[Kk];exact this
   refine bh (λys acc Y M'=>∃(zs:List Nat) (j:Nat) (c0:Option D),ys=zs.map (λc=>D.str ⟨#[c]⟩)/\(∀z∈zs,97<=z/\z<=122)/\zs.length+j<=100/\acc=JN j (.bl true)/\Y=[c0]/\M'=M) (λ_ _ _ _ _=>aA) ?_ ?_ ?_ _ _ _ _ ⟨x.cps.toList,0,none,rfl,hx.2,by lia,rfl,rfl,rfl⟩
   .rintro acc Y M' ⟨zs,j,c0,e1,e2,e3,rfl,rfl,rfl⟩ p hpn
    simp![Mem.upd_del,am hpn,dN,kF];exact aq h
   .rintro y ys acc Y M' ⟨zs,j,c0,e1,e2,e3,rfl,rfl,rfl⟩ N hN _
    cases zs with
    |nil=>simp at e1
    |cons z zs=>
     simp only[JO,Kc]at e1;obtain⟨rfl,rfl⟩:=e1;simp only[JC]at e3;have hz:=e2 z (KP ..);simp![Db hz.1,CQ hz.2];exact hN _ _ _ (by simp;exact gC (by lia)) ⟨zs,j+1,_,rfl,λw hw=>e2 w (JZ _ hw),by lia,by rw[Np],rfl,rfl⟩
   .rintro y ys acc Y M' ⟨zs,j,c0,e1,e2,e3,rfl,rfl,rfl⟩
    simp;exact gC (by lia)
  .rw[decide_eq_false c2]at h
   simp only[decide_eq_false (show ¬((x.length:Nat):Int)<=8 by lia),MB,if_true]
   exact aq h
 .rw[decide_eq_false c,Ku]at h
  rw[decide_eq_false (by lia)]
  exact aq h
def xr(names:List Str):Bool:=(decide (1<=names.length)&&decide (names.length<=12))&&(names.all z_&&decide ((hV [] names).length=names.length))
theorem ly{names:List Str}(hx:∀x∈names,Let x)(hn:names.length<=60)(h:Q (.bl<|xr names) M):wr ad [.tup (names.map D.str)] M Q E:=by
 simp![Jp,uL,i4,t4,↓aN,JK];unfold xr at h
 by_cases c:1<=names.length
 .rw[decide_eq_true c,Kn]at h
  rw[decide_eq_true (by lia)]
  by_cases c2:names.length<=12
  .rw[decide_eq_true c2,Kn]at h
   simp only[decide_eq_true (show ((names.length:Nat):Int)<=12 by lia),Kz,JQ,if_false]
   refine bh (λys acc Y M'=>∃(dn rs:List Str) (c0:Option D),names=dn++rs/\ys=rs.map D.str/\acc=(dn.map z_).map D.bl/\Y=[c0]/\M'=M) (λ_ _ _ _ _=>aA) ?_ ?_ ?_ _ _ _ _ ⟨[],names,none,rfl,rfl,rfl,rfl,rfl⟩
   .rintro acc Y M' ⟨dn,rs,c0,e1,e2,rfl,rfl,rfl⟩ p hpn
    have:rs=[]:=by cases rs with
     |nil=>rfl
     |cons r rs=>simp at e2
    subst this;rw[JR]at e1;subst e1;have ea:(names.map z_).all id=names.all z_:=by rw[MY];rfl
    simp![Mem.upd_del,am hpn,fm,ea];cases hc:names.all z_ with
    |true=>
     rw[hc,Kn]at h;simp![jN,JK];refine⟨by lia,?_⟩
     have e3:decide (((hV [] names).length:Int)=(names.length:Int))=decide ((hV [] names).length=names.length):=by
      by_cases z:(hV [] names).length=names.length
      .rw[decide_eq_true z,decide_eq_true (by lia)]
      .rw[decide_eq_false z,decide_eq_false (by lia)]
     rw[e3];exact aq h
    |false=>
     rw[hc,Ku]at h;exact aq h
   .rintro y ys acc Y M' ⟨dn,rs,c0,e1,e2,rfl,rfl,rfl⟩ N hN _
    cases rs with
    |nil=>simp at e2
    |cons r rs=>
     simp only[JO,Kc]at e2;obtain⟨rfl,rfl⟩:=e2;have hd:dn.length<=60:=by have:=congrArg Km e1;simp at this;lia
     simp![];refine b6 (d:=.bl (z_ r)) (λQ' E' q=>pG (hx r<|by rw[e1];simp) q) ?_
     simp![];exact hN _ _ _ (by simp;exact gC (by lia)) ⟨dn++[r],rs,_,by rw[e1];simp,rfl,by simp,rfl,rfl⟩
   .rintro y ys acc Y M' ⟨dn,rs,c0,e1,e2,rfl,rfl,rfl⟩
    have hd:dn.length<=60:=by have:=congrArg Km e1;simp at this;lia
    simp;exact gC (by lia)
  .rw[decide_eq_false c2,Ku]at h
   simp only[decide_eq_false (show ¬((names.length:Nat):Int)<=12 by lia),MB,if_true]
   exact aq h
 .rw[decide_eq_false c,Ku,Ku]at h
  rw[decide_eq_false (by lia)]
  exact aq h
def jv(names:List Str):D->Bool
 |.str x=>decide (x∈names)
 |_=>false
def Mk0:D->Prop
 |.str _=>True
 |.int _=>True
 |.non=>True
 |.tup _=>True
 |_=>False
theorem vz{names:List Str}{d0 d2 d3 d4:D}{d:D}(hd:Mk0 d)(h:Q (.bl<|jv names d) M):p_ ad [.tup [d0,.tup (names.map D.str),d2,d3,d4],d] M Q E:=by
 cases d with
 |str x=>
  simp![vo,kG,qM,t3,atI_1,h_,jU];exact aq h
 |int x=>
  simp![vo,kG,i17,t3];exact aq h
 |non=>
  simp![vo,kG,i18,t3];exact aq h
 |tup x=>
  simp![vo,kG,i3,t3];exact aq h
 |_=>exact hd.elim
end
def wOk:Rw->Prop
 |.two w _ _ _=>w="sum"\/w="by"\/w="less"\/w="same"
 |_=>True
section
variable {ad:Ad}{M:Mem}{Q:DK}{E:DX}{names:List Str}{m many:Int}{d3 d4:D}
def fH(m many:Int)(names:List Str)(d3 d4:D):D:=.tup [.int m,.tup (names.map D.str),.int many,d3,d4]
def iq(names:List Str)(m many:Int)(d:Nat):Rw->Bool
 |.put x k=>decide (x∈names)&&(decide (0<=k)&&decide (k<=m-1))
 |.take x k=>decide (x∈names)&&(decide (0<=k)&&decide (k<=many-1))
 |.pick x y=>decide (many≠0)&&(decide (x∈names)&&decide (y∈names))
 |.two _ x y z=>decide (x∈names)&&(decide (y∈names)&&decide (z∈names))
 |.ifr x _ _=>decide (d≠4)&&decide (x∈names)
 |.again x _=>decide (d≠4)&&decide (x∈names)
theorem bp{d:D}(hd:Mk0 d)(h:Q (.bl<|jv names d) M):fI ad [fH m many names d3 d4,.str "name",d] M Q E:=by
 simp![uC,kP,fH];refine au λQ' E' hq _=>vz hd (hq _ _ ?_);exact aq h
theorem n1:((JL "number":Str)=JL "name")=False:=eq_false (by decide +kernel)
theorem n2:((JL "piece":Str)=JL "name")=False:=eq_false (by decide +kernel)
theorem n3:((JL "piece":Str)=JL "number")=False:=eq_false (by decide +kernel)
theorem n4:((JL "rows":Str)=JL "name")=False:=eq_false (by decide +kernel)
theorem n5:((JL "rows":Str)=JL "number")=False:=eq_false (by decide +kernel)
theorem n6:((JL "rows":Str)=JL "piece")=False:=eq_false (by decide +kernel)
theorem xp{i:Int}(h:Q (.bl (decide (0<=i)&&decide (i<=m-1))) M):fI ad [fH m many names d3 d4,.str "number",.int i] M Q E:=by
 simp![uC,kP,fH,n1,atI_0];refine au λQ' E' hq _=>dM (hq _ _ ?_);exact aq h
theorem zn{i:Int}(h:Q (.bl (decide (0<=i)&&decide (i<=many-1))) M):fI ad [fH m many names d3 d4,.str "piece",.int i] M Q E:=by
 simp![uC,kP,fH,n2,n3,atI_2];refine au λQ' E' hq _=>dM (hq _ _ ?_);exact aq h
theorem nh{d:D}(h:Q (.bl true) M):fI ad [fH m many names d3 d4,.str "rows",d] M Q E:=by
 simp![uC,kP,fH,n4,n5,n6];exact aq h
end
theorem Hh:bC aL "put"=some (.mt [.str "name",.str "number"]):=by simp![aL,bC]
theorem Bv:bC aL "take"=some (.mt [.str "name",.str "piece"]):=by simp![aL,bC]
theorem vG:bC aL "pick"=some (.mt [.str "name",.str "name"]):=by simp![aL,bC]
theorem Gb:bC aL "sum"=some (.mt [.str "name",.str "name",.str "name"]):=by simp![aL,bC]
theorem HK:bC aL "by"=some (.mt [.str "name",.str "name",.str "name"]):=by simp![aL,bC]
theorem CG:bC aL "less"=some (.mt [.str "name",.str "name",.str "name"]):=by simp![aL,bC]
theorem CK:bC aL "same"=some (.mt [.str "name",.str "name",.str "name"]):=by simp![aL,bC]
theorem D_:bC aL "if"=some (.mt [.str "name",.str "rows",.str "rows"]):=by simp![aL,bC]
theorem pS:bC aL "again"=some (.mt [.str "name",.str "rows"]):=by simp![aL,bC]
section
variable {ad:Ad}{M:Mem}{Q:DK}{E:DX}{names:List Str}{m many:Int}{d3 d4:D}
theorem bI{ks:List (Str×D×Bool)}(hp:∀p∈ks,∀(M:Mem) (Q:DK) (E:DX),Q (.bl p.2.2) M->fI ad [fH m many names d3 d4,.str p.1,p.2.1] M Q E)(hl:ks.length<=10){okM:Mem->Prop}(ho:okM M){Q:List D->Mem->Prop}{b:BxC (bX 2<|aK (af 0)<|aK (af 1) bY) cF (aj<|ai (fI ad) qw 3<|aa (ac 2)<|aa (ac 0)<|aa (ac 1) ae) okM Q}{c0 c1:Option D}
  (h:Q ((ks.map (·.2.2)).map D.bl) M):da (bX 2<|aK (af 0)<|aK (af 1) bY) cF (aj<|ai (fI ad) qw 3<|aa (ac 2)<|aa (ac 0)<|aa (ac 1) ae) okM Q b (ks.map λp=>D.tup [.str p.1,p.2.1]) [] [c0,c1,some (fH m many names d3 d4)] M:=by
 refine bh (λxs acc Y N=>∃(dn rs:List (Str×D×Bool)) (c0 c1:Option D),ks=dn++rs/\xs=(rs.map λp=>D.tup [.str p.1,p.2.1])/\acc=(dn.map (·.2.2)).map D.bl/\Y=[c0,c1,some (fH m many names d3 d4)]/\N=M) (λ_ _ _ _ z=>by obtain⟨_,_,_,_,_,_,_,_,e⟩:=z;subst e;exact ho) ?_ ?_ ?_ _ _ _ _ ⟨[],ks,c0,c1,rfl,rfl,rfl,rfl,rfl⟩
 .rintro acc Y N ⟨dn,rs,c0,c1,e1,e2,rfl,rfl,rfl⟩
  have:rs=[]:=by cases rs with
   |nil=>rfl
   |cons r rs=>simp at e2
  subst this;rw[JR]at e1;rw[<- e1];exact h
 .rintro x xs acc Y N ⟨dn,rs,c0,c1,e1,e2,rfl,rfl,rfl⟩ N' hN hN0
  cases rs with
  |nil=>simp at e2
  |cons r rs=>
   simp only[JO,Kc]at e2;obtain⟨rfl,rfl⟩:=e2;have hd:dn.length<=10:=by have:=congrArg Km e1;simp at this;lia
   simp![];refine b6 (d:=.bl r.2.2) (λQ' E' q=>hp r (by rw[e1];simp) _ _ _ q) ?_
   simp![];exact hN _ _ _ (by simp;exact gC (by lia)) ⟨dn++[r],rs,_,_,by rw[e1];simp,rfl,by simp,rfl,rfl⟩
 .rintro x xs acc Y N ⟨dn,rs,c0,c1,e1,e2,rfl,rfl,rfl⟩
  have hd:dn.length<=10:=by have:=congrArg Km e1;simp at this;lia
  simp;exact gC (by lia)
theorem eh{x:D}{xs:List D}:df (x::xs) (some 1) none=xs:=oj (k:=1)
theorem z2{a b c d:D}:nJ [a,b] [c,d]=[.tup [a,c],.tup [b,d]]:=rfl
theorem z3{a b c d e f:D}:nJ [a,b,c] [d,e,f]=[.tup [a,d],.tup [b,e],.tup [c,f]]:=rfl
theorem nr2:([D.str "name",D.str "number"].any λd=>aG d (D.str "rows"))=false:=by decide +kernel
theorem nr3:([D.str "name",D.str "piece"].any λd=>aG d (D.str "rows"))=false:=by decide +kernel
theorem nr4:([D.str "name",D.str "name"].any λd=>aG d (D.str "rows"))=false:=by decide +kernel
theorem nr5:([D.str "name",D.str "name",D.str "name"].any λd=>aG d (D.str "rows"))=false:=by decide +kernel
theorem nr6:([D.str "name",D.str "rows",D.str "rows"].any λd=>aG d (D.str "rows"))=true:=by decide +kernel
theorem nr7:([D.str "name",D.str "rows"].any λd=>aG d (D.str "rows"))=true:=by decide +kernel
theorem r8{d:Nat}{r:Rw}(o:wOk r)(h:Q (.bl<|iq names m many d r) M):mi ad [fH m many names d3 d4,r.d,.int (d:Nat)] M Q E:=by
 cases r with
 |put x k=>
  simp![eB,cW,Rw.d,i4,t4,qM,t3,atI_0,atI_2,Hh,↓aN,nr2,eh,z2,fH];rw[if_neg (by decide),if_neg (by decide)]
  refine bI (ks:=[("name",.str x,jv names (.str x)),("number",.int k,decide (0<=k)&&decide (k<=m-1))]) (λp hp=>?_) (by simp) aA λp hp=>?_
  .simp only[JM,Kb,or_false]at hp
   rcases hp with rfl|rfl
   .exact λM Q E q=>bp trivial q
   .exact λM Q E q=>xp q
  .simp![Mem.upd_del,am hp,KJ,Lc,Kt,id]
   exact aq h
 |take x k=>
  simp![eB,cW,Rw.d,i4,t4,qM,t3,atI_0,atI_2,Bv,↓aN,nr3,eh,z2,fH];rw[if_neg (by decide),if_neg (by decide)]
  refine bI (ks:=[("name",.str x,jv names (.str x)),("piece",.int k,decide (0<=k)&&decide (k<=many-1))]) (λp hp=>?_) (by simp) aA λp hp=>?_
  .simp only[JM,Kb,or_false]at hp
   rcases hp with rfl|rfl
   .exact λM Q E q=>bp trivial q
   .exact λM Q E q=>zn q
  .simp![Mem.upd_del,am hp,KJ,Lc,Kt,id]
   exact aq h
 |pick x y=>
  simp only[iq]at h
  by_cases hm:many=0
  .rw[decide_eq_false (by simpa using hm),Ku]at h
   simp![eB,cW,Rw.d,i4,t4,qM,t3,atI_0,atI_2,vG,↓aN,nr4,eh,z2,fH];rw[if_neg (by decide),if_neg (by decide),if_pos hm]
   exact aq h
  .rw[decide_eq_true (by simpa using hm),Kn]at h
   simp![eB,cW,Rw.d,i4,t4,qM,t3,atI_0,atI_2,vG,↓aN,nr4,eh,z2,fH];rw[if_neg (by decide),if_neg (by decide),if_neg hm]
   refine bI (ks:=[("name",.str x,jv names (.str x)),("name",.str y,jv names (.str y))]) (λp hp=>?_) (by simp) aA λp hp=>?_
   .simp only[JM,Kb,or_false]at hp
    rcases hp with rfl|rfl
    .exact λM Q E q=>bp trivial q
    .exact λM Q E q=>bp trivial q
   .simp![Mem.upd_del,am hp,KJ,Lc,Kt,id]
    exact aq h
 |two w x y z=>
  rcases o with rfl|rfl|rfl|rfl
  .simp![eB,cW,Rw.d,i4,t4,qM,t3,atI_0,atI_2,Gb,↓aN,nr5,eh,z3,fH]
   rw[if_neg (by decide),if_neg (by decide)]
   refine bI (ks:=[("name",.str x,jv names (.str x)),("name",.str y,jv names (.str y)),("name",.str z,jv names (.str z))]) (λp hp=>?_) (by simp) aA λp hp=>?_
   .simp only[JM,Kb,or_false]at hp
    rcases hp with rfl|rfl|rfl
    .exact λM Q E q=>bp trivial q
    .exact λM Q E q=>bp trivial q
    .exact λM Q E q=>bp trivial q
   .simp![Mem.upd_del,am hp,KJ,Lc,Kt,id]
    exact aq h
  .simp![eB,cW,Rw.d,i4,t4,qM,t3,atI_0,atI_2,HK,↓aN,nr5,eh,z3,fH]
   rw[if_neg (by decide),if_neg (by decide)]
   refine bI (ks:=[("name",.str x,jv names (.str x)),("name",.str y,jv names (.str y)),("name",.str z,jv names (.str z))]) (λp hp=>?_) (by simp) aA λp hp=>?_
   .simp only[JM,Kb,or_false]at hp
    rcases hp with rfl|rfl|rfl
    .exact λM Q E q=>bp trivial q
    .exact λM Q E q=>bp trivial q
    .exact λM Q E q=>bp trivial q
   .simp![Mem.upd_del,am hp,KJ,Lc,Kt,id]
    exact aq h
  .simp![eB,cW,Rw.d,i4,t4,qM,t3,atI_0,atI_2,CG,↓aN,nr5,eh,z3,fH]
   rw[if_neg (by decide),if_neg (by decide)]
   refine bI (ks:=[("name",.str x,jv names (.str x)),("name",.str y,jv names (.str y)),("name",.str z,jv names (.str z))]) (λp hp=>?_) (by simp) aA λp hp=>?_
   .simp only[JM,Kb,or_false]at hp
    rcases hp with rfl|rfl|rfl
    .exact λM Q E q=>bp trivial q
    .exact λM Q E q=>bp trivial q
    .exact λM Q E q=>bp trivial q
   .simp![Mem.upd_del,am hp,KJ,Lc,Kt,id]
    exact aq h
  .simp![eB,cW,Rw.d,i4,t4,qM,t3,atI_0,atI_2,CK,↓aN,nr5,eh,z3,fH]
   rw[if_neg (by decide),if_neg (by decide)]
   refine bI (ks:=[("name",.str x,jv names (.str x)),("name",.str y,jv names (.str y)),("name",.str z,jv names (.str z))]) (λp hp=>?_) (by simp) aA λp hp=>?_
   .simp only[JM,Kb,or_false]at hp
    rcases hp with rfl|rfl|rfl
    .exact λM Q E q=>bp trivial q
    .exact λM Q E q=>bp trivial q
    .exact λM Q E q=>bp trivial q
   .simp![Mem.upd_del,am hp,KJ,Lc,Kt,id]
    exact aq h
 |ifr x a b=>
  simp only[iq]at h
  by_cases hm:d=4
  .rw[decide_eq_false (by simpa using hm),Ku]at h
   simp![eB,cW,Rw.d,i4,t4,qM,t3,atI_0,atI_2,D_,↓aN,nr6,eh,z3,fH];rw[if_neg (by decide),if_neg (by decide),if_pos (by lia)]
   exact aq h
  .rw[decide_eq_true (by simpa using hm),Kn]at h
   simp![eB,cW,Rw.d,i4,t4,qM,t3,atI_0,atI_2,D_,↓aN,nr6,eh,z3,fH];rw[if_neg (by decide),if_neg (by decide),if_neg (by lia)]
   refine bI (ks:=[("name",.str x,jv names (.str x)),("rows",.tup (ag a),true),("rows",.tup (ag b),true)]) (λp hp=>?_) (by simp) aA λp hp=>?_
   .simp only[JM,Kb,or_false]at hp
    rcases hp with rfl|rfl|rfl
    .exact λM Q E q=>bp trivial q
    .exact λM Q E q=>nh q
    .exact λM Q E q=>nh q
   .simp![Mem.upd_del,am hp,KJ,Lc,Kt,id]
    exact aq h
 |again x a=>
  simp only[iq]at h
  by_cases hm:d=4
  .rw[decide_eq_false (by simpa using hm),Ku]at h
   simp![eB,cW,Rw.d,i4,t4,qM,t3,atI_0,atI_2,pS,↓aN,nr7,eh,z2,fH];rw[if_neg (by decide),if_neg (by decide),if_pos (by lia)]
   exact aq h
  .rw[decide_eq_true (by simpa using hm),Kn]at h
   simp![eB,cW,Rw.d,i4,t4,qM,t3,atI_0,atI_2,pS,↓aN,nr7,eh,z2,fH];rw[if_neg (by decide),if_neg (by decide),if_neg (by lia)]
   refine bI (ks:=[("name",.str x,jv names (.str x)),("rows",.tup (ag a),true)]) (λp hp=>?_) (by simp) aA λp hp=>?_
   .simp only[JM,Kb,or_false]at hp
    rcases hp with rfl|rfl
    .exact λM Q E q=>bp trivial q
    .exact λM Q E q=>nh q
   .simp![Mem.upd_del,am hp,KJ,Lc,Kt,id]
    exact aq h
end
def wR:Rw->List (List Rw)
 |.ifr _ a b=>[a,b]
 |.again _ a=>[a]
 |_=>[]
def J5(a:List Rw):D:=.tup (ag a)
theorem jI{c:eG}{tb:ar}{DD:DEnds}{b:BxW c tb DD}(I:Nat->Dl->Mem->Prop)
  (hs:∀m Y M,I m Y M->∀D':DEnds,(∀m' δ' M',m'<m->I m' δ' M'->D'.nx δ' M')->D'.rt=DD.rt->c Y M λk M1=>if k=true then tb D' Y M1 else DD.nx Y M1):∀n m Y M,m<n->I m Y M->eK c tb DD b n Y M
 |0,m,Y,M,h,_=>by lia
 |n+1,m,Y,M,h,i=>hs m Y M i { DD with nx:=eK c tb DD b n,ct:=eK c tb DD b n,bk:=DD.nx } (λm' δ' M' q i'=>jI I hs n m' δ' M' (by lia) i') rfl
mutual
def HZ:Rw->Prop
 |.ifr _ a b=>iy a/\iy b
 |.again _ a=>iy a
 |.put _ _=>True
 |.take _ _=>True
 |.pick _ _=>True
 |.two w _ _ _=>w="sum"\/w="by"\/w="less"\/w="same"
def iy:List Rw->Prop
 |[]=>True
 |r::rs=>HZ r/\iy rs
end
theorem yZ{r:Rw}(h:HZ r):wOk r:=by cases r<;>first|exact h|trivial
theorem gr:∀{rs:List Rw} {r:Rw},iy rs->r∈rs->HZ r
 |s::rs,r,o,h=>by
  rcases JM.mp h with rfl|h
  .exact o.1
  .exact gr o.2 h
theorem FG{r:Rw}(o:HZ r){a:List Rw}(h:a∈wR r):iy a:=by
 cases r with
 |ifr x a b=>simp[wR]at h;rcases h with rfl|rfl;exact o.1;exact o.2
 |again x a=>simp[wR]at h;subst h;exact o
 |_=>simp[wR]at h
section
variable (names:List Str)(m many:Int)
mutual
def rV(d:Nat):Rw->Bool
 |.ifr x a b=>iq names m many d (.ifr x a b)&&(mI (d+1) a&&mI (d+1) b)
 |.again x a=>iq names m many d (.again x a)&&mI (d+1) a
 |.put x k=>iq names m many d (.put x k)
 |.take x k=>iq names m many d (.take x k)
 |.pick x y=>iq names m many d (.pick x y)
 |.two w x y z=>iq names m many d (.two w x y z)
def mI(d:Nat):List Rw->Bool
 |[]=>true
 |r::rs=>rV d r&&mI d rs
end
theorem HG(d:Nat)(r:Rw):rV names m many d r=(iq names m many d r&&(wR r).all (mI names m many (d+1))):=by cases r<;>simp[rV,wR]
theorem zx(d:Nat):∀rs:List Rw,mI names m many d rs=(rs.all (iq names m many d)&&(rs.flatMap wR).all (mI names m many (d+1)))
 |[]=>rfl
 |r::rs=>by
  rw[mI,HG,zx d rs,KJ,List.flatMap_cons,N7];cases iq names m many d r<;>cases (wR r).all (mI names m many (d+1))<;>simp
end
def sC:List (List Rw×Nat)->Nat
 |[]=>0
 |w::l=>cRs w.1+sC l
theorem cw:∀a b:List (List Rw×Nat),sC (a++b)=sC a+sC b
 |[],b=>by simp[sC]
 |x::a,b=>by simp only[Ky,sC,cw a b];lia
def within(d:Nat)(rows:List Rw):List (List Rw×Nat):=(rows.flatMap wR).map λa=>(a,d)
theorem lx(d:Nat)(a b:List Rw):within d (a++b)=within d a++within d b:=by simp[within]
theorem IH(d:Nat)(r:Rw):sC ((wR r).map λa=>(a,d))+1=cR r:=by cases r<;>simp only[wR,JO,OJ,sC,cR]<;>lia
theorem zy(r:Rw):(wR r).length<=2:=by cases r<;>simp[wR]
theorem lX(d:Nat):∀rows:List Rw,sC (within d rows)+rows.length=cRs rows
 |[]=>rfl
 |r::rows=>by
  have h1:=IH d r;have h2:=lX d rows;have:within d (r::rows)=((wR r).map λa=>(a,d))++within d rows:=by simp[within]
  rw[this,cw];simp only[JC,cRs];lia
theorem fL(d:Nat):∀rows:List Rw,(within d rows).length<=2*rows.length
 |[]=>by simp[within]
 |r::rows=>by
  have h1:=zy r;have h2:=fL d rows;have:within d (r::rows)=((wR r).map λa=>(a,d))++within d rows:=by simp[within]
  rw[this];simp only[JD,JK,JC];lia
def qc(W:List (List Rw×Nat)):Nat:=W.length+2*sC W
def y2(w:List Rw×Nat):D:=.tup [J5 w.1,.int (w.2:Nat)]
section
variable {ad:Ad}{M:Mem}{Q:DK}{E:DX}{names:List Str}{m many:Int}{d3 d4:D}
theorem ms{r:Rw}(o:wOk r)(h:∀p,M p=none->Q (.ref p) (M.upd p<|.lst<|(wR r).map J5)):dA ad [r.d] M Q E:=by
 cases r with
 |ifr x a b=>
  simp![ph,io,Rw.d,atI_0,atI_2,atI_3];exact⟨aM (by decide),λp hp=>aq (h p hp)⟩
 |again x a=>
  simp![ph,io,Rw.d,atI_0,atI_2];exact⟨aM (by decide),λp hp=>aq (h p hp)⟩
 |two w x y z=>
  rcases o with rfl|rfl|rfl|rfl
  all_goals
   simp![ph,io,Rw.d,atI_0];exact⟨aM (by decide),λp hp=>aq (h p hp)⟩
 |_=>
  simp![ph,io,Rw.d,atI_0];exact⟨aM (by decide),λp hp=>aq (h p hp)⟩
def ka(names:List Str)(m many:Int)(rows:List Rw):Bool:=mI names m many 0 rows&&decide (cRs rows<=60)
theorem xt{l:List Rw}{d:Nat}(o:iy l)(hl:l.length<=500){okM:Mem->Prop}(ho:okM M){Q:List D->Mem->Prop}{b:BxC (af 0) cF (aj<|ai (mi ad) qw 3<|aa (ac 1)<|aa (ac 0)<|aa (ac 2) ae) okM Q}{c:Option D}
  (h:Q ((l.map<|iq names m many d).map D.bl) M):da (af 0) cF (aj<|ai (mi ad) qw 3<|aa (ac 1)<|aa (ac 0)<|aa (ac 2) ae) okM Q b (ag l) [] [c,some (fH m many names d3 d4),some (.int (d:Nat))] M:=by
 refine bh (λxs acc Y N=>∃(dn rs:List Rw) (c0:Option D),l=dn++rs/\xs=ag rs/\acc=(dn.map<|iq names m many d).map D.bl/\Y=[c0,some (fH m many names d3 d4),some (.int (d:Nat))]/\N=M) (λ_ _ _ _ z=>by obtain⟨_,_,_,_,_,_,_,e⟩:=z;subst e;exact ho) ?_ ?_ ?_ _ _ _ _ ⟨[],l,c,rfl,rfl,rfl,rfl,rfl⟩
 .rintro acc Y N ⟨dn,rs,c0,e1,e2,rfl,rfl,rfl⟩
  have:rs=[]:=by cases rs with
   |nil=>rfl
   |cons r rs=>simp[ag]at e2
  subst this;rw[JR]at e1;rw[<- e1];exact h
 .rintro x xs acc Y N ⟨dn,rs,c0,e1,e2,rfl,rfl,rfl⟩ N' hN hN0
  cases rs with
  |nil=>simp[ag]at e2
  |cons r rs=>
   simp only[ag,Kc]at e2;obtain⟨rfl,rfl⟩:=e2;have hd:dn.length<=500:=by have:=congrArg Km e1;simp at this;lia
   simp![];refine b6 (d:=.bl (iq names m many d r)) (λQ' E' q=>r8 (yZ<|gr o<|by rw[e1];simp) q) ?_
   simp![];exact hN _ _ _ (by simp;exact gC (by lia)) ⟨dn++[r],rs,_,by rw[e1];simp,rfl,by simp,rfl,rfl⟩
 .rintro x xs acc Y N ⟨dn,rs,c0,e1,e2,rfl,rfl,rfl⟩
  have hd:dn.length<=500:=by have:=congrArg Km e1;simp at this;lia
  simp;exact gC (by lia)
theorem xJ{l:List (List Rw)}{d:Nat}(hl:l.length<=10){okM:Mem->Prop}(ho:okM M){Q:List D->Mem->Prop}{b:BxC (af 0) cF (av<|aa (ac 0)<|aa (al aF (ac 1)<|dC<|.int 1) ae) okM Q}{c:Option D}
  (h:Q ((l.map λa=>(a,d+1)).map y2) M):da (af 0) cF (av<|aa (ac 0)<|aa (al aF (ac 1)<|dC<|.int 1) ae) okM Q b (l.map J5) [] [c,some (.int (d:Nat))] M:=by
 refine bh (λxs acc Y N=>∃(dn rs:List (List Rw)) (c0:Option D),l=dn++rs/\xs=rs.map J5/\acc=(dn.map λa=>(a,d+1)).map y2/\Y=[c0,some (.int (d:Nat))]/\N=M) (λ_ _ _ _ z=>by obtain⟨_,_,_,_,_,_,_,e⟩:=z;subst e;exact ho) ?_ ?_ ?_ _ _ _ _ ⟨[],l,c,rfl,rfl,rfl,rfl,rfl⟩
 .rintro acc Y N ⟨dn,rs,c0,e1,e2,rfl,rfl,rfl⟩
  have:rs=[]:=by cases rs with
   |nil=>rfl
   |cons r rs=>simp at e2
  subst this;rw[JR]at e1;rw[<- e1];exact h
 .rintro x xs acc Y N ⟨dn,rs,c0,e1,e2,rfl,rfl,rfl⟩ N' hN hN0
  cases rs with
  |nil=>simp at e2
  |cons r rs=>
   simp only[JO,Kc]at e2;obtain⟨rfl,rfl⟩:=e2;have hd:dn.length<=10:=by have:=congrArg Km e1;simp at this;lia
   simp![];refine⟨aM (by decide),hN _ _ _ (by simp;exact gC (by lia)) ⟨dn++[r],rs,_,by rw[e1];simp,rfl,by simp[y2],rfl,rfl⟩⟩
 .rintro x xs acc Y N ⟨dn,rs,c0,e1,e2,rfl,rfl,rfl⟩
  have hd:dn.length<=10:=by have:=congrArg Km e1;simp at this;lia
  simp;exact gC (by lia)
theorem ny{rows:List Rw}(o:iy rows)(hc:cRs rows<=300)(h:Q (.bl<|ka names m many rows) M):tz ad [fH m many names (.tup<|ag rows) d4] M Q E:=by
 simp![HU,uz,fH,atI_3,nX];refine⟨aM (by decide),aM (by decide),λp hp=>⟨2*cRs rows+2,?_⟩⟩
 refine jI (λk Y N=>∃(W:List (List Rw×Nat)) (c:Nat) (c3 c4 c5 c6:Option D),k=qc W/\k<=1000/\(∀w∈W,iy w.1)/\c<=60/\((W.all λw=>mI names m many w.2 w.1)&&decide (c+sC W<=60))=ka names m many rows/\Y=[some (fH m many names (.tup<|ag rows) d4),some (.int (c:Nat)),some (.ref p),c3,c4,c5,c6]/\N=M.upd p (.lst<|W.map y2)) ?_ _ (qc [(rows,0)]) _ _ (by simp only[qc,sC,KZ];lia) ⟨[(rows,0)],0,_,_,_,_,rfl,by simp only[qc,sC,KZ];lia,λw hw=>by rw[Ks]at hw;subst hw;exact o,by lia,?_,rfl,rfl⟩
 .rintro k Y N ⟨W,c,c3,c4,c5,c6,hk,hk2,hw,h60,hB,rfl,rfl⟩ D' hnx hrt
  rcases List.eq_nil_or_concat W with rfl|⟨W0,⟨a,d⟩,rfl⟩
  .simp![List.isEmpty_nil]
   rw[Lc,Kn,sC,Na,decide_eq_true h60]at hB;rw[<- hB]at h;exact gF hp h
  .rw[List.concat_eq_append] at*
   have hE:(O7 y2 (W0++[(a,d)])).isEmpty=false:=by simp
   have hG:(O7 y2 (W0++[(a,d)]))[(O7 y2 (W0++[(a,d)])).length-1]?=some (.tup [.tup (ag a),.int (d:Nat)]):=by simp[y2,J5]
   have hL:(O7 y2 (W0++[(a,d)])).dropLast=W0.map y2:=by simp
   have hlen:(ag a).length=a.length:=bc;simp only[qc,JD,KZ,cw,sC,Na]at hk;have hin:=lX (d+1) a;have hin2:=fL (d+1) a;have oa:iy a:=hw (a,d) (by simp)
   have hB2:ka names m many rows=((W0.all λw=>mI names m many w.2 w.1)&&(a.all (iq names m many d)&&((a.flatMap wR).all (mI names m many (d+1))&&decide (c+(sC W0+cRs a)<=60)))):=by
    rw[<- hB,N7,KJ,Lc,Kt,cw,sC,sC,Na,zx,Nu,Nu]
   have fls:ka names m many rows=false->drp Q (.bl false) (M.upd p<|.lst<|W0.map y2):=λz=>gF hp (by rw[z]at h;exact h)
   simp![hE,hG,hL,atI_0,atI_1,i4,t4,Mem.upd_upd,hlen,↓aN,↓bW,hrt]
   by_cases h1:60<(c:Int)+(a.length:Int)
   .rw[if_pos h1]
    refine fls ?_;rw[hB2,decide_eq_false (by lia),Lm,Lm,Lm]
   rw[if_neg h1];refine xt oa (by lia) aA λq hq=>?_
   have ea:(a.map<|iq names m many d).all id=a.all (iq names m many d):=by rw[MY];rfl
   simp![Mem.upd_del,am hq,fm,ea];cases hs:a.all (iq names m many d) with
   |false=>
    simp![hrt];refine fls ?_;rw[hB2,hs,Ku,Lm]
   |true=>
    rw[hs,Kn]at hB2;simp![↓bW];refine bt (λxs Y N=>∃(dn rs:List Rw) (c6:Option D),a=dn++rs/\xs=ag rs/\Y=[some (fH m many names (.tup<|ag rows) d4),some (.int ((c:Int)+(a.length:Int))),some (.ref p),some (.tup [.tup (ag a),.int (d:Nat)]),some (.tup<|ag a),some (.int (d:Nat)),c6]/\N=M.upd p (.lst<|(W0++within (d+1) dn).map y2)) (λ_ _ _ _=>aA) ?_ ?_ _ _ _ ⟨[],a,_,rfl,rfl,rfl,by simp[within]⟩
    .rintro Y N ⟨dn,rs,c6,e1,e2,rfl,rfl⟩
     have:rs=[]:=by cases rs with
      |nil=>rfl
      |cons r rs=>simp[ag]at e2
     subst this;rw[JR]at e1;subst e1;refine hnx (qc (W0++within (d+1) a)) _ _ ?_ ⟨W0++within (d+1) a,c+a.length,_,_,_,_,rfl,?_,?_,by lia,?_,by rw[Int.natCast_add],rfl⟩
     .simp only[qc,JD,cw];lia
     .simp only[qc,JD,cw];lia
     .intro w hw2
      rcases JW.mp hw2 with z|z
      .exact hw w (by simp[z])
      .simp only[within,La,List.mem_flatMap]at z
       obtain⟨b,⟨r,hr,hb⟩,rfl⟩:=z;exact FG (gr oa hr) hb
     .rw[hB2,N7,cw]
      have e3:(within (d+1) a).all (λw=>mI names m many w.2 w.1)=(a.flatMap wR).all (mI names m many (d+1)):=by
       unfold within;rw[MY];rfl
      have e4:decide (c+(sC W0+cRs a)<=60)=decide (c+a.length+(sC W0+sC (within (d+1) a))<=60):=by rw[decide_eq_decide];lia
      rw[e3,e4,Nu]
    .rintro x xs Y N ⟨dn,rs,c6,e1,e2,rfl,rfl⟩ D2 hnx2 _ _ _
     cases rs with
     |nil=>simp[ag]at e2
     |cons r rs=>
      simp only[ag,Kc]at e2;obtain⟨rfl,rfl⟩:=e2;have hr:r∈a:=by rw[e1];simp
      have or:=yZ (gr oa hr);have hl1:=zy r;have hl2:=fL (d+1) dn;have hl3:dn.length<=300:=by have:=congrArg Km e1;simp at this;lia
      simp![↓aN];refine au λQ' E' hq _=>ms or λq hqn=>hq _ _ ?_;simp![Mem.upd_del,am hqn];refine xJ (by lia) aA λq2 hq2=>?_
      simp![Mem.upd_del,am hq2,Mem.upd_same,Mem.upd_upd];refine⟨aM ?_,hnx2 _ _ ⟨dn++[r],rs,_,by rw[e1];simp,rfl,rfl,?_⟩⟩
      .simp only[JK,JD];lia
      .rw[lx,<- LL,Ko]
       simp[within]
 .simp only[KJ,Lc,Kt,sC,Mn,Na];rfl
def uU(m many:Int)(names:List Str)(rows:List Rw)(mk:D):Bool:=
 (decide (2<=m)&&decide (m<=997))&&((decide (0<=many)&&decide (many<=40))&&(xr names&&(jv names mk&&ka names m many rows)))
theorem pU{rows:List Rw}{mk:D}(hx:∀x∈names,Let x)(hn:names.length<=60)(o:iy rows)(hc:cRs rows<=300)(hmk:Mk0 mk)(h:Q (.bl<|uU m many names rows mk) M):lE ad [fH m many names (.tup<|ag rows) mk] M Q E:=by
 unfold uU at h;simp![HR,vT,fH,i4,t4,atI_0,atI_1,atI_2,atI_4];rw[if_neg (by decide)]
 refine b6 (d:=.bl (decide (2<=m)&&decide (m<=997))) (λQ' E' q=>dM q) ?_;cases h1:(decide (2<=m)&&decide (m<=997)) with
 |false=>rw[h1,Ku]at h;simp![];exact aq h
 |true=>
  rw[h1,Kn]at h;simp![atI_2];refine b6 (d:=.bl (decide (0<=many)&&decide (many<=40))) (λQ' E' q=>dM q) ?_;cases h2:(decide (0<=many)&&decide (many<=40)) with
  |false=>rw[h2,Ku]at h;simp![];exact aq h
  |true=>
   rw[h2,Kn]at h;simp![atI_1];refine b6 (d:=.bl (xr names)) (λQ' E' q=>ly hx hn q) ?_;cases h3:xr names with
   |false=>rw[h3,Ku]at h;simp![];exact aq h
   |true=>
    rw[h3,Kn]at h;simp![atI_4];refine b6 (d:=.bl (jv names mk)) (λQ' E' q=>vz hmk q) ?_;cases h4:jv names mk with
    |false=>rw[h4,Ku]at h;simp![];exact aq h
    |true=>
     rw[h4,Kn]at h;simp![];refine b6 (d:=.bl (ka names m many rows)) (λQ' E' q=>ny o hc q) ?_;simp![];exact aq h
end
mutual
def lh(nm:Str)(f:List Int->Option Int)(pl:List Int):Rw->Rw->List Rw
 |.ifr x a b,o=>match o with
  |.ifr _ a' b'=>[.ifr x (bM nm f (pl++[1]) 0 a a') (bM nm f (pl++[0]) 0 b b')]
  |_=>[]
 |.again x a,o=>match o with
  |.again _ a'=>[.again x (bM nm f (pl++[0]) 0 a a')]
  |_=>[]
 |r,o=>match f pl with
  |some k=>[.take nm k,.ifr nm [o] [r]]
  |none=>[r]
def bM(nm:Str)(f:List Int->Option Int)(pl:List Int):Nat->List Rw->List Rw->List Rw
 |_,[],_=>[]
 |j,r::rs,os=>match os with
  |[]=>[]
  |o::os=>lh nm f (pl++[(j:Int)]) r o++bM nm f pl (j+1) rs os
end
mutual
theorem jM:∀(r o:Rw) (pl:List Int),∀x∈bH pl r o,∃t,x=pl++t
 |.ifr _ a b,o,pl=>by
  have h1:=bi a;have h2:=bi b;cases o with
  |ifr y a' b'=>
   intro x hx;simp only[bH,JW]at hx;rcases hx with hx|hx
   .obtain⟨i,t,_,e⟩:=h2 _ _ _ x hx
    exact⟨[0]++(i:Int)::t,by rw[e];simp⟩
   .obtain⟨i,t,_,e⟩:=h1 _ _ _ x hx
    exact⟨[1]++(i:Int)::t,by rw[e];simp⟩
  |_=>intro x hx;cases hx
 |.again _ a,o,pl=>by
  have h1:=bi a;cases o with
  |again y a'=>
   intro x hx;obtain⟨i,t,_,e⟩:=h1 _ _ _ x hx;exact⟨[0]++(i:Int)::t,by rw[e];simp⟩
  |_=>intro x hx;cases hx
 |.put _ _,o,pl=>by intro x hx;simp only[bH]at hx;split at hx<;>simp at hx;exact⟨[],by rw[hx];simp⟩
 |.take _ _,o,pl=>by intro x hx;simp only[bH]at hx;split at hx<;>simp at hx;exact⟨[],by rw[hx];simp⟩
 |.pick _ _,o,pl=>by intro x hx;simp only[bH]at hx;split at hx<;>simp at hx;exact⟨[],by rw[hx];simp⟩
 |.two _ _ _ _,o,pl=>by intro x hx;simp only[bH]at hx;split at hx<;>simp at hx;exact⟨[],by rw[hx];simp⟩
theorem bi:∀(rs os:List Rw) (pl:List Int) (j:Nat),∀x∈bf pl j rs os,∃(i:Nat) (t:List Int),j<=i/\x=pl++(i:Int)::t
 |[],os,pl,j=>by intro x hx;cases hx
 |r::rs,os,pl,j=>by
  cases os with
  |nil=>intro x hx;cases hx
  |cons o os=>
   intro x hx;simp only[bf,JW]at hx;rcases hx with hx|hx
   .obtain⟨t,e⟩:=jM r o _ x hx
    exact⟨j,t,JE _,by rw[e];simp⟩
   .obtain⟨i,t,h,e⟩:=bi rs os _ _ x hx
    exact⟨i,t,by lia,e⟩
end
theorem fh{pl:List Int}{i j:Int}{s t:List Int}(h:pl++i::s=pl++j::t):i=j/\s=t:=by
 have:=List.append_cancel_left h;simpa using this
mutual
theorem BT:∀(r o:Rw) (pl:List Int),(bH pl r o).Nodup
 |.ifr _ a b,o,pl=>by
  have h1:=eN a;have h2:=eN b;cases o with
  |ifr y a' b'=>
   simp only[bH];refine Mh.mpr ⟨h2 _ _ _,h1 _ _ _,λx hx y hy e=>?_⟩;obtain⟨i,s,_,e1⟩:=bi _ _ _ _ x hx;obtain⟨j,t,_,e2⟩:=bi _ _ _ _ y hy;rw[e1,e2]at e;simp only[Ko,Ln]at e;have:=(fh e).1;lia
  |_=>exact Nr
 |.again _ a,o,pl=>by
  have h1:=eN a;cases o with
  |again y a'=>exact h1 _ _ _
  |_=>exact Nr
 |.put _ _,o,pl=>by simp only[bH];split<;>simp
 |.take _ _,o,pl=>by simp only[bH];split<;>simp
 |.pick _ _,o,pl=>by simp only[bH];split<;>simp
 |.two _ _ _ _,o,pl=>by simp only[bH];split<;>simp
theorem eN:∀(rs os:List Rw) (pl:List Int) (j:Nat),(bf pl j rs os).Nodup
 |[],os,pl,j=>by simp[bf]
 |r::rs,os,pl,j=>by
  cases os with
  |nil=>simp[bf]
  |cons o os=>
   simp only[bf];refine Mh.mpr ⟨BT r o _,eN rs os _ _,λx hx y hy e=>?_⟩;obtain⟨t,e1⟩:=jM r o _ x hx;obtain⟨i,u,hi,e2⟩:=bi _ _ _ _ y hy;rw[e1,e2]at e;simp only[Ko,Ln]at e;have:=(fh e).1;lia
end
mutual
def nbR(L:List (List Int))(pl:List Int):Rw->Rw->Prop
 |.ifr _ a b,o=>match o with
  |.ifr _ a' b'=>pl∉L/\nt L (pl++[1]) 0 a a'/\nt L (pl++[0]) 0 b b'
  |_=>True
 |.again _ a,o=>match o with
  |.again _ a'=>pl∉L/\nt L (pl++[0]) 0 a a'
  |_=>True
 |_,_=>True
def nt(L:List (List Int))(pl:List Int):Nat->List Rw->List Rw->Prop
 |_,[],_=>True
 |j,r::rs,os=>match os with
  |[]=>True
  |o::os=>nbR L (pl++[(j:Int)]) r o/\nt L pl (j+1) rs os
end
theorem nK{pl t:List Int}{c i:Int}:pl≠pl++[c]++i::t:=λe=>by
 have:=congrArg Km e;simp at this
mutual
theorem Ci(L:List (List Int)):∀(r o:Rw) (pl:List Int),(∀x∈L,(∃t,x=pl++t)->x∈bH pl r o)->nbR L pl r o
 |.ifr _ a b,o,pl=>by
  have h1:=eX L a;have h2:=eX L b;cases o with
  |ifr y a' b'=>
   intro H;simp only[bH,JW]at H;refine⟨λhl=>?_,h1 _ _ _ λx hx ⟨i,t,_,e⟩=>?_,h2 _ _ _ λx hx ⟨i,t,_,e⟩=>?_⟩
   .rcases H _ hl ⟨[],by simp⟩ with z|z
    .obtain⟨i,t,_,e⟩:=bi _ _ _ _ _ z
     exact nK e
    .obtain⟨i,t,_,e⟩:=bi _ _ _ _ _ z
     exact nK e
   .rcases H x hx ⟨[1]++(i:Int)::t,by rw[e];simp⟩ with z|z
    .obtain⟨j,s,_,e2⟩:=bi _ _ _ _ _ z
     rw[e]at e2;simp only[Ko,Ln]at e2;have:=(fh e2).1;lia
    .exact z
   .rcases H x hx ⟨[0]++(i:Int)::t,by rw[e];simp⟩ with z|z
    .exact z
    .obtain⟨j,s,_,e2⟩:=bi _ _ _ _ _ z
     rw[e]at e2;simp only[Ko,Ln]at e2;have:=(fh e2).1;lia
  |_=>intro _;trivial
 |.again _ a,o,pl=>by
  have h1:=eX L a;cases o with
  |again y a'=>
   intro H;simp only[bH]at H;refine⟨λhl=>?_,h1 _ _ _ λx hx ⟨i,t,_,e⟩=>H x hx ⟨[0]++(i:Int)::t,by rw[e];simp⟩⟩
   obtain⟨i,t,_,e⟩:=bi _ _ _ _ _ (H _ hl ⟨[],by simp⟩)
   exact nK e
  |_=>intro _;trivial
 |.put _ _,o,pl=>λ_=>trivial
 |.take _ _,o,pl=>λ_=>trivial
 |.pick _ _,o,pl=>λ_=>trivial
 |.two _ _ _ _,o,pl=>λ_=>trivial
theorem eX(L:List (List Int)):∀(rs os:List Rw) (pl:List Int) (j:Nat),(∀x∈L,(∃(i:Nat) (t:List Int),j<=i/\x=pl++(i:Int)::t)->x∈bf pl j rs os)->nt L pl j rs os
 |[],os,pl,j=>λ_=>trivial
 |r::rs,os,pl,j=>by
  cases os with
  |nil=>intro _;trivial
  |cons o os=>
   intro H;simp only[bf,JW]at H;refine⟨Ci L r o _ λx hx ⟨t,e⟩=>?_,eX L rs os _ _ λx hx ⟨i,t,hi,e⟩=>?_⟩
   .rcases H x hx ⟨j,t,JE _,by rw[e];simp⟩ with z|z
    .exact z
    .obtain⟨i,s,hi,e2⟩:=bi _ _ _ _ _ z
     rw[e]at e2;simp only[Ko,Ln]at e2;have:=(fh e2).1;lia
   .rcases H x hx ⟨i,t,by lia,e⟩ with z|z
    .obtain⟨s,e2⟩:=jM _ _ _ _ z
     rw[e]at e2;simp only[Ko,Ln]at e2;have:=(fh e2).1;lia
    .exact z
end
def lc(rs os:List Rw):List (List Int):=zJ fK (bf [] 0 rs os)
theorem Fv(rs os:List Rw):(lc rs os).Nodup:=(dB fK _).nodup_iff.mpr (eN rs os [] 0)
theorem Fe(rs os:List Rw):nt (lc rs os) [] 0 rs os:=eX _ rs os [] 0 λx hx _=>(dB fK _).mem_iff.mp hx
def bP(L:List (List Int))(many:Int)(pl:List Int):Option Int:=(L.findIdx? (·==pl)).map λi=>many+(i:Int)
def lettersS:Str:="abcdefghijklmnopqrstuvwxyz"
def L26:List Str:=lettersS.cps.toList.map λc=>⟨#[c]⟩
theorem Cj:dJ lettersS=L26.map D.str:=by simp only[dJ,L26,Mi];rfl
theorem Ey:L26.Nodup:=by decide +kernel
theorem nS:L26.length=26:=by decide +kernel
theorem yV:∀(a b:List Str),a.Nodup->(∀x∈a,x∈b)->a.length<=b.length
 |[],b,_,_=>KR _
 |x::a,b,nd,h=>by
  rw[Ma]at nd;have hx:=h x (by simp)
  have:=yV a (b.erase x) nd.2 λy hy=>(List.mem_erase_of_ne (λe:y=x=>nd.1 (e▸hy))).mpr (h y<|by simp[hy])
  rw[List.length_erase_of_mem hx]at this;have hp:0<b.length:=List.length_pos_of_mem hx;rw[JC];lia
theorem yu{names:List Str}(hn:names.length<=12):∃x∈L26,x∉names:=by
 refine NV λhc=>?_;have:=yV L26 names Ey λx hx=>NV λz=>hc ⟨x,hx,z⟩;rw[nS]at this;lia
def cP(names:List Str):Str:=(L26.filter λx=>!decide (x∈names)).headD ""
theorem jS{names:List Str}(hn:names.length<=12):∃t,(L26.filter λx=>!decide (x∈names))=cP names::t:=by
 obtain⟨x,hx,hy⟩:=yu hn;have hm:x∈L26.filter λx=>!decide (x∈names):=Nd.mpr ⟨hx,by simp[hy]⟩
 unfold cP;cases e:L26.filter λx=>!decide (x∈names) with
 |nil=>rw[e]at hm;cases hm
 |cons a t=>exact⟨t,rfl⟩
theorem rH{names:List Str}(hn:names.length<=12):cP names∈L26/\cP names∉names:=by
 obtain⟨t,e⟩:=jS hn;have:cP names∈L26.filter λx=>!decide (x∈names):=by rw[e];simp
 obtain⟨a,b⟩:=Nd.mp this;exact⟨a,by simpa using b⟩
section
variable {ad:Ad}{M:Mem}{Q:DK}{E:DX}{te:bg}{names:List Str}
theorem uo{tt:eG}{ok:Mem->Prop}{Q:List D->Mem->Prop}{b:BxC (af 0) tt te ok Q}{rest:Dl}{c:Option D}{xs:List D}(p:D->Bool)(f:D->D)(ho:ok M)(hl:xs.length<=100000)
  (ht:∀x∈xs,∀K:Bool->Mem->Prop,K (p x) M->tt (some x::rest) M K) (he:∀x∈xs,p x=true->∀K:DK,K (f x) M->te (some x::rest) M K) (h:Q ((xs.filter p).map f) M):
  da (af 0) tt te ok Q b xs [] (c::rest) M:=by
 refine bh (λys acc Y N=>∃(us:List D) (c0:Option D),xs=us++ys/\acc=(us.filter p).map f/\Y=c0::rest/\M=N) (λ_ _ _ _ z=>by obtain⟨_,_,_,_,_,rfl⟩:=z;exact ho) ?_ ?_ ?_ _ _ _ _ ⟨[],c,rfl,rfl,rfl,rfl⟩
 .rintro acc Y N ⟨us,c0,e1,rfl,rfl,rfl⟩
  rw[JR]at e1;subst e1;exact h
 .rintro y ys acc Y N ⟨us,c0,e1,rfl,rfl,rfl⟩ N' hN1 hN2
  have hy:y∈xs:=by rw[e1];simp
  have hlen:((us.filter p).map f).length<sizeLine:=by
   have h1:(us.filter p).length<=us.length:=LP ..;have h2:=congrArg Km e1;rw[JD]at h2;rw[JK];exact gC (by lia)
  refine ht y hy (λc M3=>if c=true then te (some y::rest) M3 λz M4=>N' true z (some y::rest) M4 else N' false .non (some y::rest) M3) ?_
  cases hp:p y with
  |true=>
   rw[if_pos rfl];exact he y hy hp _ (hN1 _ _ _ hlen ⟨us++[y],_,by rw[e1];simp,by simp[hp],rfl,rfl⟩)
  |false=>
   rw[if_neg (by simp)]
   exact hN2 _ _ _ ⟨us++[y],_,by rw[e1];simp,by simp[hp],rfl,rfl⟩
 .rintro y ys acc Y N ⟨us,c0,e1,rfl,rfl,rfl⟩
  have h1:(us.filter p).length<=us.length:=LP ..;have h2:=congrArg Km e1;rw[JD]at h2;rw[JK];exact gC (by lia)
theorem k_{ok:Mem->Prop}{Q:List D->Mem->Prop}{b:BxC (af 0) cF te ok Q}{rest:Dl}{c:Option D}{xs:List D}(f:D->D)(ho:ok M)(hl:xs.length<=100000)
  (he:∀x∈xs,∀K:DK,K (f x) M->te (some x::rest) M K) (h:Q (xs.map f) M):da (af 0) cF te ok Q b xs [] (c::rest) M:=by
 refine uo (λ_=>true) f ho hl (λx _ K q=>q) (λx hx _=>he x hx) ?_;rw[List.filter_eq_self.mpr λ_ _=>rfl];exact h
theorem nu{x:Str}:iB M (.str x) (.tup<|names.map D.str)=some (decide (x∈names)):=by
 simp only[iB,aH,dv,bN,h_,and_self,if_true,jU]
theorem nZ(hn:names.length<=12)(h:Q (.str<|cP names) M):tX ad [.tup (names.map D.str)] M Q E:=by
 rw[J6 (n:=0)];unfold vn;generalize hK:iZ ad (aJ E)=K;simp only[ak,ap,br,aa,dC,ae,mS];refine⟨by decide +kernel,λp hp=>?_⟩
 simp only[af,JP];rw[<- hK];unfold iZ;generalize nc ad (aJ E)=K1;generalize hK2:jm ad (aJ E)=K2;rw[show dJ (JL "abcdefghijklmnopqrstuvwxyz")=L26.map D.str from Cj];obtain⟨t,et⟩:=jS hn;have hal:(L26.all λx=>decide (x∈names))=false:=by
  obtain⟨x,hx,hy⟩:=yu hn;exact List.all_eq_false.mpr ⟨x,hx,by simp[hy]⟩
 refine⟨1,?_⟩;show bR (br lC<|aa (aj<|aN (cL<|ac 1) ["name"] [0] (af 0) cF<|al qy (ac 0)<|ac 1) ae) _ _ _;simp only[JP,bR,br,aa,aj,ae,aN,cL,ac,aH,bF,Mem.upd_same,JA,dt];have ho:∀ys,DIt.ok ⟨ys,[(p,L26.map D.str)]⟩ (M.upd p<|.lst<|L26.map D.str):=λys b hb=>by
  have:b=(p,L26.map D.str):=by simpa using hb
  subst this;exact Mem.upd_same
 have hlen:(L26.map D.str).length<=100000:=by rw[JK,nS];lia
 refine k_ (λd=>.bl (match d with|.str x=>decide (x∈names)|_=>false)) (ho _) hlen (λx hx K hq=>?_) ?_
 .obtain⟨y,_,rfl⟩:=La.mp hx
  show qy _ _ _ _;simp only[qy,nu];exact hq
 .intro q hq
  have eb:(L26.map D.str).map (λd=>D.bl (match d with|.str x=>decide (x∈names)|_=>false))=(L26.map λx=>decide (x∈names)).map D.bl:=by rw[Mi,Mi];rfl
  have ea:(L26.map λx=>decide (x∈names)).all id=false:=by rw[MY];exact hal
  simp only[frz,Mem.upd_same,Mem.upd_del,am hq,lC,cz,aH,eb,fm,ea,yD,if_false];rw[if_neg JY,<- hK2];unfold jm;simp only[ax,al,aj,aN,cL,ac,aH,bF,Mem.upd_same,JA,dt,dC];refine uo (λd=>match d with|.str x=>!decide (x∈names)|_=>false) id (ho _) hlen (λx hx K hq=>?_) (λx hx _ K hq=>hq) ?_
  .obtain⟨y,_,rfl⟩:=La.mp hx
   show ao (al fJ (ac 0)<|ac 1) [some (.str y),some (.tup<|names.map D.str)] _ _;simp only[ao,al,ac,JA,dt,fJ,nu];exact hq
  .intro q2 hq2
   have ef:(L26.map D.str).filter (λd=>match d with|.str x=>!decide (x∈names)|_=>false)=(L26.filter λx=>!decide (x∈names)).map D.str:=by rw[List.filter_map];rfl
   rw[List.map_id,ef,et];simp only[frz,Mem.upd_same,Mem.upd_del,am hq2,aD,aH,JO,bK (show (0:Int)<=0 by lia)]
   exact gF hp h
end
theorem GO{k:Nat}(h:k<26):∃c,lettersS.cps.toList[k]?=some c/\L26[k]?=some ⟨#[c]⟩:=by
 have hl:lettersS.cps.toList.length=26:=by decide +kernel
 refine⟨lettersS.cps.toList[k]'(by lia),JG _,?_⟩
 rw[L26,Kf,JG (by lia)]
 rfl
theorem wU{names:List Str}(hn:names.length<=12):∃k,k<26/\L26[k]?=some (cP names)/\∀j x,j<k->L26[j]?=some x->x∈names:=by
 obtain⟨t,e⟩:=jS hn;have key:∀(l:List Str) (y:Str) (u:List Str),(l.filter λx=>!decide (x∈names))=y::u->∃k,k<l.length/\l[k]?=some y/\∀j x,j<k->l[j]?=some x->x∈names:=by
  intro l
  induction l with
  |nil=>intro y u h;cases h
  |cons a l ih=>
   intro y u h
   by_cases ha:a∈names
   .rw[List.filter_cons_of_neg (by simp[ha])]at h
    obtain⟨k,h1,h2,h3⟩:=ih y u h;refine⟨k+1,by simpa using h1,by simpa using h2,λj x hj hx=>?_⟩
    cases j with
    |zero=>simp at hx;rw[<- hx];exact ha
    |succ j=>exact h3 j x (by lia) (by simpa using hx)
   .rw[List.filter_cons_of_pos (by simp[ha])]at h
    cases h;exact⟨0,by simp,rfl,λj x hj=>by lia⟩
 obtain⟨k,h1,h2,h3⟩:=key L26 _ _ e;exact⟨k,by rw[nS]at h1;exact h1,h2,h3⟩
section
variable {ad:Ad}{M:Mem}{Q:DK}{E:DX}{names:List Str}
theorem jV(hn:names.length<=12)(h:Q (.str<|cP names) M):C3 ad [.tup (names.map D.str)] M Q E:=by
 rw[u_q1 (n:=0)];unfold B3 rZ;generalize hK2:mT ad (aJ E)=K2;simp only[ak,ap,dC,af,JP,bW,eR,aa,al,ae,aF];obtain⟨k,hk,ek,hlt⟩:=wU hn;refine⟨by decide,by decide,?_⟩
 refine bt (λxs Y N=>N=M/\∃(j:Nat) (c2 c3:Option D),j<=k/\Y=[some (.tup<|names.map D.str),some (.str lettersS),c2,c3]/\xs=(dl 0 702).drop j) (λ_ _ _ _=>aA) ?_ ?_ _ _ _ ⟨rfl,0,none,none,KR _,rfl,rfl⟩
 .rintro Y N ⟨rfl,j,c2,c3,hj,rfl,e⟩
  have:=congrArg Km e;simp[dl]at this;lia
 .rintro x xs Y N ⟨rfl,j,c2,c3,hj,rfl,e⟩ D' hN _ hrt _
  have hx:x=.int (j:Nat)/\xs=(dl 0 702).drop (j+1):=by
   have hlen:j<(dl 0 702).length:=by simp[dl];lia
   rw[L8 hlen]at e;simp only[Kc]at e;refine⟨?_,e.2⟩;rw[e.1];simp[dl]
  obtain⟨rfl,rfl⟩:=hx;obtain⟨c,ec,el⟩:=GO (show j<26 by lia)
  have ei:atI lettersS.cps.toList ((j:Nat):Int)=some c:=by rw[bK (by lia)];simpa using ec
  rw[<- hK2];unfold mT sB;simp only[af,JP,ak,ap,zN,ao,al,ac,dC,JA,dt,DC,aD,aH,ei];show if decide (((j:Nat):Int)<26)=true then _ else _
  rw[if_pos (by simp;lia)]
  refine⟨aM (by decide +kernel),?_⟩
  simp only[aE,ao,al,ac,JA,dt,fJ,nu]
  by_cases hm:(⟨#[c]⟩:Str)∈names
  .rw[decide_eq_true hm]
   refine hN _ _ ⟨rfl,j+1,_,_,?_,rfl,rfl⟩;rcases Li j k with z|z
   .lia
   .have:j=k:=by lia
    subst this;rw[ek]at el;rw[<- Kl el]at hm;exact absurd hm (rH hn).2
  .rw[decide_eq_false hm]
   show D'.rt _ _;rw[hrt];have hjk:j=k:=by
    rcases Li j k with z|z
    .exact absurd (hlt j _ z el) hm
    .lia
   subst hjk;rw[ek]at el;rw[<- Kl el];exact aq h
end
def FO(ad:Ad)(L:List (List Int))(nm:Str)(names:List Str)(m many:Int)(n:Nat):Prop:=∀(rs os:List Rw) (pl:List Int) (M:Mem) (Q:DK) (E:DX),aO names m many rs->bv rs os=true->bq rs<n->cRs rs<=1000->pl.length+1+2*bq rs<=900->
 Q (.tup<|ag<|bM nm (bP L many) pl 0 rs os) M->Pu ad n [.tup (ag rs),.tup (ag os),aw pl,.lst (L.map aw),.str nm,.int many] M Q E
theorem pL:∀a b:List Int,cA (a.map D.int) (b.map D.int)=decide (a=b)
 |[],[]=>by simp[cA]
 |[],_::_=>by simp[cA]
 |_::_,[]=>by simp[cA]
 |x::a,y::b=>by
  simp only[JO,cA,pL a b,aG]
  by_cases e:x=y<;>simp[e]
theorem o7(a b:List Int):aG (aw a) (aw b)=decide (a=b):=by
 simp only[aw,aG];exact pL a b
theorem tZ{n:Nat}:∀a:List Int,fits n (a.map D.int)=true
 |[]=>by simp[fits]
 |x::a=>by simp[fits,bN,tZ a]
theorem kT{n:Nat}(a:List Int):bN (n+1) (aw a)=true:=by
 simp only[aw,bN];exact tZ a
theorem gW{n:Nat}:∀L:List (List Int),fits (n+1) (L.map aw)=true
 |[]=>by simp[fits]
 |a::L=>by rw[JO,fits,kT,gW L];rfl
theorem F9{M:Mem}{pl:List Int}{L:List (List Int)}:iB M (aw pl) (.lst<|L.map aw)=some (decide (pl∈L)):=by
 have e:dv M (aw pl)=aw pl:=rfl;have:(L.map aw).any (λd=>aG d (aw pl))=decide (pl∈L):=by
  rw[List.any_map]
  by_cases h:pl∈L
  .rw[decide_eq_true h]
   exact List.any_eq_true.mpr ⟨pl,h,by simp[Function.comp,o7]⟩
  .rw[decide_eq_false h]
   refine List.any_eq_false.mpr λx hx=>?_;simp only[Function.comp,o7];simp only[decide_eq_true_eq];exact λe=>h (e▸hx)
 simp only[iB,aH,e,kT (n:=59),gW (n:=59),and_self,if_true,this]
theorem uI{pl:List Int}:∀L:List (List Int),(L.map aw).findIdx? (λy=>aG y (aw pl))=L.findIdx? (·==pl)
 |[]=>rfl
 |a::L=>by
  rw[JO,NG,NG,uI L,o7];have:(a==pl)=decide (a=pl):=by by_cases e:a=pl<;>simp[e]
  rw[this]
theorem Ek{L:List (List Int)}{many:Int}{pl:List Int}(h:pl∈L):∃j:Nat,L.findIdx? (·==pl)=some j/\bP L many pl=some (many+(j:Int)):=by
 cases e:L.findIdx? (·==pl) with
 |none=>exact absurd (L7.mp e pl h) (by simp)
 |some j=>exact⟨j,rfl,by simp[bP,e]⟩
theorem qK{L:List (List Int)}{many:Int}{pl:List Int}(h:pl∉L):bP L many pl=none:=by
 have:L.findIdx? (·==pl)=none:=L7.mpr λx hx=>by
  have:x≠pl:=λe=>h (e▸hx);simp[this]
 simp[bP,this]
section
variable {ad:Ad}{M:Mem}{names:List Str}{m many:Int}{n:Nat}{L:List (List Int)}{nm:Str}{rsD plD:D}{hr:List Int}{os:List Rw}{acc:List Rw}{j:Nat}{EE:DX}{D2:DEnds}{c10 c11 c12 c13:Option D}
def Df(D2:DEnds)(M:Mem)(rsD plD:D)(L:List (List Int))(nm:Str)(many:Int)(os acc:List Rw)(j:Nat)(r:D)(hr:List Int)(new:List Rw):Prop:=∀c10 c11 c12 c13,D2.nx [some rsD,some (.tup<|ag os),some plD,some (.lst<|L.map aw),some (.str nm),some (.int many),some (.tup<|ag (acc++new)),some (.int (j:Nat)),some r,some (aw hr),c10,c11,c12,c13] M
theorem jq(ih:FO ad L nm names m many n){rs os:List Rw}{pl:List Int}{K:DK}{bx:BxQ EE λd M'=>frz d M' K}(ok:aO names m many rs)(k:bv rs os=true)(hn:bq rs<n)(hc:cRs rs<=1000)(hl:pl.length+1+2*bq rs<=900)(h:K (.tup<|ag<|bM nm (bP L many) pl 0 rs os) M):
  calls (Pu ad n) EE [.tup (ag rs),.tup (ag os),aw pl,.lst (L.map aw),.str nm,.int many] M (λd M'=>frz d M' K) bx:=
 au λQ' E' hq _=>ih rs os pl M Q' E' ok k hn hc hl (hq _ _ h)
theorem IJ(ih:FO ad L nm names m many n){x y:Str}{a a':List Rw}(eo:atI (ag os) (j:Nat)=some (Rw.again y a').d)(ok:cM names m many (.again x a))(k:iW (.again x a) (.again y a')=true)(hn:hR (.again x a)<=n)(hc:cR (.again x a)<=1000)(hl:hr.length+2*hR (.again x a)<=900)(ha:acc.length<=100000)
  (h:Df D2 M rsD plD L nm many os acc j (Rw.again x a).d hr (lh nm (bP L many) hr (.again x a)<|.again y a')):
  gq ad (Pu ad n) EE D2 [some rsD,some (.tup<|ag os),some plD,some (.lst<|L.map aw),some (.str nm),some (.int many),some (.tup<|ag acc),some (.int (j:Nat)),some (Rw.again x a).d,some (aw hr),c10,c11,c12,c13] M:=by
 simp only[hR,cR]at hn hc hl;have i2:∀(z:Str) (b:List Rw),atI [D.str (JL "again"),.str z,.tup (ag b)] 2=some (.tup<|ag b):=λz b=>by rw[atI_2];rfl
 have i1:∀(z:Str) (b:List Rw),atI [D.str (JL "again"),.str z,.tup (ag b)] 1=some (.str z):=λz b=>by rw[atI_1];rfl
 simp only[iW,JU]at k;unfold gq;generalize hK:iU ad (Pu ad n) EE=K;simp only[Rw.d]at eo ⊢;simp only[ak,ap,aj,ai,aa,ac,al,dC,av,ae,aD,aH,i2,eo,JA,dt];refine⟨aM (by simp),cB (by lia) ⟨rfl,jq ih ok.2 k.2 (by lia) (by lia) (by simp;lia) ?_⟩⟩
 simp only[af,JP];rw[<- hK];unfold iU;simp only[ap,al,ac,av,aa,dC,ae,aD,aH,i1,af,JP,JA,dt,aF];refine⟨aM (by simp),aM (by simp),aM (by simp only[bc,JC,JT];lia),?_⟩
 have:=h c10 c11 (some<|.tup<|ag<|bM nm (bP L many) (hr++[0]) 0 a a') c13;rw[aS]at this;exact this
theorem IU(ih:FO ad L nm names m many n){x y:Str}{a b a' b':List Rw}(eo:atI (ag os) (j:Nat)=some (Rw.ifr y a' b').d)(ok:cM names m many (.ifr x a b))(k:iW (.ifr x a b) (.ifr y a' b')=true)(hn:hR (.ifr x a b)<=n)(hc:cR (.ifr x a b)<=1000)(hl:hr.length+2*hR (.ifr x a b)<=900)(ha:acc.length<=100000)
  (h:Df D2 M rsD plD L nm many os acc j (Rw.ifr x a b).d hr (lh nm (bP L many) hr (.ifr x a b)<|.ifr y a' b')):
  gA ad (Pu ad n) EE D2 [some rsD,some (.tup<|ag os),some plD,some (.lst<|L.map aw),some (.str nm),some (.int many),some (.tup<|ag acc),some (.int (j:Nat)),some (Rw.ifr x a b).d,some (aw hr),c10,c11,c12,c13] M:=by
 simp only[hR,cR]at hn hc hl;have i2:∀(z:Str) (b c:List Rw),atI [D.str (JL "if"),.str z,.tup (ag b),.tup (ag c)] 2=some (.tup<|ag b):=λz b c=>by rw[atI_2];rfl
 have i3:∀(z:Str) (b c:List Rw),atI [D.str (JL "if"),.str z,.tup (ag b),.tup (ag c)] 3=some (.tup<|ag c):=λz b c=>by rw[atI_3];rfl
 have i1:∀(z:Str) (b c:List Rw),atI [D.str (JL "if"),.str z,.tup (ag b),.tup (ag c)] 1=some (.str z):=λz b c=>by rw[atI_1];rfl
 simp only[iW,JU]at k;unfold gA;generalize hK:jp ad (Pu ad n) EE=K;simp only[Rw.d]at eo ⊢;simp only[ak,ap,aj,ai,aa,ac,al,dC,av,ae,aD,aH,i2,eo,JA,dt];refine⟨aM (by simp),cB (by lia) ⟨rfl,jq ih ok.2.1 k.2.1 (by lia) (by lia) (by simp;lia) ?_⟩⟩
 simp only[af,JP];rw[<- hK];unfold jp;generalize hK1:iI ad (Pu ad n) EE=K1;simp only[ak,ap,aj,ai,aa,ac,al,dC,av,ae,aD,aH,i3,eo,JA,dt];refine⟨aM (by simp),cB (by lia) ⟨rfl,jq ih ok.2.2 k.2.2 (by lia) (by lia) (by simp;lia) ?_⟩⟩
 simp only[af,JP];rw[<- hK1];unfold iI;simp only[ap,al,ac,av,aa,dC,ae,aD,aH,i1,af,JP,JA,dt,aF];refine⟨aM (by simp),aM (by simp),aM (by simp only[bc,JC,JT];lia),?_⟩
 have:=h (some<|.tup<|ag<|bM nm (bP L many) (hr++[1]) 0 a a') (some<|.tup<|ag<|bM nm (bP L many) (hr++[0]) 0 b b') c12 c13;rw[aS]at this;exact this
theorem gz{f:List Int->Option Int}{r o:Rw}(h:aV r=false):lh nm f hr r o=(match f hr with|some k=>[.take nm k,.ifr nm [o] [r]]|none=>[r]):=by
 cases r<;>first|rfl|cases h
theorem CD{r o:Rw}(hb:aV r=false)(hL:L.length<=1000)(eo:atI (ag os) (j:Nat)=some o.d)(ha:acc.length<=100000)
  (h:Df D2 M rsD plD L nm many os acc j r.d hr (lh nm (bP L many) hr r o)):
  gy ad (Pu ad n) EE D2 [some rsD,some (.tup<|ag os),some plD,some (.lst<|L.map aw),some (.str nm),some (.int many),some (.tup<|ag acc),some (.int (j:Nat)),some r.d,some (aw hr),c10,c11,c12,c13] M:=by
 rw[gz hb]at h;unfold gy;generalize hK7:ja ad (Pu ad n) EE=K7;generalize hK8:jl ad (Pu ad n) EE=K8;simp only[aE,ao,al,ac,JA,dt,qy,F9]
 by_cases c:hr∈L
 .rw[decide_eq_true c]
  obtain⟨i,e1,e2⟩:=Ek (many:=many) c;rw[e2]at h;show K7 _ _ _;rw[<- hK7];unfold ja;generalize hK6:jz ad (Pu ad n) EE=K6;simp only[ak,ap,av,aa,dC,ac,aj,al,eE,ae,b_,gE,JA,dt];have ed:dv M (aw hr)=aw hr:=rfl;refine⟨trivial,by rw[JK];exact hL,by rw[ed];exact kT (n:=59) hr,gW (n:=59) L,?_⟩
  rw[ed,uI,e1];simp only[aF,frz];refine⟨aM (by simp),?_⟩
  simp only[af,JP];rw[<- hK6];unfold jz;simp only[ap,al,ac,av,aa,dC,ae,aD,aH,eo,af,JP,JA,dt,aF];refine⟨aM (by simp),aM (by simp),aM (by simp),aM (by simp),aM (by simp only[bc,JC,JT];lia),?_⟩
  have:=h c10 c11 c12 (some<|.tup [.str (JL "take"),.str nm,.int (many+(i:Int))]);rw[aS]at this;exact this
 .rw[decide_eq_false c]
  rw[qK c]at h;show K8 _ _ _;rw[<- hK8];unfold jl;simp only[ap,al,ac,av,aa,ae,af,JP,JA,dt,aF];refine⟨aM (by simp),aM (by simp only[bc,JC,JT];lia),?_⟩
  have:=h c10 c11 c12 c13;rw[aS]at this;exact this
end
section
variable {ad:Ad}{M:Mem}{names:List Str}{m many:Int}{n:Nat}{L:List (List Int)}{nm:Str}{r o:Rw}
theorem BV(hL:L.length<=1000)(ih:FO ad L nm names m many n){rsD:D}{pl:List Int}{os acc:List Rw}{j:Nat}{EE:DX}{D2:DEnds}{c9 c10 c11 c12 c13:Option D}(eo:atI (ag os) (j:Nat)=some o.d)(ok:cM names m many r)(k:iW r o=true)(hn:hR r<=n)(hc:cR r<=1000)(hl:pl.length+1+2*hR r<=900)(ha:acc.length<=100000)
  (h:Df D2 M rsD (aw pl) L nm many os acc j r.d (pl++[(j:Int)]) (lh nm (bP L many) (pl++[(j:Int)]) r o)):
  eM ad (Pu ad n) EE D2 [some rsD,some (.tup<|ag os),some (aw pl),some (.lst<|L.map aw),some (.str nm),some (.int many),some (.tup<|ag acc),some (.int (j:Nat)),some r.d,c9,c10,c11,c12,c13] M:=by
 have hl2:(pl++[(j:Int)]).length+2*hR r<=900:=by simp;lia
 unfold eM;generalize hK11:g8 ad (Pu ad n) EE=K11;simp only[ak,ap,al,ac,av,aa,ae,JA,dt];refine⟨aM (by simp),cB (by lia) ?_⟩
 simp only[af,JP];rw[<- hK11];unfold g8;have w1:=lN ok;have w2:=pd ok;generalize hK3:gA ad (Pu ad n) EE=K3;generalize hK10:gm ad (Pu ad n) EE=K10;have t3:eY r=true->K3 D2 [some rsD,some (.tup<|ag os),some (aw pl),some (.lst<|L.map aw),some (.str nm),some (.int many),some (.tup<|ag acc),some (.int (j:Nat)),some r.d,some (aw (pl++[(j:Int)])),c10,c11,c12,c13] M:=λea=>by
  rw[<- hK3];cases r with
  |ifr x a b=>
   cases o with
   |ifr y a' b'=>exact IU ih eo ok k hn hc hl2 ha h
   |_=>cases k
  |_=>cases ea
 have t10:eY r=false->K10 D2 [some rsD,some (.tup<|ag os),some (aw pl),some (.lst<|L.map aw),some (.str nm),some (.int many),some (.tup<|ag acc),some (.int (j:Nat)),some r.d,some (aw (pl++[(j:Int)])),c10,c11,c12,c13] M:=λe=>by
  rw[<- hK10];unfold gm;generalize hK5:gq ad (Pu ad n) EE=K5;generalize hK9:gy ad (Pu ad n) EE=K9;have t5:lq r=true->K5 D2 [some rsD,some (.tup<|ag os),some (aw pl),some (.lst<|L.map aw),some (.str nm),some (.int many),some (.tup<|ag acc),some (.int (j:Nat)),some r.d,some (aw (pl++[(j:Int)])),c10,c11,c12,c13] M:=λea=>by
   rw[<- hK5];cases r with
   |again x a=>
    cases o with
    |again y a'=>exact IJ ih eo ok k hn hc hl2 ha h
    |_=>cases k
   |_=>cases ea
  have t9:lq r=false->K9 D2 [some rsD,some (.tup<|ag os),some (aw pl),some (.lst<|L.map aw),some (.str nm),some (.int many),some (.tup<|ag acc),some (.int (j:Nat)),some r.d,some (aw (pl++[(j:Int)])),c10,c11,c12,c13] M:=λea=>by
   rw[<- hK9];exact CD (by cases r<;>first|rfl|(cases e;done)|(cases ea;done)) hL eo ha h
  rw[fA]at t5 t9 ⊢;simp only[aE,ao,al,ac,dC,aD,aH,atI_0,cH,dv,aG,bN,JA,dt];rw[w2];refine⟨trivial,trivial,?_⟩;cases c:lq r with
  |true=>exact t5 c
  |false=>exact t9 c
 rw[fA]at t3 t10 ⊢;simp only[aE,ao,al,ac,dC,aD,aH,atI_0,cH,dv,aG,bN,JA,dt];rw[w1];refine⟨trivial,trivial,?_⟩;cases c:eY r with
 |true=>exact t3 c
 |false=>exact t10 c
theorem jF{f:List Int->Option Int}{pl:List Int}:∀{a a' b b':List Rw} {j:Nat},a.length=a'.length->bM nm f pl j (a++b) (a'++b')=bM nm f pl j a a'++bM nm f pl (j+a.length) b b'
 |[],[],b,b',j,_=>by simp[bM]
 |[],_::_,_,_,_,h=>by simp at h
 |_::_,[],_,_,_,h=>by simp at h
 |r::a,o::a',b,b',j,h=>by
  simp only[Ky,bM,Ko,JC];rw[jF (a:=a) (a':=a') (by simpa using h)]
  rw[show j+1+a.length=j+(a.length+1) by lia]
theorem vg{f:List Int->Option Int}{pl:List Int}(r o:Rw):(lh nm f pl r o).length<=2:=by
 cases r<;>cases o<;>simp only[lh]<;>first|(split<;>simp)|simp
theorem jW{f:List Int->Option Int}{pl:List Int}:∀(a b:List Rw) (j:Nat),(bM nm f pl j a b).length<=2*a.length
 |[],_,_=>by simp[bM]
 |r::a,[],_=>by simp[bM]
 |r::a,o::b,j=>by
  have h1:=vg (nm:=nm) (f:=f) (pl:=pl++[(j:Int)]) r o;have h2:=jW (f:=f) (pl:=pl) a b (j+1);simp only[bM,JD,JC];lia
theorem BN(hL:L.length<=1000)(ih:FO ad L nm names m many n):FO ad L nm names m many (n+1):=by
 intro rs os pl M Q E ok k hn hc hl h;rw[HX (n:=n)];unfold sY k8;generalize hK:eM ad (Pu ad n) (aJ E)=K;simp only[ak,ap,av,ae];refine⟨aM (by simp),?_⟩
 simp only[af,JP,bW,eJ,aa,ac,ae,aH,bF,cG,JA,dt]
 refine bt (λxs Y N=>N=M/\∃(us us' zs zs':List Rw) (c7 c8 c9 c10 c11 c12 c13:Option D),rs=us++zs/\os=us'++zs'/\us.length=us'.length/\xs=bJ us.length (ag zs)/\Y=[some (.tup<|ag rs),some (.tup<|ag os),some (aw pl),some (.lst<|L.map aw),some (.str nm),some (.int many),some (.tup<|ag<|bM nm (bP L many) pl 0 us us'),c7,c8,c9,c10,c11,c12,c13]) (λ_ _ _ _=>aA) ?_ ?_ _ _ _
  ⟨rfl,[],[],rs,os,_,_,_,_,_,_,_,rfl,rfl,rfl,cG _,rfl⟩
 .rintro Y N ⟨rfl,us,us',zs,zs',c7,c8,c9,c10,c11,c12,c13,e1,e2,el,ex,rfl⟩
  have ez:zs=[]:=by cases zs with|nil=>rfl|cons _ _=>simp[ag,bJ]at ex
  have hlen:=dE k;subst ez;rw[JR]at e1;subst e1;have ez':zs'=[]:=by
   rw[e2,JD]at hlen;exact Ms (by lia)
  subst ez';rw[JR]at e2;subst e2;simp only[ax,ac,JA,dt];exact aq h
 .rintro x xs Y N ⟨rfl,us,us',zs,zs',c7,c8,c9,c10,c11,c12,c13,e1,e2,el,ex,rfl⟩ D' hnx _ _ _
  cases zs with
  |nil=>simp[ag,bJ]at ex
  |cons z zs=>
   simp only[ag,bJ,Kc]at ex;obtain⟨rfl,rfl⟩:=ex;have l1:=ff (rs:=rs);subst e1;subst e2;rw[gj el]at k;rw[OkRs_append]at ok;cases zs' with
   |nil=>simp[bv]at k
   |cons z' zs'=>
    simp only[bv,JU]at k;simp only[bd,bq]at hn hl;simp only[aU,cRs]at hc;simp only[aU,cRs,JD,JC]at l1;simp only[bX,aK,bY,af,JP,JC,JT];refine⟨trivial,?_⟩;rw[<- hK];have wl:=jW (nm:=nm) (f:=bP L many) (pl:=pl) us us' 0;refine BV hL ih (o:=z') (by rw[el];exact kH) ok.2.1 k.2.1 (by lia) (by lia) (by lia) (by lia) λc10 c11 c12 c13=>hnx _ _ ?_
    have ew:bM nm (bP L many) pl 0 (us++[z]) (us'++[z'])=bM nm (bP L many) pl 0 us us'++lh nm (bP L many) (pl++[(us.length:Int)]) z z':=by
     rw[jF el];simp only[bM,JR,Mn]
    exact⟨rfl,us++[z],us'++[z'],zs,zs',some (.int (us.length:Nat)),some z.d,some (aw (pl++[(us.length:Int)])),c10,c11,c12,c13,by simp,by simp,by simp[el],by simp,by rw[ew]⟩
theorem yW(hL:L.length<=1000):∀n:Nat,FO ad L nm names m many n
 |0=>λ_ _ _ _ _ _ _ _ h=>by lia
 |n+1=>BN hL (yW hL n)
end
section
variable {ad:Ad}{M:Mem}{Q:DK}{E:DX}{names:List Str}{m many:Int}{rs os:List Rw}{mk:Str}
def wJ(names:List Str)(many:Int)(rs os:List Rw):List Rw:=bM (cP names) (bP (lc rs os) many) [] 0 rs os
theorem wb(rs os:List Rw)(hc:cRs rs<=1000):(lc rs os).length<=1000:=by
 unfold lc;rw[(dB fK _).length_eq];exact Ki (cg rs os [] 0) hc
theorem lr(hn:names.length<=12)(ok:aO names m many rs)(k:bv rs os=true)(hh:bq rs<=10)(hc:cRs rs<=1000)(h:Q (bj m (many+((lc rs os).length:Int)) (names++[cP names]) (wJ names many rs os) mk) M):
  tV ad [bj m many names rs mk,bj m many names os mk,.lst (y0 rs os)] M Q E:=by
 have a0:∀r:List Rw,atI [D.int m,.tup (names.map D.str),.int many,.tup (ag r),.str mk] 0=some (.int m):=λr=>by rw[atI_0];rfl
 have a1:∀r:List Rw,atI [D.int m,.tup (names.map D.str),.int many,.tup (ag r),.str mk] 1=some (.tup<|names.map D.str):=λr=>by rw[atI_1];rfl
 have a2:∀r:List Rw,atI [D.int m,.tup (names.map D.str),.int many,.tup (ag r),.str mk] 2=some (.int many):=λr=>by rw[atI_2];rfl
 have a3:∀r:List Rw,atI [D.int m,.tup (names.map D.str),.int many,.tup (ag r),.str mk] 3=some (.tup<|ag r):=λr=>by rw[atI_3];rfl
 have a4:∀r:List Rw,atI [D.int m,.tup (names.map D.str),.int many,.tup (ag r),.str mk] 4=some (.str mk):=λr=>by rw[atI_4];rfl
 rw[IR (n:=0)];unfold w6;generalize hK2:iM ad (aJ E)=K2;simp only[bj,ak,ap,aj,ai,aa,ac,al,dC,ae,aD,aH,a1,JA,dt];refine⟨rfl,b6 (λ_ _ q=>jV hn q) ?_⟩;simp only[frz,af,JP];rw[<- hK2];unfold iM;generalize hK1:jx ad (aJ E)=K1;simp only[ak,ap,aj,ai,aa,ac,al,dC,ae,av,aD,aH,a2,a3,JA,dt];refine⟨aM (by simp),rfl,jq (pl:=[]) (L:=lc rs os) (yW (wb rs os hc) 24) ok k (by lia) hc (by simp;lia) ?_⟩
 simp only[af,JP];rw[<- hK1];unfold jx;simp only[ax,av,aa,al,ac,dC,ae,br,cq,aD,aH,a0,a1,a2,a4,aF,JA,dt];refine⟨aM (by simp),aM (by simp only[JK,JC,JT];lia),aM (by simp),?_⟩
 have eu:(y0 rs os).length=(lc rs os).length:=by unfold y0 lc;rw[JK]
 rw[eu];have:=aq (Q:=Q) h;unfold bj wJ at this;rw[LL]at this;exact this
end
def kI(p:List Int):List bw:=p.map MZ
theorem qF:∀{a b:List Int},kI a=kI b->a=b
 |[],[],_=>rfl
 |[],_::_,h=>by cases h
 |_::_,[],h=>by cases h
 |x::a,y::b,h=>by
  simp only[kI,JO,Kc]at h;rw[Sum.inl.inj h.1,qF h.2]
def qx(many:Int):Nat->List (List Int)->List (List bw×D)
 |_,[]=>[]
 |i,p::L=>(kI p,.int (many+(i:Int)))::qx many (i+1) L
def li(many:Int):Nat->List (List Int)->List D
 |_,[]=>[]
 |i,p::L=>.tup [aw p,.int (many+(i:Int))]::li many (i+1) L
theorem jK(p:List Int):At (aw p)=some (kI p):=by
 show hZ (p.map D.int)=some (p.map MZ)
 induction p with
 |nil=>rfl
 |cons a p ih=>simp only[JO,hZ,pA,ih]
theorem ug{many:Int}:∀(L:List (List Int)) (i:Nat),w_ (li many i L)=some (qx many i L)
 |[],_=>rfl
 |p::L,i=>by simp only[li,qx,w_,jK,ug L]
theorem nR{many:Int}:∀(L:List (List Int)) (i:Nat),(qx many i L).length=L.length
 |[],_=>rfl
 |p::L,i=>by simp only[qx,JC,nR L]
theorem lZ{many:Int}{p:List Int}:∀(L:List (List Int)) (i:Nat),li many i (L++[p])=li many i L++[.tup [aw p,.int (many+((i+L.length:Nat):Int))]]
 |[],i=>by simp[li]
 |q::L,i=>by
  simp only[Ky,li,lZ L,JC];rw[show i+1+L.length=i+(L.length+1) by lia]
theorem kj{many:Int}:∀(L:List (List Int)) (i:Nat),(li many i L).length=L.length
 |[],_=>rfl
 |p::L,i=>by simp only[li,JC,kj L]
theorem oG{many:Int}:∀(L:List (List Int)) (i:Nat) (acc:List (List bw×D)),L.Nodup->(∀p∈L,∀kv∈acc,kv.1≠kI p)->(qx many i L).foldl (λa p=>lm a p.1 p.2) acc=acc++qx many i L
 |[],_,acc,_,_=>by simp[qx]
 |p::L,i,acc,nd,h=>by
  rw[Ma]at nd;have e:lm acc (kI p) (.int (many+(i:Int)))=acc++[(kI p,.int (many+(i:Int)))]:=by
   unfold lm;rw[if_neg];intro z;obtain⟨kv,h1,h2⟩:=List.any_eq_true.mp z;exact h p (by simp) kv h1 (of_decide_eq_true h2)
  simp only[qx,Lf,e];rw[oG L (i+1) _ nd.2 λq hq kv hkv=>?_,Ko]
  .rfl
  .rcases JW.mp hkv with z|z
   .exact h q (by simp[hq]) kv z
   .simp only[Ks]at z
    subst z;exact λe=>nd.1 (qF e▸hq)
theorem tU{many:Int}{pl:List Int}:∀(L:List (List Int)) (i:Nat),mW (qx many i L) (kI pl)=(L.findIdx? (·==pl)).map λj=>.int (many+((i+j:Nat):Int))
 |[],_=>rfl
 |p::L,i=>by
  have ih:=tU (many:=many) (pl:=pl) L (i+1);unfold mW at ih ⊢;rw[NG];simp only[qx,LM]
  by_cases e:p=pl
  .subst e
   simp
  .have e1:decide (kI p=kI pl)=false:=decide_eq_false λz=>e (qF z)
   have e2:(p==pl)=false:=by simpa using e
   rw[e1,e2,ih];cases L.findIdx? (·==pl) with
   |none=>rfl
   |some j=>simp only[Option.map_some,JQ,if_false,show i+1+j=i+(j+1) by lia]
theorem zo{many:Int}{pl:List Int}{L:List (List Int)}:mW (qx many 0 L) (kI pl)=(bP L many pl).map D.int:=by
 rw[tU];unfold bP;cases L.findIdx? (·==pl)<;>simp
def wF(nm:Str)(p:Addr):List (Str×D):=[("name",.str nm),("pieces",.ref p)]
theorem Ic{f:Str}{v:D}{r:List (Str×D)}:KU f ((f,v)::r)=some v:=by simp[KU]
theorem lk_n{f g:Str}{v:D}{r:List (Str×D)}(h:f≠g):KU f ((g,v)::r)=KU f r:=by
 have:(f==g)=false:=by simpa using h
 simp[KU,this]
theorem Hw{nm:Str}{p:Addr}:KU (JL "name") (wF nm p)=some (.str nm):=Ic
theorem G3{nm:Str}{p:Addr}:KU (JL "pieces") (wF nm p)=some (.ref p):=by unfold wF;rw[lk_n (by decide +kernel),Ic]
structure WvM(C:Addr)(wv p:Addr)(nm:Str)(L:List (List Int))(many:Int)(M:Mem):Prop where
 w:M wv=some (.ins C<|wF nm p)
 d:M p=some (.dT<|qx many 0 L)
section
variable {ad:Ad}{M N:Mem}{Q:DK}{E:DX}{names:List Str}{m many:Int}{rs os:List Rw}{mk:Str}{a:Addr}
theorem wY(hn:names.length<=12)(ok:aO names m many rs)(ok2:aO names m many os)(k:bv rs os=true)(hh:bq rs<=10)(hc:cRs rs<=63)(hM:M a=some (.ins ad.C_Weave []))
  (h:∀p M',WvM ad.C_Weave a p (cP names) (lc rs os) many M'->(∀b o,b≠a->M b=some o->M' b=some o)->Q .non M'):CJ ad [.ref a,bj m many names rs mk,bj m many names os mk] M Q E:=by
 have a1:∀r:List Rw,atI [D.int m,.tup (names.map D.str),.int many,.tup (ag r),.str mk] 1=some (.tup<|names.map D.str):=λr=>by rw[atI_1];rfl
 have a2:∀r:List Rw,atI [D.int m,.tup (names.map D.str),.int many,.tup (ag r),.str mk] 2=some (.int many):=λr=>by rw[atI_2];rfl
 rw[u_q3 (n:=0)];unfold Ch;generalize hK:nz ad (aJ E)=K;simp only[ak,qd,aj,ai,aa,al,ac,dC,ae,aD,bj,aH,a1,JA,dt];refine⟨rfl,b6 (λ_ _ q=>nZ hn q) ?_⟩;simp only[frz,hM];refine⟨trivial,by simp,?_⟩
 rw[<- hK];unfold nz;generalize hM1:M.upd a (.ins ad.C_Weave<|lM "name" (.str<|cP names) [])=M1;have hM1a:M1 a=some (.ins ad.C_Weave [("name",.str (cP names))]):=by rw[<- hM1,Mem.upd_same];rfl
 simp only[qd,br,aa,aj,ae,aN,eJ,ai,ac,JA,dt];refine⟨rfl,au λQ' E' hq hE=>p8 ok ok2 hh hc (λ_ q hq1=>hq _ _ (fv hq1 ?_)) λz=>(by rw[k]at z;cases z)⟩
 simp only[aH,bF,cG];have hpl:=wb rs os (by lia)
 have enu:bJ 0 (y0 rs os)=bJ 0 ((lc rs os).map aw):=rfl;rw[enu];refine bh (λys acc Y M'=>∃(us zs:List (List Int)) (c0 c1:Option D),lc rs os=us++zs/\ys=bJ us.length (zs.map aw)/\acc=li many 0 us/\Y=[c0,c1,some (bj m many names rs mk)]/\M1=M') (λ_ _ _ _ _=>aA) ?_ ?_ ?_ _ _ _ _ ⟨[],lc rs os,none,none,rfl,rfl,rfl,rfl,rfl⟩
 .rintro acc Y M' ⟨us,zs,c0,c1,e1,e2,rfl,rfl,rfl⟩ p hp
  have ez:zs=[]:=by cases zs with|nil=>rfl|cons _ _=>simp[bJ]at e2
  subst ez;rw[JR]at e1;refine fv hp ?_;have ef:(qx many 0 us).foldl (λa p=>lm a p.1 p.2) []=qx many 0 us:=by
   rw[oG us 0 [] (e1▸Fv rs os) λ_ _ _ h=>by cases h]
   rfl
  simp only[mE,GK,cz,ug,ef,nR];refine⟨trivial,by rw[<- e1];lia,λp2 hp2=>?_⟩
  have hne:a≠p2:=λz=>by rw[<- z,hM1a]at hp2;cases hp2
  rw[ah hne,hM1a];refine⟨rfl,by simp,aq (h p2 _ ⟨?_,?_⟩ λb o hb e=>?_)⟩
  .rw[Mem.upd_same]
   rfl
  .rw[ah (Kw hne),Mem.upd_same,e1]
  .have e1:M1 b=some o:=by rw[<- hM1,ah hb];exact e
   rw[ah hb,ah (λz=>by rw[z,hp2]at e1;cases e1)]
   exact e1
 .rintro y ys acc Y M' ⟨us,zs,c0,c1,e1,e2,rfl,rfl,rfl⟩ N hN1 hN2
  cases zs with
  |nil=>simp[bJ]at e2
  |cons z zs=>
   simp only[JO,bJ,Kc]at e2;obtain⟨rfl,rfl⟩:=e2;have hl:=congrArg Km e1;simp only[JD,JC]at hl;simp only[bX,aK,bY,af,JP,cF,av,aa,aj,al,ac,dC,ae,aD,bj,aH,a2,aF,frz,JC,JT,JA,dt,if_true];refine⟨trivial,aM (by simp),hN1 _ _ _ (gC<|by rw[kj];lia) ⟨us++[z],zs,_,_,by rw[e1];simp,by simp,?_,rfl,rfl⟩⟩
   rw[lZ];simp
 .rintro y ys acc Y M' ⟨us,zs,c0,c1,e1,e2,rfl,rfl,rfl⟩
  have hl:=congrArg Km e1;simp only[JD]at hl;rw[kj];exact gC (by lia)
end
def PVs(ad:Ad)(wv p:Addr)(nm:Str)(L:List (List Int))(names:List Str)(m many:Int)(n:Nat):Prop:=∀(rs os:List Rw) (pl:List Int) (M:Mem) (Q:DK) (E:DX),aO names m many rs->aO names m many os->bv rs os=true->nt L pl 0 rs os->2*bq rs+2<=n->cRs rs<=1000->pl.length+2*bq rs+1<=900->WvM ad.C_Weave wv p nm L many M->
 Q (.tup<|ag<|bM nm (bP L many) pl 0 rs os) M->PB ad n [.ref wv,.tup (ag rs),.tup (ag os),aw pl] M Q E
def PVr(ad:Ad)(wv p:Addr)(nm:Str)(L:List (List Int))(names:List Str)(m many:Int)(n:Nat):Prop:=∀(r o:Rw) (pl:List Int) (M:Mem) (Q:DK) (E:DX),cM names m many r->cM names m many o->iW r o=true->nbR L pl r o->2*hR r+1<=n->cR r<=1000->pl.length+2*hR r<=900->WvM ad.C_Weave wv p nm L many M->
 (∀q,M q=none->Q (.ref q) (M.upd q<|.lst<|ag<|lh nm (bP L many) pl r o))->PC ad n [.ref wv,r.d,o.d,aw pl] M Q E
theorem WvM.upd{C wv p q:Addr}{nm:Str}{L:List (List Int)}{many:Int}{M:Mem}{x:MO}(w:WvM C wv p nm L many M)(hq:q≠wv/\q≠p):WvM C wv p nm L many (M.upd q x):=
 ⟨by rw[ah (Kw hq.1)];exact w.w,by rw[ah (Kw hq.2)];exact w.d⟩
theorem WvM.new{C wv p q:Addr}{nm:Str}{L:List (List Int)}{many:Int}{M:Mem}(w:WvM C wv p nm L many M)(hq:M q=none):q≠wv/\q≠p:=
 ⟨λz=>(by rw[z,w.w]at hq;cases hq),λz=>(by rw[z,w.d]at hq;cases hq)⟩
section
variable {ad:Ad}{M N:Mem}{Q:DK}{E:DX}{r o:Rw}{names:List Str}{m many:Int}{n:Nat}{L:List (List Int)}{nm:Str}{wv p:Addr}{pl:List Int}
theorem GB(h:M p=some (.dT<|qx many 0 L)):iB M (aw pl) (.ref p)=some (bP L many pl).isSome:=by
 simp only[iB,aH,h,xu,jK,zo,MF]
theorem vV{q q2:Addr}{x y:MO}{d:D}(hq:M q=none)(hq2:(M.upd q x) q2=none)(h:∀q,M q=none->Q d (M.upd q2 y)):drp Q d ((M.upd q x).upd q2 y):=by
 have ne:q2≠q:=λz=>by rw[z,Mem.upd_same]at hq2;cases hq2
 refine⟨M.upd q2 y,λb ob e=>?_,h q hq⟩
 by_cases c:b=q2
 .subst c
  rw[Mem.upd_same]at e ⊢;exact e
 .rw[ah c]at e ⊢
  rw[ah (λz=>by rw[z,hq]at e;cases e)]
  exact e
theorem nG(ih:PVs ad wv p nm L names m many n){rd od:D}{a a':List Rw}{i:Int}{q:Addr}{acc:List D}{EE:DX}{D2:DEnds}(ok:aO names m many a)(ok2:aO names m many a')(k:bv a a'=true)(nb:nt L (pl++[i]) 0 a a')(hn:2*bq a+2<=n)(hc:cRs a<=1000)(hl:pl.length+1+2*bq a+1<=900)(ha:acc.length<=1000)(w:WvM ad.C_Weave wv p nm L many N)(hq:N q=some (.lst acc))
  (h:D2.nx [some (.ref wv),some rd,some od,some (aw pl),some (.ref q),some (.int i),some (.tup<|ag a),some (.tup<|ag a')] (N.upd q<|.lst (acc++[.tup (ag<|bM nm (bP L many) (pl++[i]) 0 a a')]))):
  g9 ad (PB ad n) (PC ad n) EE D2 [some (.ref wv),some rd,some od,some (aw pl),some (.ref q),some (.int i),some (.tup<|ag a),some (.tup<|ag a')] N:=by
 unfold g9;simp only[bD,eE,aj,ai,aa,ac,al,av,ae,b_,hq,JA,dt];refine⟨trivial,aM (by simp),cB (by lia) ⟨rfl,au λQ2 E2 hq2 _=>ih a a' _ N Q2 E2 ok ok2 k nb hn hc (by simp;lia) w (hq2 _ _ ?_)⟩⟩
 simp only[frz,bo,hq];exact⟨gC (by lia),h⟩
theorem CH(ih:PVs ad wv p nm L names m many n):PVr ad wv p nm L names m many (n+1):=by
 intro r o pl M Q E ok ok2 k nb hn hc hl w h;have e2:∀(a b:D) (l:List D),df (a::b::l) none (some 2)=[a,b]:=λa b l=>cN (k:=2);rw[Jn (n:=n)];unfold uB;generalize hK1:iK ad (PB ad n) (PC ad n) (aJ E)=K1;generalize hK4:jc ad (PB ad n) (PC ad n) (aJ E)=K4;simp only[ak,aE,ao,al,ac,lw,w.w,G3,qy,GB w.d,JA,dt];refine⟨trivial,?_⟩
 by_cases c:pl∈L
 .have hb:aV r=false:=by
   cases r with
   |ifr x a b=>
    cases o with
    |ifr y a' b'=>exact absurd c nb.1
    |_=>cases k
   |again x a=>
    cases o with
    |again y a'=>exact absurd c nb.1
    |_=>cases k
   |_=>rfl
  obtain⟨i,_,ei⟩:=Ek (many:=many) c;rw[gz hb,ei]at h;rw[ei];show K1 _ _ M;rw[<- hK1];unfold iK;simp only[ax,aX,av,aa,dC,lw,ac,al,w.w,Hw,G3,ae,aD,aH,w.d,xu,jK,zo,ei,Option.map_some,JA,dt];exact⟨trivial,trivial,aM (by simp),trivial,aM (by simp),aM (by simp),aM (by simp),aM (by simp),λq hq=>aq (h q hq)⟩
 .rw[qK c,if_neg (by simp)]
  simp only[aC,ak,ap];refine⟨aM (by simp),λq hq=>?_⟩
  have nq:=w.new hq;have w1:∀x,WvM ad.C_Weave wv p nm L many (M.upd q x):=λx=>w.upd nq;simp only[af,JP];rw[<- hK4];unfold jc;generalize hK2:g9 ad (PB ad n) (PC ad n) (aJ E)=K2;generalize hK3:f_ ad (PB ad n) (PC ad n) (aJ E)=K3;simp only[ak,bW,pe,aa,aj,ai,ac,ae,JA,dt];refine⟨rfl,fE ok ⟨rfl,bQ ok ⟨rfl,bQ ok2 ?_⟩⟩⟩;simp only[aH,bF,JR];have fin:aV r=true->∀(z:Rw) (xs:List D) (c5 c6 c7:Option D),xs.length<=2->1<=xs.length->z.d=.tup ([.str (fD r),.str (r_ r)]++xs)->lh nm (bP L many) pl r o=[z]->K3 { nx:=λ_ M'=>drp Q .non M',rt:=drp Q } [some (.ref wv),some r.d,some o.d,some (aw pl),some (.ref q),c5,c6,c7] (M.upd q<|.lst xs):=λ_ z xs c5 c6 c7 hx hx1 ez ew=>by
   rw[ew]at h;rw[<- hK3];unfold f_;have ht:xs.isEmpty=false:=by cases xs with|nil=>simp at hx1|cons _ _=>rfl
   rw[fA r];simp only[ax,zN,bR,ac,yD,Mem.upd_same,ht,MB,aX,aa,al,aj,d_,aB,ba,dC,sD,e2,frz,br,ae,bV,cz,aF,if_true,JA,dt];refine⟨aM (by simp;lia),aM (by simp),λq2 hq2=>vV hq hq2 λ_ _=>?_⟩
   have hq2':M q2=none:=by
    rw[ah (λy=>by rw[y,Mem.upd_same]at hq2;cases hq2)]at hq2
    exact hq2
   have:=h q2 hq2';simp only[ag,ez]at this;exact this
  have leaf:aV r=false->cJ (Ef r) (Aq r) (Aq o)=[]/\K3 { nx:=λ_ M'=>drp Q .non M',rt:=drp Q } [some (.ref wv),some r.d,some o.d,some (aw pl),some (.ref q),none,none,none] (M.upd q<|.lst []):=λhb=>by
   refine⟨?_,?_⟩
   .have:Aq r=[]:=by cases r<;>first|rfl|cases hb
    rw[this];unfold Ef
    split<;>rfl
   .rw[gz hb,qK c]at h
    rw[<- hK3];unfold f_;simp only[ax,zN,bR,ac,yD,Mem.upd_same,List.isEmpty_nil,Kz,JQ,if_false,aX,aa,ae,JA,dt];refine⟨aM (by simp),λq2 hq2=>vV hq hq2 λ_ _=>?_⟩
    have hq2':M q2=none:=by
     rw[ah (λy=>by rw[y,Mem.upd_same]at hq2;cases hq2)]at hq2
     exact hq2
    exact h q2 hq2'
  cases r with
  |ifr x a b=>
   cases o with
   |ifr y a' b'=>
    simp only[iW,JU]at k;simp only[hR,cR]at hn hc hl;simp only[Aq,Ef,eY,if_true,cJ];refine⟨aA,?_⟩;simp only[bX,aK,bY,af,JP,JC,JT];refine⟨trivial,?_⟩;rw[<- hK2];refine nG ih (acc:=[]) ok.2.1 ok2.2.1 k.2.1 nb.2.1 (by lia) (by lia) (by lia) (by simp) (w1 _) Mem.upd_same ⟨aA,?_⟩
    simp only[bX,aK,bY,af,JP,JC,JT];rw[Mem.upd_upd];refine⟨trivial,nG ih ok.2.2 ok2.2.2 k.2.2 nb.2.2 (by lia) (by lia) (by lia) (by simp) (w1 _) Mem.upd_same ⟨aA,?_⟩⟩
    rw[Mem.upd_upd];exact fin rfl (.ifr x _ _) _ _ _ _ (by simp) (by simp) rfl rfl
   |_=>cases k
  |again x a=>
   cases o with
   |again y a'=>
    simp only[iW,JU]at k;simp only[hR,cR]at hn hc hl;simp only[Aq,Ef,eY,JQ,if_false,cJ];refine⟨aA,?_⟩;simp only[bX,aK,bY,af,JP,JC,JT];refine⟨trivial,?_⟩;rw[<- hK2];refine nG ih (acc:=[]) ok.2 ok2.2 k.2 nb.2 (by lia) (by lia) (by lia) (by simp) (w1 _) Mem.upd_same ⟨aA,?_⟩
    rw[Mem.upd_upd];exact fin rfl (.again x _) _ _ _ _ (by simp) (by simp) rfl rfl
   |_=>cases k
  |_=>
   obtain⟨z1,z2⟩:=leaf rfl;rw[z1];exact⟨aA,z2⟩
theorem Ay(ih:PVr ad wv p nm L names m many n):PVs ad wv p nm L names m many (n+1):=by
 intro rs os pl M Q E ok ok2 k nb hn hc hl w h;rw[Ik (n:=n)];unfold tj ou;generalize hK:jg ad (PB ad n) (PC ad n) (aJ E)=K;simp only[ak,ap];refine⟨aM (by simp),λq hq=>?_⟩
 have nq:=w.new hq;simp only[af,JP,bW,eJ,aa,ac,ae,aH,bF,cG,JA,dt]
 refine bt (λxs Y N=>∃(us us' zs zs':List Rw) (c5 c6:Option D),N=M.upd q (.lst<|ag<|bM nm (bP L many) pl 0 us us')/\rs=us++zs/\os=us'++zs'/\us.length=us'.length/\xs=bJ us.length (ag zs)/\nt L pl us.length zs zs'/\Y=[some (.ref wv),some (.tup<|ag rs),some (.tup<|ag os),some (aw pl),some (.ref q),c5,c6]) (λ_ _ _ _=>aA) ?_ ?_ _ _ _
  ⟨[],[],rs,os,_,_,rfl,rfl,rfl,rfl,cG _,nb,rfl⟩
 .rintro Y N ⟨us,us',zs,zs',c5,c6,rfl,e1,e2,el,ex,_,rfl⟩
  have ez:zs=[]:=by cases zs with|nil=>rfl|cons _ _=>simp[ag,bJ]at ex
  have hlen:=dE k;subst ez;rw[JR]at e1;subst e1;have ez':zs'=[]:=by
   rw[e2,JD]at hlen;exact Ms (by lia)
  subst ez';rw[JR]at e2;subst e2;simp only[ax,br,aa,ac,ae,bV,cz,Mem.upd_same,JA,dt];exact gF hq h
 .rintro x xs Y N ⟨us,us',zs,zs',c5,c6,rfl,e1,e2,el,ex,nb',rfl⟩ D' hnx _ _ _
  cases zs with
  |nil=>simp[ag,bJ]at ex
  |cons z zs=>
   simp only[ag,bJ,Kc]at ex;obtain⟨rfl,rfl⟩:=ex;have l1:=ff (rs:=rs);subst e1;subst e2;rw[gj el]at k;rw[OkRs_append]at ok ok2;cases zs' with
   |nil=>simp[bv]at k
   |cons z' zs'=>
    simp only[bv,JU]at k;simp only[bd,bq]at hn hl;simp only[aU,cRs]at hc;simp only[aU,cRs,JD,JC]at l1;have wl:=jW (nm:=nm) (f:=bP L many) (pl:=pl) us us' 0;have wl2:=vg (nm:=nm) (f:=bP L many) (pl:=pl++[(us.length:Int)]) z z';have eo:atI (ag (us'++z'::zs')) (us.length:Nat)=some z'.d:=by rw[el];exact kH
    simp only[bX,aK,bY,af,JP,JC,JT];refine⟨trivial,?_⟩;rw[<- hK];unfold jg;simp only[bD,eE,aj,ai,aa,ac,al,av,ae,aD,aH,eo,b_,Mem.upd_same,JA,dt];refine⟨trivial,aM (by simp),cB (by lia) ⟨rfl,au λQ2 E2 hq2 _=>ih z z' _ _ Q2 E2 ok.2.1 ok2.2.1 k.2.1 nb'.1 (by lia) (by lia) (by simp;lia) (w.upd nq) λq2 hp2=>hq2 _ _ (fv hp2 ?_)⟩⟩
    simp only[cC,Mem.upd_same,cz,Mem.upd_upd];refine⟨aM (by simp only[bc];lia),hnx _ _ ⟨us++[z],us'++[z'],zs,zs',_,_,?_,by simp,by simp,by simp[el],by simp,by simpa using nb'.2,rfl⟩⟩
    have ew:bM nm (bP L many) pl 0 (us++[z]) (us'++[z'])=bM nm (bP L many) pl 0 us us'++lh nm (bP L many) (pl++[(us.length:Int)]) z z':=by
     rw[jF el];simp only[bM,JR,Mn]
    rw[ew,aS]
theorem rM:∀n:Nat,PVs ad wv p nm L names m many n/\PVr ad wv p nm L names m many n
 |0=>⟨λ_ _ _ _ _ _ _ _ _ _ h=>by lia,λ_ _ _ _ _ _ _ _ _ _ h=>by lia⟩
 |n+1=>⟨Ay (rM n).2,CH (rM n).1⟩
end
section
variable {names:List Str}{m many:Int}
mutual
theorem Fk:∀r:Rw,cM names m many r->HZ r
 |.ifr x a b,h=>⟨fX a h.2.1,fX b h.2.2⟩
 |.again x a,h=>fX a h.2
 |.put x k,h=>trivial
 |.take x k,h=>trivial
 |.pick x k,h=>trivial
 |.two w x y z,h=>h.1
theorem fX:∀a:List Rw,aO names m many a->iy a
 |[],_=>trivial
 |r::a,o=>⟨Fk r o.1,fX a o.2⟩
end
mutual
theorem Iv:∀(r:Rw) (d:Nat),d<=4->cM names m many r->(rV names m many d r=true↔hR r+d<=4)
 |.ifr x a b,d,hd,o=>by
  have h1:=λh=>kO a (d+1) h o.2.1;have h2:=λh=>kO b (d+1) h o.2.2;simp only[rV,iq,hR,JU,decide_eq_true_eq,o.1,and_true];refine⟨λz=>?_,λz=>?_⟩
  .have z1:=(h1<|by lia).mp z.2.1
   have z2:=(h2<|by lia).mp z.2.2
   lia
  .exact⟨by lia,(h1<|by lia).mpr (by lia),(h2<|by lia).mpr<|by lia⟩
 |.again x a,d,hd,o=>by
  have h1:=λh=>kO a (d+1) h o.2;simp only[rV,iq,hR,JU,decide_eq_true_eq,o.1,and_true];refine⟨λz=>?_,λz=>?_⟩
  .have z1:=(h1<|by lia).mp z.2
   lia
  .exact⟨by lia,(h1<|by lia).mpr<|by lia⟩
 |.put x k,d,hd,o=>by
  have:=o.2.2;simp only[rV,iq,hR,JU,decide_eq_true_eq,o.1,o.2.1,true_and];lia
 |.take x k,d,hd,o=>by
  have:=o.2.2;simp only[rV,iq,hR,JU,decide_eq_true_eq,o.1,o.2.1,true_and];lia
 |.pick x k,d,hd,o=>by
  have:=o.2.2;simp only[rV,iq,hR,JU,decide_eq_true_eq,o.1,o.2.1,and_true];lia
 |.two w x y z,d,hd,o=>by
  simp[rV,iq,hR,o.2.1,o.2.2.1,o.2.2.2,hd]
theorem kO:∀(a:List Rw) (d:Nat),d<=4->aO names m many a->(mI names m many d a=true↔bq a+d<=4)
 |[],d,hd,_=>by simp only[mI,bq,true_iff];lia
 |r::a,d,hd,o=>by
  rw[mI,JU,Iv r d hd o.1,kO a d hd o.2];simp only[bq];lia
end
theorem qm:∀(ss l:List Str),(l++ss).Nodup->(hV l ss).length=l.length+ss.length
 |[],l,_=>by simp[hV]
 |x::ss,l,hn=>by
  unfold hV;have hx:x∉l:=λhx=>(Mh.mp hn).2.2 x hx x (by simp) rfl
  rw[if_neg hx,qm ss (l++[x]) (by simpa using hn)]
  simp;lia
theorem jd{x:Str}(h:xI x):Let x/\z_ x=true:=by
 obtain⟨n,c,h1,h2,h3,h4,rfl⟩:=h;refine⟨⟨by show Array.size _<=100;simp;lia,λd hd=>?_⟩,?_⟩
 .simp at hd;lia
 .have e:Str.length ⟨LH n c⟩=n:=by show Array.size _=n;simp
  unfold z_;rw[e,decide_eq_true h1,decide_eq_true h2];rfl
theorem Ep{x:Str}(h:x∈L26):xI x:=by
 obtain⟨c,hc,rfl⟩:=La.mp h;have:∀c∈lettersS.cps.toList,97<=c/\c<=122:=by decide +kernel
 exact⟨1,c,by lia,by lia,(this c hc).1,(this c hc).2,rfl⟩
variable {nm:Str}{many':Int}{f:List Int->Option Int}
theorem nY{r:Rw}(hb:aV r=false)(hm:many<=many')(o:cM names m many r):cM (names++[nm]) m many' r:=by
 cases r with
 |ifr x a b=>cases hb
 |again x a=>cases hb
 |put x k=>exact⟨JW.mpr (.inl o.1),o.2.1,o.2.2⟩
 |take x k=>exact⟨JW.mpr (.inl o.1),o.2.1,by have:=o.2.2;lia⟩
 |pick x k=>exact⟨JW.mpr (.inl o.1),JW.mpr (.inl o.2.1),by have:=o.2.2;lia⟩
 |two w x y z=>exact⟨o.1,JW.mpr (.inl o.2.1),JW.mpr (.inl o.2.2.1),JW.mpr<|.inl o.2.2.2⟩
theorem GT{r o:Rw}(hb:aV r=false)(k:iW r o=true):aV o=false:=by
 cases r<;>first|cases hb|skip
 all_goals cases o<;>first|rfl|cases k
theorem vD{r o:Rw}{pl:List Int}(hf:∀pl k,f pl=some k->0<=k/\k<many')(hm:many<=many')(hb:aV r=false)(a:cM names m many r)(b:cM names m many o)(k:iW r o=true):
  aO (names++[nm]) m many' (lh nm f pl r o)/\cRs (lh nm f pl r o)<=4*cR r/\bq (lh nm f pl r o)<=hR r+1:=by
 have hb2:=GT hb k;have c1:=fO hb;have c2:=fO hb2;rw[gz hb];cases e:f pl with
 |none=>exact⟨⟨nY hb hm a,trivial⟩,by simp only[cRs];lia,by simp only[bq];lia⟩
 |some i=>
  obtain⟨i0,i1⟩:=hf pl i e;have hn:nm∈names++[nm]:=by simp
  refine⟨⟨⟨hn,i0,i1⟩,⟨hn,⟨nY hb2 hm b,trivial⟩,⟨nY hb hm a,trivial⟩⟩,trivial⟩,?_,?_⟩
  .simp only[cRs,cR];lia
  .simp only[bq,hR];lia
mutual
theorem Gk(hf:∀pl k,f pl=some k->0<=k/\k<many')(hm:many<=many'):∀(r o:Rw) (pl:List Int),cM names m many r->cM names m many o->iW r o=true->aO (names++[nm]) m many' (lh nm f pl r o)/\cRs (lh nm f pl r o)<=4*cR r/\bq (lh nm f pl r o)<=hR r+1
 |.ifr x a b,o,pl,h1,h2,k=>by
  have i1:=gb hf hm a;have i2:=gb hf hm b;cases o with
  |ifr y a' b'=>
   simp only[iW,JU]at k;obtain⟨p1,p2,p3⟩:=i1 a' (pl++[1]) 0 h1.2.1 h2.2.1 k.2.1;obtain⟨q1,q2,q3⟩:=i2 b' (pl++[0]) 0 h1.2.2 h2.2.2 k.2.2;exact⟨⟨⟨JW.mpr (.inl h1.1),p1,q1⟩,trivial⟩,by simp only[lh,cRs,cR];lia,by simp only[lh,bq,hR];lia⟩
  |_=>cases k
 |.again x a,o,pl,h1,h2,k=>by
  have i1:=gb hf hm a;cases o with
  |again y a'=>
   simp only[iW,JU]at k;obtain⟨p1,p2,p3⟩:=i1 a' (pl++[0]) 0 h1.2 h2.2 k.2;exact⟨⟨⟨JW.mpr (.inl h1.1),p1⟩,trivial⟩,by simp only[lh,cRs,cR];lia,by simp only[lh,bq,hR];lia⟩
  |_=>cases k
 |.put _ _,o,pl,h1,h2,k=>vD hf hm rfl h1 h2 k
 |.take _ _,o,pl,h1,h2,k=>vD hf hm rfl h1 h2 k
 |.pick _ _,o,pl,h1,h2,k=>vD hf hm rfl h1 h2 k
 |.two _ _ _ _,o,pl,h1,h2,k=>vD hf hm rfl h1 h2 k
theorem gb(hf:∀pl k,f pl=some k->0<=k/\k<many')(hm:many<=many'):∀(rs os:List Rw) (pl:List Int) (j:Nat),aO names m many rs->aO names m many os->bv rs os=true->aO (names++[nm]) m many' (bM nm f pl j rs os)/\cRs (bM nm f pl j rs os)<=4*cRs rs/\bq (bM nm f pl j rs os)<=bq rs+1
 |[],os,pl,j,_,_,_=>⟨trivial,by simp only[bM,cRs];lia,by simp only[bM,bq];lia⟩
 |r::rs,os,pl,j,h1,h2,k=>by
  cases os with
  |nil=>cases k
  |cons o os=>
   simp only[bv,JU]at k;obtain⟨p1,p2,p3⟩:=Gk hf hm r o (pl++[(j:Int)]) h1.1 h2.1 k.1;obtain⟨q1,q2,q3⟩:=gb hf hm rs os pl (j+1) h1.2 h2.2 k.2;simp only[bM];refine⟨OkRs_append.mpr ⟨p1,q1⟩,?_,?_⟩
   .rw[aU];simp only[cRs];lia
   .rw[bd];simp only[bq];lia
end
theorem F2{L:List (List Int)}(h0:0<=many):∀pl k,bP L many pl=some k->0<=k/\k<many+(L.length:Int):=λpl k e=>by
 unfold bP at e;cases c:L.findIdx? (·==pl) with
 |none=>rw[c]at e;cases e
 |some i=>
  rw[c]at e;obtain⟨hi,_⟩:=Me.mp c;have:many+(i:Int)=k:=by simpa using e
  lia
def ee(many:Int)(names:List Str)(rs os:List Rw):Bool:=decide (names.length+1<=12)&&(decide (many+((lc rs os).length:Int)<=40)&&(decide (bq (wJ names many rs os)<=4)&&decide (cRs (wJ names many rs os)<=60)))
variable {rs os:List Rw}{mk:Str}
theorem rg(g:PlH m many names rs mk)(ok2:aO names m many os)(k:bv rs os=true):aO (names++[cP names]) m (many+((lc rs os).length:Int)) (wJ names many rs os)/\cRs (wJ names many rs os)<=4*cRs rs/\bq (wJ names many rs os)<=bq rs+1:=
 gb (F2 g.t.k0) (by lia) rs os [] 0 g.ok ok2 k
theorem wK(g:PlH m many names rs mk)(ok2:aO names m many os)(k:bv rs os=true):uU m (many+((lc rs os).length:Int)) (names++[cP names]) (wJ names many rs os) (.str mk)=ee many names rs os:=by
 obtain⟨w1,_,_⟩:=rg g ok2 k;have t:=g.t;have n1:=t.n1;have n0:=t.n0;have k0:=t.k0;obtain⟨f1,f2⟩:=rH n1;have e1:(names++[cP names]).all z_=true:=MR.mpr λx hx=>by
  rcases JW.mp hx with z|z
  .exact(jd<|g.one x z).2
  .simp only[Ks]at z
   subst z;exact(jd<|Ep f1).2
 have nd:(names++[cP names]).Nodup:=Mh.mpr ⟨g.nd,by simp,λx hx y hy e=>by
  simp only[Ks]at hy;subst hy;exact f2 (e▸hx)⟩
 have e2:=qm (names++[cP names]) [] (by simpa using nd)
 simp only[JT,Mn]at e2;have e3:mk∈names++[cP names]:=JW.mpr (.inl g.mkm);have e4:mI (names++[cP names]) m (many+((lc rs os).length:Int)) 0 (wJ names many rs os)=decide (bq (wJ names many rs os)<=4):=by
  have:=kO _ 0 (by lia) w1
  rw[Na]at this
  by_cases c:bq (wJ names many rs os)<=4
  .rw[decide_eq_true c];exact this.mpr c
  .rw[decide_eq_false c];exact NK.mpr λz=>c (this.mp z)
 have e5:jv (names++[cP names]) (.str mk)=true:=decide_eq_true e3;unfold uU xr ka ee;rw[e1,e2,e4,e5,decide_eq_true t.m2,decide_eq_true t.m1,decide_eq_true (show 0<=many+((lc rs os).length:Int) by lia)]
 simp only[JD,JC,JT,decide_true,Kn,Kt,Mn];rw[decide_eq_true (show 1<=names.length+1 by lia),Kn]
 cases decide (names.length+1<=12)<;>cases decide (many+((lc rs os).length:Int)<=40)<;>rfl
end
structure Cnt(h c0 d c:Nat):Prop where
 y:h+d<=4->c=c0
 n:4<h+d->61<=c
def Ht(ad:Ad)(n:Nat):Prop:=∀(rs:List Rw) (d:Nat) (M:Mem) (Q:DK) (E:DX) (names:List Str) (m many:Int),aO names m many rs->d<=4->5<=n+d->(∀c:Nat,Cnt (bq rs) (cRs rs) d c->Q (.int (c:Nat)) M)->PJ ad n [.tup (ag rs),.int (d:Nat)] M Q E
section
variable {ad:Ad}{M N:Mem}{Q:DK}{E EE:DX}{D2:DEnds}{names:List Str}{m many:Int}{n:Nat}{r:Rw}{rsD rd:D}{d t:Nat}{c4:Option D}
theorem qC(ih:Ht ad n){a:List Rw}(ok:aO names m many a)(hd:d+1<=4)(hn:5<=n+(d+1))(h:∀c:Nat,Cnt (bq a) (cRs a) (d+1) c->D2.nx [some rsD,some (.int (d:Nat)),some (.int ((t+c:Nat):Int)),some rd,some (.tup<|ag a)] M):
  jT ad (PJ ad n) EE D2 [some rsD,some (.int (d:Nat)),some (.int (t:Nat)),some rd,some (.tup<|ag a)] M:=by
 unfold jT;simp only[ap,aj,al,ai,aa,ac,dC,ae,aF,JA,dt];refine⟨rfl,au λQ' E' hq _=>?_⟩;have e:(d:Int)+1=((d+1:Nat):Int):=by lia
 rw[e];refine ih a (d+1) M Q' E' names m many ok hd hn λc hc=>hq _ _ ?_;simp only[frz,af,JP];have:=h c hc;rw[Int.natCast_add]at this;exact this
theorem IK(ih:Ht ad n)(hb:aV r=true)(ok:cM names m many r)(hd:d<=4)(hn:5<=n+1+d)(h1:∀(t':Nat) (c4:Option D),Cnt (hR r) (cR r) d t'->D2.nx [some rsD,some (.int (d:Nat)),some (.int ((t+t':Nat):Int)),some r.d,c4] M)(h2:d=4->D2.rt (.int 61) M):
  kC ad (PJ ad n) EE D2 [some rsD,some (.int (d:Nat)),some (.int ((t+1:Nat):Int)),some r.d,c4] M:=by
 unfold kC;generalize hK:nB ad (PJ ad n) EE=K;simp only[ak,aE,ao,al,ac,dC,cH,dv,aG,bN,JA,dt];refine⟨trivial,trivial,?_⟩
 by_cases c:(d:Int)=4
 .rw[decide_eq_true c,if_pos rfl]
  exact h2 (by lia)
 .rw[decide_eq_false c,if_neg (by simp)]
  show K D2 _ M;rw[<- hK];unfold nB;have e2:∀(a b:D) (l:List D),df (a::b::l) (some 2) none=l:=λa b l=>oj (k:=2);generalize hK1:jT ad (PJ ad n) EE=K1;have dd:=fA r;cases r with
  |ifr x a b=>
   simp only[bW,cL,aj,d_,ac,ba,aB,dC,Rw.d,sD,e2,frz,aH,bF,JA,dt];refine⟨aA,?_⟩;simp only[af,JP];rw[<- hK1];refine qC ih ok.2.1 (by lia) (by lia) λc1 q1=>⟨aA,?_⟩
   simp only[af,JP];refine qC ih ok.2.2 (by lia) (by lia) λc2 q2=>⟨aA,?_⟩
   rw[show t+1+c1+c2=t+(1+c1+c2) by lia]
   refine h1 _ _ ⟨λz=>?_,λz=>?_⟩
   .simp only[hR]at z
    have:=q1.y (by lia)
    have:=q2.y (by lia)
    simp only[cR];lia
   .simp only[hR]at z
    rcases Li 4 (bq a+(d+1)) with y|y
    .have:=q1.n y;lia
    .have:=q2.n (by lia);lia
  |again x a=>
   simp only[bW,cL,aj,d_,ac,ba,aB,dC,Rw.d,sD,e2,frz,aH,bF,JA,dt];refine⟨aA,?_⟩;simp only[af,JP];rw[<- hK1];refine qC ih ok.2 (by lia) (by lia) λc1 q1=>⟨aA,?_⟩
   rw[show t+1+c1=t+(1+c1) by lia]
   refine h1 _ _ ⟨λz=>?_,λz=>?_⟩
   .simp only[hR]at z
    have:=q1.y (by lia)
    simp only[cR];lia
   .simp only[hR]at z
    have:=q1.n (by lia);lia
  |_=>cases hb
theorem Ca(ih:Ht ad n)(ok:cM names m many r)(hd:d<=4)(hn:5<=n+1+d)(h1:∀(t':Nat) (c4:Option D),Cnt (hR r) (cR r) d t'->D2.nx [some rsD,some (.int (d:Nat)),some (.int ((t+t':Nat):Int)),some r.d,c4] M)(h2:aV r=true->d=4->D2.rt (.int 61) M):
  kZ ad (PJ ad n) EE D2 [some rsD,some (.int (d:Nat)),some (.int (t:Nat)),some r.d,c4] M:=by
 unfold kZ;generalize hK:og ad (PJ ad n) EE=K;simp only[ak,ap,al,ac,dC,aF,af,JP,JA,dt];rw[<- hK,show (t:Int)+1=((t+1:Nat):Int) by lia]
 unfold og;generalize hK3:kC ad (PJ ad n) EE=K3;have lf:aV r=false->D2.nx [some rsD,some (.int (d:Nat)),some (.int ((t+1:Nat):Int)),some r.d,c4] M:=λe=>by
  obtain⟨z1,z2⟩:=fO e;exact h1 1 c4 ⟨λ_=>z1.symm,λz=>by lia⟩
 have bl:aV r=true->K3 D2 [some rsD,some (.int (d:Nat)),some (.int ((t+1:Nat):Int)),some r.d,c4] M:=λe=>by
  rw[<- hK3];exact IK ih e ok hd hn h1 (h2 e)
 have rd:=fA r;rw[rd]at lf bl ⊢;simp only[aE,ao,al,ac,dC,aD,aH,atI_0,aj,aX,aa,ae,JA,dt];refine⟨aM (by simp),λq hq=>fv hq (yA ok ?_)⟩
 cases c:aV r with
 |true=>exact bl c
 |false=>exact lf c
theorem bl_h(h:aV r=true):1<=hR r:=by
 cases r with
 |ifr x a b=>simp only[hR];lia
 |again x a=>simp only[hR];lia
 |_=>cases h
theorem C2(ih:Ht ad n):Ht ad (n+1):=by
 intro rs d M Q E names m many ok hd hn h;rw[u_q6 (n:=n)];unfold CO rD;generalize hK:kZ ad (PJ ad n) (aJ E)=K;simp only[ak,ap,dC,af,JP,bW,cL,ac,aH,bF,JA,dt];refine bt (λxs Y N=>N=M/\∃(us zs:List Rw) (t:Nat) (c3 c4:Option D),rs=us++zs/\xs=ag zs/\Cnt (bq us) (cRs us) d t/\Y=[some (.tup<|ag rs),some (.int (d:Nat)),some (.int (t:Nat)),c3,c4]) (λ_ _ _ _=>aA) ?_ ?_ _ _ _ ⟨rfl,[],rs,0,none,none,rfl,rfl,⟨λ_=>rfl,λz=>by simp only[bq]at z;lia⟩,rfl⟩
 .rintro Y N ⟨rfl,us,zs,t,c3,c4,e1,e2,q,rfl⟩
  have ez:zs=[]:=by cases zs with|nil=>rfl|cons _ _=>simp[ag]at e2
  subst ez;rw[JR]at e1;subst e1;simp only[ax,ac,JA,dt];exact aq (h t q)
 .rintro x xs Y N ⟨rfl,us,zs,t,c3,c4,e1,e2,q,rfl⟩ D' hnx _ hrt _
  cases zs with
  |nil=>simp[ag]at e2
  |cons z zs=>
   simp only[ag,Kc]at e2;obtain⟨rfl,rfl⟩:=e2;subst e1;rw[OkRs_append]at ok;simp only[af,JP];rw[<- hK];refine Ca ih ok.2.1 hd (by lia) (λt' c4 q'=>hnx _ _ ⟨rfl,us++[z],zs,t+t',_,c4,by simp,rfl,⟨λy=>?_,λy=>?_⟩,rfl⟩) λhb e4=>?_
   .simp only[bd,bq]at y
    have:=q.y (by lia)
    have:=q'.y (by lia)
    simp only[aU,cRs];lia
   .simp only[bd,bq]at y
    rcases Li 4 (bq us+d) with w|w
    .have:=q.n w;lia
    .have:=q'.n (by lia);lia
   .rw[hrt]
    have:=bl_h hb;refine aq (h 61 ⟨λy=>?_,λ_=>JE _⟩);simp only[bd,bq]at y;lia
theorem zP:∀n:Nat,Ht ad n
 |0=>λ_ _ _ _ _ _ _ _ _ h1 h2=>by lia
 |n+1=>C2 (zP n)
theorem wA{rows:List Rw}{mk:Str}(ok:aO names m many rows)(h:Q (.bl (decide (names.length<=12)&&(decide (many<=40)&&(decide (bq rows<=4)&&decide (cRs rows<=60))))) M):qg ad [bj m many names rows mk] M Q E:=by
 have a1:atI [D.int m,.tup (names.map D.str),.int many,.tup (ag rows),.str mk] 1=some (.tup<|names.map D.str):=by rw[atI_1];rfl
 have a2:atI [D.int m,.tup (names.map D.str),.int many,.tup (ag rows),.str mk] 2=some (.int many):=by rw[atI_2];rfl
 have a3:atI [D.int m,.tup (names.map D.str),.int many,.tup (ag rows),.str mk] 3=some (.tup<|ag rows):=by rw[atI_3];rfl
 rw[IC (n:=0)];unfold wq;simp only[ax,eD,al,br,aa,ae,ac,dC,aD,bj,aH,a1,a2,a3,cq,JK,Al,vw,JA,dt];have e1:decide (((names.length:Nat):Int)<=12)=decide (names.length<=12):=decide_eq_decide.mpr (by lia)
 rw[e1];cases c1:decide (names.length<=12) with
 |false=>rw[c1]at h;exact aq h
 |true=>
  rw[c1,Kn]at h;dsimp only;cases c2:decide (many<=40) with
  |false=>rw[c2]at h;exact aq h
  |true=>
   rw[c2,Kn]at h;dsimp only;simp only[aj,ai,aa,al,ac,dC,ae,aD,aH,a3,JA,dt];refine⟨rfl,au λQ' E' hq _=>zP 24 rows 0 M Q' E' names m many ok (by lia) (by lia) λc q=>hq _ _ ?_⟩
   simp only[frz];have e:decide (((c:Nat):Int)<=60)=(decide (bq rows<=4)&&decide (cRs rows<=60)):=by
    rw[<- N8];refine decide_eq_decide.mpr ⟨λz=>?_,λz=>?_⟩
    .rcases Li 4 (bq rows+0) with y|y
     .have:=q.n y;lia
     .have:=q.y y;lia
    .have:=q.y (by lia);lia
   rw[e];exact aq h
end
section
variable {ad:Ad}{M:Mem}{Q:DK}{E:DX}{names:List Str}{m many:Int}{rs os:List Rw}{mk:Str}
def qv(m many:Int)(names:List Str)(rs os:List Rw)(mk:Str):D:=bj m (many+((lc rs os).length:Int)) (names++[cP names]) (wJ names many rs os) mk
theorem pC(g:PlH m many names rs mk)(ok2:aO names m many os)(k:bv rs os=true)(h:Q (.bl<|ee many names rs os) M):lE ad [qv m many names rs os mk] M Q E:=by
 obtain⟨w1,w2,_⟩:=rg g ok2 k;have n1:=g.t.n1;have hc:=g.c;refine pU (λx hx=>?_) (by simp;lia) (fX _ w1) (by lia) trivial ?_
 .rcases JW.mp hx with z|z
  .exact(jd<|g.one x z).1
  .simp only[Ks]at z
   subst z;exact(jd<|Ep (rH n1).1).1
 .rw[wK g ok2 k]
  exact h
theorem rX(g:PlH m many names rs mk)(ok2:aO names m many os)(k:bv rs os=true)(h1:ee many names rs os=true->Q (qv m many names rs os mk) M)(h2:ee many names rs os=false->E ad.C_TooBig M):sG ad [bj m many names rs mk,bj m many names os mk] M Q E:=by
 have n1:=g.t.n1;have hh:=g.h;have hc:=g.c;have a0:∀r:List Rw,atI [D.int m,.tup (names.map D.str),.int many,.tup (ag r),.str mk] 0=some (.int m):=λr=>by rw[atI_0];rfl
 have a1:∀r:List Rw,atI [D.int m,.tup (names.map D.str),.int many,.tup (ag r),.str mk] 1=some (.tup<|names.map D.str):=λr=>by rw[atI_1];rfl
 have a2:∀r:List Rw,atI [D.int m,.tup (names.map D.str),.int many,.tup (ag r),.str mk] 2=some (.int many):=λr=>by rw[atI_2];rfl
 have a3:∀r:List Rw,atI [D.int m,.tup (names.map D.str),.int many,.tup (ag r),.str mk] 3=some (.tup<|ag r):=λr=>by rw[atI_3];rfl
 have a4:∀r:List Rw,atI [D.int m,.tup (names.map D.str),.int many,.tup (ag r),.str mk] 4=some (.str mk):=λr=>by rw[atI_4];rfl
 rw[J0 (n:=0)];unfold vj;generalize hK3:iQ ad (aJ E)=K3;simp only[ak,ap,t7,aa,ac,ae,JA,dt];refine⟨rfl,λa ha=>au λQ' E' hq _=>wY n1 g.ok ok2 k (by lia) (by lia) Mem.upd_same λp M1 w f=>hq _ _ ?_⟩
 have keep:∀b o,M b=some o->M1 b=some o:=λb o e=>by
  have hb:b≠a:=λz=>by rw[z,ha]at e;cases e
  exact f b o hb (by rw[ah hb];exact e)
 simp only[af,JP];rw[<- hK3];unfold iQ;generalize hK2:jb ad (aJ E)=K2;simp only[bj,ak,ap,aj,ai,aa,ac,al,dC,ae,av,aD,aH,a3,JA,dt];refine⟨aM (by simp),rfl,au λQ2 E2 hq2 _=>(rM 24).1 rs os [] M1 Q2 E2 g.ok ok2 k (Fe rs os) (by lia) (by lia) (by simp;lia) w (hq2 _ _ ?_)⟩
 simp only[frz,af,JP];rw[<- hK2];unfold jb;generalize hK1:iR ad (aJ E)=K1;simp only[ak,ap,av,aa,al,ac,dC,lw,aj,br,ae,w.w,Hw,G3,s_,w.d,nR,aD,aH,a0,a1,a2,a4,aF,frz,af,JP,JA,dt];refine⟨trivial,aM (by simp),aM (by simp only[JK,JC,JT];lia),trivial,aM (by simp),?_⟩
 have ep:D.tup [.int m,.tup (names.map D.str++[.str (cP names)]),.int (many+((lc rs os).length:Int)),.tup (ag<|bM (cP names) (bP (lc rs os) many) [] 0 rs os),.str mk]=qv m many names rs os mk:=by
  unfold qv bj wJ;rw[LL];rfl
 rw[ep,<- hK1];unfold iR;simp only[ak,aE,di,bR,aj,ai,aa,ac,ae,JA,dt];refine⟨rfl,b6 (λ_ _ q=>pC g ok2 k q) ?_⟩;simp only[frz,yD];cases c:ee many names rs os with
 |true=>
  rw[Kz,if_neg (by simp)]
  simp only[aC,ax,ac,JA,dt];exact⟨M,keep,h1 c⟩
 |false=>
  rw[MB,if_pos rfl];exact⟨M,keep,h2 c⟩
end
def D5:Rw:=.put "a" 0
def Hu:Rw:=.put "a" 1
def E6(o s:Nat):List Rw:=JN (o+s) D5
def E9(o s:Nat):List Rw:=JN o Hu++JN s D5
theorem rT{r:Rw}(h:ll r):∀n:Nat,cK (JN n r)
 |0=>trivial
 |n+1=>⟨h,rT h n⟩
theorem nw{names:List Str}{m many:Int}{r:Rw}(h:cM names m many r):∀n:Nat,aO names m many (JN n r)
 |0=>trivial
 |n+1=>⟨h,nw h n⟩
theorem yB{x:Str}{k:Int}:∀n:Nat,cRs (JN n<|Rw.put x k)=n/\bq (JN n<|Rw.put x k)=0
 |0=>⟨rfl,rfl⟩
 |n+1=>by
  have:=yB (x:=x) (k:=k) n;simp only[Kg,cRs,bq,cR,hR,this];lia
theorem sA:∀(o s j:Nat),bv (E6 o s) (E9 o s)=true/\bf [] j (E6 o s) (E9 o s)=(Nq j o).map λ(i:Nat)=>[(i:Int)]
 |0,s,j=>by
  unfold E6 E9;rw[Mn,List.replicate_zero,LK];exact dI _ [] j (rT (r:=D5) trivial s)
 |o+1,s,j=>by
  obtain⟨h1,h2⟩:=sA o s (j+1);unfold E6 E9 at h1 h2 ⊢;rw[show o+1+s=(o+s)+1 by lia,Kg,Kg,Ky]
  refine⟨?_,?_⟩
  .rw[bv,h1];rfl
  .rw[bf,h2,List.range'_succ,JO]
   have e:xR D5 Hu=true:=by decide +kernel
   have:bH ([]++[(j:Int)]) D5 Hu=[[(j:Int)]]:=by rw[bT rfl,e];rfl
   rw[this];rfl
theorem unA(o s:Nat):y0 (E6 o s) (E9 o s)=(Nq 0 o).map λ(i:Nat)=>aw [(i:Int)]:=by
 unfold y0;rw[(sA o s 0).2];have e:(Nq 0 o).map (λ(i:Nat)=>[(i:Int)])=zJ fK ((Nq 0 o).map λ(i:Nat)=>[(i:Int)]):=by
  refine qW fK ?_ (MU _);refine NI.mpr ((List.pairwise_lt_range' 1).imp λ{a b} z=>?_);show fF [(b:Int)] [(a:Int)]=false;simp only[fF];rw[if_neg (by lia)]
  exact decide_eq_false (by lia)
 rw[<- e,Mi];rfl
def Ho(k:Nat):Str:=⟨#[97+k]⟩
theorem nm0:(JL "a")=Ho 0:=by decide +kernel
def jC(n:Nat):List Str:=(LC n).map Ho
theorem Ez(n:Nat):(jC n).Nodup:=by
 refine NI.mpr (Om (λ{a b} h e=>h ?_)<|List.nodup_range (n:=n));have:(#[97+a]:Array Nat)=#[97+b]:=congrArg Str.cps e;simpa using this
theorem plA{n o s:Nat}{many:Int}(n0:1<=n)(n1:n<=12)(k0:0<=many)(k1:many<=40)(h:o+s<=60):PlH 2 many (jC n) (E6 o s) "a"/\aO (jC n) 2 many (E9 o s):=by
 have ha:(JL "a")∈jC n:=by
  rw[nm0];exact La.mpr ⟨0,Lv.mpr (by lia),rfl⟩
 have o0:cM (jC n) 2 many D5:=⟨ha,by lia,by lia⟩
 have o1:cM (jC n) 2 many Hu:=⟨ha,by lia,by lia⟩
 have l:(jC n).length=n:=by simp[jC]
 obtain⟨c,hh⟩:=yB (x:="a") (k:=0) (o+s);refine⟨⟨⟨by lia,by lia,by lia,by lia,k0,k1⟩,Ez n,nw o0 _,rT (r:=D5) trivial _,?_,?_,ha,λx hx=>?_⟩,OkRs_append.mpr ⟨nw o1 _,nw o0 _⟩⟩
 .show bq (JN (o+s)<|Rw.put "a" 0)<=4
  lia
 .show cRs (JN (o+s)<|Rw.put "a" 0)<=60
  lia
 .obtain⟨k,hk,rfl⟩:=La.mp hx
  have:=Lv.mp hk;exact⟨1,97+k,by lia,by lia,by lia,by lia,rfl⟩
section
variable {ad:Ad}{M:Mem}{Q:DK}{E:DX}{k:Pt}
theorem oV{r:Rw}(n:Nat):(JN n [r.d]).flatten=ag (JN n r):=by
 rw[e_,List.map_replicate,List.flatten_replicate_singleton]
theorem qj(hp:Has k M)(h:∀(m many:Int) (names:List Str) (rs os:List Rw) (mk:Str) (M':Mem) (p:Addr),PlH m many names rs mk->aO names m many os->bv rs os=true->Dr k M M'->M' p=none->Q (.tup [bj m many names rs mk,bj m many names os mk,.ref p]) (M'.upd p<|.lst<|y0 rs os)):
  CT ad [.ref k.p] M Q E:=by
 rw[u_q9 (n:=0)];unfold CZ;generalize hK8:oh ad (aJ E)=K8;simp only[ak,ap,aj,ai,aa,ac,dC,ae,JA,dt];refine⟨rfl,aI hp (by decide) (by decide) λway M1 w0 w1 d1=>?_⟩
 have hw:way=0\/way=1\/way=2\/way=3:=by lia
 simp only[frz,af,JP];rw[<- hK8];unfold oh;generalize hK7:mU ad (aJ E)=K7;simp only[ak,ap,al,aj,aX,aa,dC,ae,ac,JA,dt];refine⟨aM (by simp),λp1 hp1=>fv hp1 ?_⟩
 obtain⟨n,en,n0,n1⟩:∃n:Nat,atI [D.int 11,.int 12,.int 1,.int 1] way=some (.int (n:Nat))/\1<=n/\n<=12:=by
  rcases hw with rfl|rfl|rfl|rfl
  .exact⟨11,by simp,by lia,by lia⟩
  .exact⟨12,by simp,by lia,by lia⟩
  .exact⟨1,by simp,by lia,by lia⟩
  .exact⟨1,by simp,by lia,by lia⟩
 simp only[aD,aH,en,af,JP];rw[<- hK7];unfold mU;generalize hK6:mL ad (aJ E)=K6;simp only[ak,ap,br,aa,aj,aN,eR,ac,ae,JA,dt];refine⟨by lia,by lia,k_ (λd=>match d with|.int i=>.str (Ho i.toNat)|_=>.non) aA (by simp[dl];lia) (λx hx K q=>?_) λp2 hp2=>fv hp2 ?_⟩
 .simp only[dl,La,Lv,KD]at hx
  obtain⟨i,hi,rfl⟩:=hx;have hc:atI (JL "abcdefghijkl").cps.toList (0+(i:Int))=some (97+i):=by
   rw[bK (by lia),show (0+(i:Int)).toNat=i by lia]
   have:∀i<12,(JL "abcdefghijkl").cps.toList[i]?=some (97+i):=by decide +kernel
   exact this i (by lia)
  simp only[al,dC,ac,aD,aH,hc,dt];refine⟨by decide +kernel,?_⟩
  have e0:(0+(i:Int)).toNat=i:=by lia
  dsimp only at q;rw[e0]at q;exact q
 have e2:(dl 0 ((n:Nat):Int).toNat).map (λd=>match d with|.int i=>D.str (Ho i.toNat)|_=>.non)=(jC n).map D.str:=by
  unfold dl jC;rw[KD,Mi,Mi];refine Pd λi _=>?_;show D.str (Ho (0+(i:Int)).toNat)=D.str (Ho i);rw[show (0+(i:Int)).toNat=i by lia]
 rw[e2];simp only[bV,cz,af,JP];rw[<- hK6];unfold mL;generalize hK5:nH ad (aJ E)=K5;simp only[ak,ap,al,aj,aX,aa,dC,ae,ac,ai,JA,dt];refine⟨rfl,aI d1.1 (by decide) (by decide) λx2 M2 a2 b2 d2=>?_⟩
 simp only[frz,aF];refine⟨aM (by simp),λp3 hp3=>?_⟩
 simp only[Mem.upd_same,Mem.upd_del,am hp3];obtain⟨pc,ep,c0,c1⟩:∃pc:Int,atI [D.int 3,.int 3,.int (38+x2),.int 2] way=some (.int pc)/\0<=pc/\pc<=40:=by
  rcases hw with rfl|rfl|rfl|rfl
  .exact⟨3,by simp,by lia,by lia⟩
  .exact⟨3,by simp,by lia,by lia⟩
  .exact⟨38+x2,by simp,by lia,by lia⟩
  .exact⟨2,by simp,by lia,by lia⟩
 simp only[aD,aH,ep,af,JP];rw[<- hK5];unfold nH;generalize hK4:mM ad (aJ E)=K4;simp only[ak,ap,al,aj,aX,aa,dC,ae,ac,ai,JA,dt];refine⟨rfl,aI d2.1 (by decide) (by decide) λx3 M3 a3 b3 d3=>?_⟩
 simp only[frz,aF];refine⟨rfl,aI d3.1 (by decide) (by decide) λx4 M4 a4 b4 d4=>?_⟩
 simp only[frz,aF];refine⟨aM (by simp),λp4 hp4=>?_⟩
 simp only[Mem.upd_same,Mem.upd_del,am hp4];obtain⟨od,eo,o0,o1⟩:∃od:Nat,atI [D.int 1,.int 0,.int (1+x3),.int (1+x4)] way=some (.int (od:Nat))/\od<=19/\(way=3->1<=od):=by
  rcases hw with rfl|rfl|rfl|rfl
  .exact⟨1,by simp,by lia,by lia⟩
  .exact⟨0,by simp,by lia,by lia⟩
  .exact⟨(1+x3).toNat,by simp;lia,by lia,by lia⟩
  .exact⟨(1+x4).toNat,by simp;lia,by lia,by lia⟩
 simp only[aD,aH,eo,af,JP];rw[<- hK4];unfold mM;generalize hK3:nD ad (aJ E)=K3;simp only[ak,ap,al,aj,aX,aa,dC,ae,ac,ai,br,JA,dt];refine⟨rfl,aI d4.1 (by decide) (by decide) λx5 M5 a5 b5 d5=>?_⟩
 simp only[frz,aF,gT,gP,vw,Cd];refine⟨by simp only[CMul];lia,aM (by simp),λp5 hp5=>?_⟩
 simp only[Mem.upd_same,Mem.upd_del,am hp5];obtain⟨sm,es,s1⟩:∃sm:Nat,atI [D.int 0,.int 2,.int 0,.int (if 57+x5-4*(od:Int)>0 then 57+x5-4*(od:Int) else 0)] way=some (.int (sm:Nat))/\od+sm<=60:=by
  rcases hw with rfl|rfl|rfl|rfl
  .exact⟨0,by simp,by lia⟩
  .exact⟨2,by simp,by lia⟩
  .exact⟨0,by simp,by lia⟩
  .have:=o1 rfl
   refine⟨(if 57+x5-4*(od:Int)>0 then 57+x5-4*(od:Int) else 0).toNat,?_,?_⟩
   .simp only[atI_3]
    have:0<=(if 57+x5-4*(od:Int)>0 then 57+x5-4*(od:Int) else 0):=by split<;>lia
    rw[Int.toNat_of_nonneg this];rfl
   .split<;>lia
 simp only[aD,aH,es,af,JP];have d15:=d1.trans (d2.trans<|d3.trans<|d4.trans d5);obtain⟨g,ok2⟩:=plA (o:=od) (s:=sm) n0 n1 c0 c1 s1;rw[<- hK3];unfold nD;generalize hK2:o5 ad (aJ E)=K2;simp only[ak,ap,al,av,aa,dC,ae,aj,ac,aF,frz,JA,dt];have q1:(od:Int)+(sm:Int)=((od+sm:Nat):Int):=by lia
 rw[q1];refine⟨aM (by simp),aM (by simp),by simp,by lia,by lia,by simp,?_⟩
 rw[KD];have r1:∀j:Nat,(JN j [D.tup [.str (JL "put"),.str (JL "a"),.int 0]]).flatten=ag (JN j D5):=λj=>oV (r:=D5) j;have r2:∀j:Nat,(JN j [D.tup [.str (JL "put"),.str (JL "a"),.int 1]]).flatten=ag (JN j Hu):=λj=>oV (r:=Hu) j;rw[r1];simp only[af,JP];rw[<- hK2];unfold o5;generalize hK1:ng ad (aJ E)=K1;simp only[ak,ap,al,av,aa,dC,ae,ac,JA,dt];refine⟨aM (by simp),aM (by simp),by simp,by lia,by lia,by simp,aM (by simp),aM (by simp),by simp,by lia,by lia,by simp,?_⟩
 simp only[KD,r1,r2,aF,bc,OW,af,JP];refine⟨aM (by lia),?_⟩
 rw[<- aS,<- hK1];unfold ng;simp only[ax,av,aa,dC,ac,ae,aN,eR,JA,dt];refine⟨aM (by simp),aM (by simp),by lia,by lia,k_ (λd=>.tup [d]) aA (by simp[dl];lia) (λx hx K q=>⟨aM (by simp),q⟩) λp6 hp6=>⟨aM (by simp),aq ?_⟩⟩
 have e6:(dl 0 ((od:Nat):Int).toNat).map (λd=>D.tup [d])=y0 (E6 od sm) (E9 od sm):=by
  rw[unA,KD];unfold dl;rw[O5,Mi];refine Pd λi _=>?_;show D.tup [D.int (0+(i:Int))]=aw [(i:Int)];rw[Int.zero_add];rfl
 rw[e6];exact h 2 pc (jC n) (E6 od sm) (E9 od sm) "a" M5 p6 g ok2 (sA od sm 0).1 d15 hp6
end
mutual
theorem Bu:∀(r:Rw) (n:Nat),2*hR r+1<=n->cR r<=60->Di n r.d
 |.ifr x a b,n,h,c=>by
  simp only[hR,cR]at h c;obtain⟨n,rfl⟩:∃k,n=k+3:=⟨n-3,by lia⟩
  refine⟨by simp,λy hy=>?_⟩
  simp only[JM,Kb,or_false]at hy;rcases hy with rfl|rfl|rfl|rfl
  .trivial
  .trivial
  .exact eU a _ (by lia) (by lia)
  .exact eU b _ (by lia) (by lia)
 |.again x a,n,h,c=>by
  simp only[hR,cR]at h c;obtain⟨n,rfl⟩:∃k,n=k+3:=⟨n-3,by lia⟩
  refine⟨by simp,λy hy=>?_⟩
  simp only[JM,Kb,or_false]at hy;rcases hy with rfl|rfl|rfl
  .trivial
  .trivial
  .exact eU a _ (by lia) (by lia)
 |.put x k,n+1,_,_=>by
  refine⟨by simp,λy hy=>?_⟩
  simp only[JM,Kb,or_false]at hy;rcases hy with rfl|rfl|rfl<;>cases n<;>trivial
 |.take x k,n+1,_,_=>by
  refine⟨by simp,λy hy=>?_⟩
  simp only[JM,Kb,or_false]at hy;rcases hy with rfl|rfl|rfl<;>cases n<;>trivial
 |.pick x k,n+1,_,_=>by
  refine⟨by simp,λy hy=>?_⟩
  simp only[JM,Kb,or_false]at hy;rcases hy with rfl|rfl|rfl<;>cases n<;>trivial
 |.two w x y z,n+1,_,_=>by
  refine⟨by simp,λy hy=>?_⟩
  simp only[JM,Kb,or_false]at hy;rcases hy with rfl|rfl|rfl|rfl<;>cases n<;>trivial
theorem eU:∀(a:List Rw) (n:Nat),2*bq a+1<=n->cRs a<=60->Di (n+1) (.tup<|ag a)
 |[],n,_,_=>⟨by simp[ag],λx hx=>by simp[ag]at hx⟩
 |r::a,n,h,c=>by
  simp only[bq,cRs]at h c;have h1:=Bu r n (by lia) (by lia)
  obtain⟨h2,h3⟩:=eU a n (by lia) (by lia)
  have hl:(ag a).length<=60:=by rw[e_,JK];have:=ff (rs:=a);lia
  refine⟨by simp only[ag,JC];lia,λx hx=>?_⟩
  simp only[ag,JM]at hx;rcases hx with rfl|hx
  .exact h1
  .exact h3 x hx
end
section
variable {ad:Ad}{M N:Mem}{Q:DK}{E EE:DX}{k:Pt}{m many:Int}{names:List Str}{rs os:List Rw}{mk:Str}{Y:Dl}{a b:bg}{D0:DEnds}
theorem Ei{p:Addr}{A B:Int}{l:List Str}{r r':List Rw}{un:List D}{K:DK}(hp:M p=none)(h:K (.tup [bj A B l r mk,bj A B l r' mk,.lst un]) M):yf (.tup [bj A B l r mk,bj A B l r' mk,.ref p]) (M.upd p<|.lst un) K:=by
 simp only[yf,frzs,bj,Mem.upd_same,Mem.upd_del,am hp];exact h
theorem ET(g:PlH m many names rs mk)(f:ee many names rs os=true):Di 23 (qv m many names rs os mk):=by
 have n1:=g.t.n1;unfold ee at f;simp only[JU,decide_eq_true_eq]at f;refine⟨by simp,λy hy=>?_⟩
 simp only[JM,Kb,or_false]at hy;rcases hy with rfl|rfl|rfl|rfl|rfl
 .trivial
 .refine⟨by rw[JK];simp;lia,λx hx=>?_⟩
  obtain⟨s,_,rfl⟩:=La.mp hx;trivial
 .trivial
 .exact eU _ 21 (by lia) f.2.2.2
 .trivial
theorem Au(g:PlH m many names rs mk)(ok2:aO names m many os)(kk:bv rs os=true)(h:Q (.bl<|ee many names rs os) M):qg ad [qv m many names rs os mk] M Q E:=by
 refine wA (rg g ok2 kk).1 ?_;unfold ee at h;rw[JD];exact h
theorem EA(g:PlH m many names rs mk)(ok2:aO names m many os)(kk:bv rs os=true){x0 x1 x2 x3 x4 c6:Option D}{p:Addr}(f:ee many names rs os=false)(hp:N p=some (.lst flagsD))(h:D0.nx [x0,x1,x2,x3,x4,some (qv m many names rs os mk),c6,some .non,some (.ref p),none] N):
  dQ ad EE D0 [x0,x1,x2,x3,x4,some (qv m many names rs os mk),c6,some .non,some (.ref p),none] N:=by
 unfold dQ;generalize hK2:j0 ad EE=K2;simp only[aE,di,bR,aj,ai,aa,ac,ae,JA,dt];refine⟨rfl,b6 (λ_ _ q=>Au g ok2 kk q) ?_⟩;rw[f];show K2 D0 _ N;rw[<- hK2];unfold j0;simp only[aE,iT,ao,al,ac,dC,vF,t6,Kz,JQ,if_false,aj,ai,aa,ae,JA,dt];refine⟨rfl,b6 (λ_ _ q=>xo hp q) ?_⟩;simp only[frz,gK,dv,bN,aG];exact⟨trivial,trivial,by simpa [aC] using h⟩
theorem B1(g:PlH m many names rs mk)(ok2:aO names m many os)(kk:bv rs os=true){x0 x1 x2 x3 x4 c6 c9:Option D}(f:ee many names rs os=true)(h:D0.nx [x0,x1,x2,x3,x4,some (qv m many names rs os mk),c6,some (qv m many names rs os mk),some (.lst []),c9] N):
  dQ ad EE D0 [x0,x1,x2,x3,x4,some (qv m many names rs os mk),c6,some (qv m many names rs os mk),some (.lst []),c9] N:=by
 unfold dQ;generalize hK3:j9 ad EE=K3;simp only[aE,di,bR,aj,ai,aa,ac,ae,JA,dt];refine⟨rfl,b6 (λ_ _ q=>Au g ok2 kk q) ?_⟩;rw[f];show K3 D0 _ N;rw[<- hK3];unfold j9;simp only[aE,iT,di,bR,ao,al,ac,dC,aj,aX,ae,JA,dt];refine⟨aM (by simp),λq hq=>fv hq ⟨rfl,rfl,?_⟩⟩
 simp only[dv,aG,cA,Kz,JQ,if_false,ai,aa,ac,ae,JA,dt];refine⟨rfl,b6 (λQ' E' q=>fR 23 _ N Q' E' (ET g f) q) ?_⟩;simp only[frz,yD,Kz,JQ,if_false];refine⟨rfl,b6 (λ_ _ q=>pC g ok2 kk q) ?_⟩;rw[f];simp only[frz,uu];exact h
theorem va(g:PlH m many names rs mk)(ok2:aO names m many os)(kk:bv rs os=true){x0 x1 c5 c6 c7 c8 c9:Option D}(hr:∀M',D0.rt (.bl true) M'):
  gG ad EE D0 [x0,x1,some (bj m many names rs mk),some (bj m many names os mk),some (.lst<|y0 rs os),c5,c6,c7,c8,c9] N:=by
 have n1:=g.t.n1;have hh:=g.h;have hc:=g.c;unfold gG;generalize hK7:i_ ad EE=K7;simp only[ak,ap,aj,ai,aa,ac,ae,JA,dt];refine⟨rfl,b6 (d:=qv m many names rs os mk) (λ_ _ q=>lr n1 g.ok kk (by lia) (by lia) q) ?_⟩
 have fz:∀{K:DK} {M':Mem},K (qv m many names rs os mk) M'->frz (qv m many names rs os mk) M' K:=λq=>q;refine fz ?_;simp only[af,JP];rw[<- hK7];unfold i_ mG;generalize hK5:iS ad EE=K5;simp only[ak,bW,eR,aa,dC,ae];refine⟨by decide,by decide,?_⟩
 refine bt (λys Y N=>∃(c6 c7 c8 c9:Option D),Y=[x0,x1,some (bj m many names rs mk),some (bj m many names os mk),some (.lst<|y0 rs os),some (qv m many names rs os mk),c6,c7,c8,c9]) (λ_ _ _ _=>aA) ?_ ?_ _ _ _ ⟨_,_,_,_,rfl⟩
 .rintro Y N ⟨c6,c7,c8,c9,rfl⟩
  simp only[ax,dC];exact hr _
 .rintro y ys Y N ⟨c6,c7,c8,c9,rfl⟩ D' hD _ _ _
  simp only[af,JP,ak,ap,dC,aj,aX,ae];refine⟨aM (by simp),λp hp=>fv hp ?_⟩
  rw[<- hK5];unfold iS;generalize hK4:dQ ad EE=K4;simp only[ak,mF,aa,ac,ae,JA,dt];refine⟨rfl,rfl,au λQ' E' hq hE=>rX g ok2 kk (λf=>hq _ _ ?_) λf=>hE _ _ ⟨rfl,λea=>au λQ2 E2 hq2 _=>qU λp hp=>hq2 _ _ ?_⟩⟩
  .simp only[JP]
   rw[<- hK4];exact B1 g ok2 kk f (hD _ _ ⟨_,_,_,_,rfl⟩)
  .simp only[JP]
   rw[<- hK4];exact EA g ok2 kk f Mem.upd_same (hD _ _ ⟨_,_,_,_,rfl⟩)
end
theorem xA(ad:Ad)(ns:List Int)(hl:ns.length<=63):Aa ad [.ml (ns.map D.int)] (λ_=>none) (λd _=>d=.bl true) qw:=by
 rw[HV (n:=0)];generalize hG:({ nx:=λ_ M'=>drp (λd _=>d=D.bl true) .non M',rt:=drp λd _=>d=D.bl true }:DEnds)=G;have hr:∀M',G.rt (.bl true) M':=λM'=>by rw[<- hG];exact⟨M',λ_ _ e=>e,rfl⟩
 unfold vQ;refine rC ?_;simp only[ap,ai];refine dL (mY rfl) n8 _ ⟨rfl,au λQ' E' hq _=>yh λk M1 h1 _=>hq _ _ ?_⟩;simp only[af,JP];unfold kn;refine rC ?_;simp only[ap,pk,ai];refine dL (mY rfl) (dL Fy<|dL Fy n8) _ ⟨rfl,au λQ' E' hq _=>so h1 λm many names rs rs' mk M2 p g t k2 hp=>hq _ _ (Ei hp ?_)⟩;simp only[bX,aK,bY,af,JP,JC,JT];refine⟨trivial,?_⟩;unfold mR;refine rC ?_;generalize hK8:gG ad (aJ qw)=K8;generalize hK1:ji ad (aJ qw)=K1;simp only[aE,ao,al,aj,ai,dC];refine dL (mY rfl) (dL Fy n8) _ ⟨rfl,aI k2.1 (by decide) (by decide) λd M3 _ _ d3=>?_⟩
 simp only[frz,cH,dv,aG,bN];refine⟨trivial,trivial,?_⟩
 by_cases c:d=0
 .rw[decide_eq_true c,if_pos rfl,<- hK1]
  unfold ji;simp only[ap,pk,ai];refine dL (mY rfl) n8 _ ⟨rfl,au λQ' E' hq _=>qj d3.1 λm many names rs os mk M4 p g ok2 kk d4 hp=>hq _ _ (Ei hp ?_)⟩;simp only[bX,aK,bY,af,JP,JC,JT];refine⟨trivial,?_⟩;rw[<- hK8];exact va g ok2 kk hr
 .rw[decide_eq_false c,if_neg (by simp)]
  show K8 G _ M3;rw[<- hK8];exact va g t.ok t.k hr
end Tw
namespace Tw
open PySem L2 L3
def zI(K:JF):Sp:=λvs H Q _=>∃(a:Addr) (ns:List Int),vs=[.ref a]/\yS H/\SqL K H a (ns.map V.int)/\ns.length<=63/\∀H',Q (.bl true) H'
theorem Gg{l:W.OpenLaw}{w:World}{K:JF}{h:Heap}{mg:Str->Option Value}{fa C_Weave C_Dry C_NoBuild C_NoCase C_NoLine C_NoMoment C_NoPlace C_NoRow C_NoText C_StrideError C_TooBig C_TooMany f1 f2 f3 f4 f5 f6 f7 f8 f9 f10 f11 f12 f13 f14 f15 f16 f17 f18 f19 f20 f21 f22 f23 f24 f25 f26 f27 f28 f29 f30 f31 f32 f33 f34 f35 f36 f37 f38 f39 f40:Addr}(X:K.In h)(G:h.Ns mainGlobals mg)(hfa:mg "law"=some (.ref fa))
  {tk_LEAST_WHEEL P2 tk_MOST_LETTERS tk_MOST_NAMES tk_MOST_PIECES tk_MOST_ROWS tk_MOST_WHEEL tk_MOST_WITHIN tk_PARTS_0 tk_PARTS_1 tk_PARTS_2 tk_PARTS_3 tk_PARTS_4 tk_PARTS_5 tk_PARTS_6 tk_PARTS_7 tk_PARTS_8 tu_PARTS_0_0 tu_PARTS_0_1 tu_PARTS_1_0 tu_PARTS_1_1 tu_PARTS_2_0 tu_PARTS_2_1 tu_PARTS_3_0 tu_PARTS_3_1 tu_PARTS_3_2 tu_PARTS_4_0 tu_PARTS_4_1 tu_PARTS_4_2 tu_PARTS_5_0 tu_PARTS_5_1 tu_PARTS_5_2 tu_PARTS_6_0 tu_PARTS_6_1 tu_PARTS_6_2 tu_PARTS_7_0 tu_PARTS_7_1 tu_PARTS_7_2 tu_PARTS_8_0 tu_PARTS_8_1:Tok} {Qq ep_PARTS_0 ep_PARTS_1 ep_PARTS_2 ep_PARTS_3 ep_PARTS_4 ep_PARTS_5 ep_PARTS_6 ep_PARTS_7 ep_PARTS_8:Nat} {PF gv_PARTS_0 gv_PARTS_1 gv_PARTS_2 gv_PARTS_3 gv_PARTS_4 gv_PARTS_5 gv_PARTS_6 gv_PARTS_7 gv_PARTS_8:Addr}
  {e1 e2 e3 e4 e5 e6 e7 e8 e9 e10 e11 e12 e13 e14 e15 e16 e17 e18 e19 e20 e21 e22 e23 e24 e25 e26 e27 e28 e29 e30 e31 e32 e33 e34 e35 e36 e37 e38 e39 e40:FuncData}
  (aC_Weave:KC K mainGlobals "Weave"=some (some<|.ref C_Weave))
  (aC_Dry:KC K mainGlobals "Dry"=some (some<|.ref C_Dry))
  (aC_NoBuild:KC K mainGlobals "NoBuild"=some (some<|.ref C_NoBuild))
  (aC_NoCase:KC K mainGlobals "NoCase"=some (some<|.ref C_NoCase))
  (aC_NoLine:KC K mainGlobals "NoLine"=some (some<|.ref C_NoLine))
  (aC_NoMoment:KC K mainGlobals "NoMoment"=some (some<|.ref C_NoMoment))
  (aC_NoPlace:KC K mainGlobals "NoPlace"=some (some<|.ref C_NoPlace))
  (aC_NoRow:KC K mainGlobals "NoRow"=some (some<|.ref C_NoRow))
  (aC_NoText:KC K mainGlobals "NoText"=some (some<|.ref C_NoText))
  (aC_StrideError:KC K mainGlobals "StrideError"=some (some<|.ref C_StrideError))
  (aC_TooBig:KC K mainGlobals "TooBig"=some (some<|.ref C_TooBig))
  (aC_TooMany:KC K mainGlobals "TooMany"=some (some<|.ref C_TooMany))
  (l1:Nf K "is_plan" Dt f1 e1)
  (l2:Nf K "is_whole" Do f2 e2)
  (l3:Nf K "is_name" DM f3 e3)
  (l4:Nf K "are_names" Eo f4 e4)
  (l5:Nf K "is_name_of" Dv f5 e5)
  (l6:Nf K "are_rows" DY f6 e6)
  (l7:Nf K "is_row" Ej f7 e7)
  (l8:Nf K "is_part" E4 f8 e8)
  (l9:Nf K "rows_within" Ed f9 e9)
  (l10:Mf K C_Weave "__init__" "Weave.__init__" Jd f10 e10)
  (l11:Nf K "new_name" Dg f11 e11)
  (l12:Nf K "unlike_rows" HA f12 e12)
  (l13:Nf K "paired" DH f13 e13)
  (l14:Nf K "refuse_unlike_sorts" HE f14 e14)
  (l15:Nf K "paired_within" H_ f15 e15)
  (l16:Nf K "branches" El f16 e16)
  (l17:Nf K "woven" Dq f17 e17)
  (l18:Nf K "woven_rows" DJ f18 e18)
  (l19:Nf K "woven_row" Dj f19 e19)
  (l20:Nf K "_law_stirred" II f20 e20)
  (l21:Nf K "_law_pot" E7 f21 e21)
  (l22:Nf K "_law_draw" DR f22 e22)
  (l23:Nf K "_law_names" Dp f23 e23)
  (l24:Nf K "_law_row" Ds f24 e24)
  (l25:Nf K "_law_block" Er f25 e25)
  (l26:Nf K "_law_rows" Dn f26 e26)
  (l27:Nf K "_law_plan" Dy f27 e27)
  (l28:Nf K "_law_no_picks" IL f28 e28)
  (l29:Nf K "_law_twin_rows" Jm f29 e29)
  (l30:Nf K "_law_twins" DV f30 e30)
  (l31:Nf K "_law_first_name" Iz f31 e31)
  (l32:Nf K "_law_weave" Dw f32 e32)
  (l33:Nf K "_law_woven" E8 f33 e33)
  (l34:Nf K "_law_counted" HJ f34 e34)
  (l35:Nf K "_law_fits" DP f35 e35)
  (l36:Nf K "_law_name" Es f36 e36)
  (l37:Nf K "_law_kinds" Dk f37 e37)
  (l38:Nf K "_law_alike" Ex f38 e38)
  (l39:Nf K "_law_bounds" Jf f39 e39)
  (l40:Nf K "law" il f40 e40)
  (Qe:W.excIn K C_NoBuild [.type "ValueError",.type "Exception",.type "BaseException",.type "object"] "ValueError.__new__"=true)
  (Qr:W.excIn K C_TooBig [.type "ValueError",.type "Exception",.type "BaseException",.type "object"] "ValueError.__new__"=true)
  (xg:Lz K (.ref C_TooBig) "__getattribute__"=some (some<|.builtin "BaseException.__getattribute__"))
  (xh:Lz K (.ref C_TooBig) "__getattr__"=some none)
  (xk:Lz K (.ref C_TooBig) "__class__"=some (some<|.builtin "object.__class__"))
  (xsp:W.specialIn K (.builtin "object.__class__") "__get__"=some (some<|.builtin "getset_descriptor.__get__"))
  (xtk:W.takesIn K (.builtin "object.__class__")=some true)
  (xob:Lh K C_TooBig (.type "object")=some true)
  (xbe:Lh K C_TooBig (.type "BaseException")=some true)
  (xse:Lh K C_TooBig (.ref C_TooBig)=some true)
  (QE:KH K C_Dry=true)
  (P4:KH K C_NoBuild=true)
  (Qf:KH K C_NoCase=true)
  (Qg:KH K C_NoLine=true)
  (PZ:KH K C_NoMoment=true)
  (P5:KH K C_NoPlace=true)
  (Qs:KH K C_NoRow=true)
  (Qh:KH K C_NoText=true)
  (PL:KH K C_StrideError=true)
  (PV:KH K C_TooBig=true)
  (P6:KH K C_TooMany=true)
  (PM:W.instIn K (.ref C_StrideError) (.type "tuple")=some false)
  (PN:Lh K C_StrideError (.type "BaseException")=some true)
  (PQ:Lh K C_TooBig (.ref C_StrideError)=some true)
  (QF:Mc K (.ref C_Dry)=some (.type "type"))
  (QG:Lh K C_TooBig (.ref C_Dry)=some false)
  (P7:Mc K (.ref C_NoBuild)=some (.type "type"))
  (P8:Lh K C_TooBig (.ref C_NoBuild)=some false)
  (Qi:Mc K (.ref C_NoCase)=some (.type "type"))
  (Qj:Lh K C_TooBig (.ref C_NoCase)=some false)
  (Qk:Mc K (.ref C_NoLine)=some (.type "type"))
  (Ql:Lh K C_TooBig (.ref C_NoLine)=some false)
  (P0:Mc K (.ref C_NoMoment)=some (.type "type"))
  (P1:Lh K C_TooBig (.ref C_NoMoment)=some false)
  (P9:Mc K (.ref C_NoPlace)=some (.type "type"))
  (Qa:Lh K C_TooBig (.ref C_NoPlace)=some false)
  (Qt:Mc K (.ref C_NoRow)=some (.type "type"))
  (Qu:Lh K C_TooBig (.ref C_NoRow)=some false)
  (Qm:Mc K (.ref C_NoText)=some (.type "type"))
  (Qn:Lh K C_TooBig (.ref C_NoText)=some false)
  (Qo:Mc K (.ref C_TooBig)=some (.type "type"))
  (Qp:Lh K C_TooBig (.ref C_TooBig)=some true)
  (Qb:Mc K (.ref C_TooMany)=some (.type "type"))
  (Qc:Lh K C_TooBig (.ref C_TooMany)=some false)
  (PU:Lh K C_TooBig (.type "ValueError")=some true)
  (Qv:OC K C_Weave Str.empty=true)
  (Qw:KH K C_Weave=true)
  (Qx:W.plainOver K C_Weave=true)
  (Qy:Lz K (.ref C_Weave) "__setattr__"=some (some<|.builtin "object.__setattr__"))
  (Qz:O4 K C_Weave=true)
  (QA:Md K (.ref C_Weave)=true)
  (PX:Lz K (.ref C_Weave) "name"=some none)
  (PR:Lz K (.ref C_Weave) "pieces"=some none)
  (gi_LEAST_WHEEL:KC K mainGlobals "LEAST_WHEEL"=some (some<|.int 2 tk_LEAST_WHEEL))
  (Qd:KC K mainGlobals "LETTERS"=some (some<|.str "abcdefghijklmnopqrstuvwxyz" P2))
  (gi_MOST_LETTERS:KC K mainGlobals "MOST_LETTERS"=some (some<|.int 8 tk_MOST_LETTERS))
  (gi_MOST_NAMES:KC K mainGlobals "MOST_NAMES"=some (some<|.int 12 tk_MOST_NAMES))
  (gi_MOST_PIECES:KC K mainGlobals "MOST_PIECES"=some (some<|.int 40 tk_MOST_PIECES))
  (gi_MOST_ROWS:KC K mainGlobals "MOST_ROWS"=some (some<|.int 60 tk_MOST_ROWS))
  (gi_MOST_WHEEL:KC K mainGlobals "MOST_WHEEL"=some (some<|.int 997 tk_MOST_WHEEL))
  (gi_MOST_WITHIN:KC K mainGlobals "MOST_WITHIN"=some (some<|.int 4 tk_MOST_WITHIN))
  (QB:KC K mainGlobals "PARTS"=some (some<|.ref PF))
  (QC:K.lookup PF=some { cls:=.type "dict",dict:=none,data:=.dict #[⟨Lj w.params "put",.str "put" tk_PARTS_0,.ref gv_PARTS_0⟩,⟨Lj w.params "take",.str "take" tk_PARTS_1,.ref gv_PARTS_1⟩,⟨Lj w.params "pick",.str "pick" tk_PARTS_2,.ref gv_PARTS_2⟩,⟨Lj w.params "sum",.str "sum" tk_PARTS_3,.ref gv_PARTS_3⟩,⟨Lj w.params "by",.str "by" tk_PARTS_4,.ref gv_PARTS_4⟩,⟨Lj w.params "less",.str "less" tk_PARTS_5,.ref gv_PARTS_5⟩,⟨Lj w.params "same",.str "same" tk_PARTS_6,.ref gv_PARTS_6⟩,⟨Lj w.params "if",.str "if" tk_PARTS_7,.ref gv_PARTS_7⟩,⟨Lj w.params "again",.str "again" tk_PARTS_8,.ref gv_PARTS_8⟩] Qq,slots:=#[] })
  (gw_PARTS_0:K.lookup gv_PARTS_0=some { cls:=.type "tuple",dict:=none,data:=.seq #[.str "name" tu_PARTS_0_0,.str "number" tu_PARTS_0_1] ep_PARTS_0,slots:=#[] })
  (gw_PARTS_1:K.lookup gv_PARTS_1=some { cls:=.type "tuple",dict:=none,data:=.seq #[.str "name" tu_PARTS_1_0,.str "piece" tu_PARTS_1_1] ep_PARTS_1,slots:=#[] })
  (gw_PARTS_2:K.lookup gv_PARTS_2=some { cls:=.type "tuple",dict:=none,data:=.seq #[.str "name" tu_PARTS_2_0,.str "name" tu_PARTS_2_1] ep_PARTS_2,slots:=#[] })
  (gw_PARTS_3:K.lookup gv_PARTS_3=some { cls:=.type "tuple",dict:=none,data:=.seq #[.str "name" tu_PARTS_3_0,.str "name" tu_PARTS_3_1,.str "name" tu_PARTS_3_2] ep_PARTS_3,slots:=#[] })
  (gw_PARTS_4:K.lookup gv_PARTS_4=some { cls:=.type "tuple",dict:=none,data:=.seq #[.str "name" tu_PARTS_4_0,.str "name" tu_PARTS_4_1,.str "name" tu_PARTS_4_2] ep_PARTS_4,slots:=#[] })
  (gw_PARTS_5:K.lookup gv_PARTS_5=some { cls:=.type "tuple",dict:=none,data:=.seq #[.str "name" tu_PARTS_5_0,.str "name" tu_PARTS_5_1,.str "name" tu_PARTS_5_2] ep_PARTS_5,slots:=#[] })
  (gw_PARTS_6:K.lookup gv_PARTS_6=some { cls:=.type "tuple",dict:=none,data:=.seq #[.str "name" tu_PARTS_6_0,.str "name" tu_PARTS_6_1,.str "name" tu_PARTS_6_2] ep_PARTS_6,slots:=#[] })
  (gw_PARTS_7:K.lookup gv_PARTS_7=some { cls:=.type "tuple",dict:=none,data:=.seq #[.str "name" tu_PARTS_7_0,.str "rows" tu_PARTS_7_1,.str "rows" tu_PARTS_7_2] ep_PARTS_7,slots:=#[] })
  (gw_PARTS_8:K.lookup gv_PARTS_8=some { cls:=.type "tuple",dict:=none,data:=.seq #[.str "name" tu_PARTS_8_0,.str "rows" tu_PARTS_8_1] ep_PARTS_8,slots:=#[] })
  (QD:(PF==sysModules)=false)
  (PY:KC K mainGlobals "ValueError"=some none)
  (z_all:KC K mainGlobals "all"=some none)
  (z_bool:KC K mainGlobals "bool"=some none)
  (z_dict:KC K mainGlobals "dict"=some none)
  (z_enumerate:KC K mainGlobals "enumerate"=some none)
  (z_int:KC K mainGlobals "int"=some none)
  (z_isinstance:KC K mainGlobals "isinstance"=some none)
  (z_len:KC K mainGlobals "len"=some none)
  (z_list:KC K mainGlobals "list"=some none)
  (z_max:KC K mainGlobals "max"=some none)
  (z_min:KC K mainGlobals "min"=some none)
  (z_range:KC K mainGlobals "range"=some none)
  (z_set:KC K mainGlobals "set"=some none)
  (z_sorted:KC K mainGlobals "sorted"=some none)
  (z_str:KC K mainGlobals "str"=some none)
  (z_tuple:KC K mainGlobals "tuple"=some none)
  (z_zip:KC K mainGlobals "zip"=some none):
  ∃fd:FuncData,(∀(s:Shared) (v:Value),BindsTo s fd ⟨[v],[]⟩ [("script",v)])/\∀base:Heap,K.In base->base.Ns mainGlobals mg->FnOk l.prog w K mg base CX0 50 fa fd ["script"] (zI K):=by
 have e:=hfa.symm.trans (Le X G l40.a);cases e;obtain⟨_,_,kV,dc,pm,an,cd,ct,_,rfl,_⟩:=l40.F.ex;refine⟨Nj "law" "law" (dH il) (cm il) (aQ il) .none kV dc pm an cd ct,λs v=>.of_eq rfl,λbase _ _=>?_⟩
 let ad:Ad:=⟨C_Weave,C_Dry,C_NoBuild,C_NoCase,C_NoLine,C_NoMoment,C_NoPlace,C_NoRow,C_NoText,C_StrideError,C_TooBig,C_TooMany,f1,f2,f3,f4,f5,f6,f7,f8,f9,f10,f11,f12,f13,f14,f15,f16,f17,f18,f19,f20,f21,f22,f23,f24,f25,f26,f27,f28,f29,f30,f31,f32,f33,f34,f35,f36,f37,f38,f39,fa,e1,e2,e3,e4,e5,e6,e7,e8,e9,e10,e11,e12,e13,e14,e15,e16,e17,e18,e19,e20,e21,e22,e23,e24,e25,e26,e27,e28,e29,e30,e31,e32,e33,e34,e35,e36,e37,e38,e39,Nj "law" "law" (dH il) (cm il) (aQ il) .none kV dc pm an cd ct,PF⟩
 have T:En l.prog w K mg base ad:=⟨⟨Qv,Qw,Qx,Qy⟩,
  Le X G aC_Weave,
  PX,
  PR,
  Le X G aC_Dry,
  jB X Qe,
  Le X G aC_NoBuild,
  Le X G aC_NoCase,
  Le X G aC_NoLine,
  Le X G aC_NoMoment,
  Le X G aC_NoPlace,
  Le X G aC_NoRow,
  Le X G aC_NoText,
  Le X G aC_StrideError,
  jB X Qr,
  Le X G aC_TooBig,
  Le X G aC_TooMany,
  ⟨xg,xh,PV,xk,xsp,xtk,xob,xbe⟩,
  ⟨PM,pH PL,PN,PQ⟩,
  dk xse QE QF QG,
  dk xse P4 P7 P8,
  dk xse Qf Qi Qj,
  dk xse Qg Qk Ql,
  dk xse PZ P0 P1,
  dk xse P5 P9 Qa,
  dk xse Qs Qt Qu,
  dk xse Qh Qm Qn,
  dk xse PV Qo Qp,
  dk xse P6 Qb Qc,
  EL PU,
  ⟨_,Le X G gi_LEAST_WHEEL⟩,
  ⟨_,Le X G Qd⟩,
  ⟨_,Le X G gi_MOST_LETTERS⟩,
  ⟨_,Le X G gi_MOST_NAMES⟩,
  ⟨_,Le X G gi_MOST_PIECES⟩,
  ⟨_,Le X G gi_MOST_ROWS⟩,
  ⟨_,Le X G gi_MOST_WHEEL⟩,
  ⟨_,Le X G gi_MOST_WITHIN⟩,
  ⟨Le X G QB,QD,by decide +kernel,_,_,QC,(TabR.cons rfl ⟨_,rfl⟩ (cQ (ss:=["name","number"]) gw_PARTS_0 (.cons ⟨_,rfl⟩<|.cons ⟨_,rfl⟩ .nil) (show 2<=sizeLine by decide))<|TabR.cons rfl ⟨_,rfl⟩ (cQ (ss:=["name","piece"]) gw_PARTS_1 (.cons ⟨_,rfl⟩<|.cons ⟨_,rfl⟩ .nil) (show 2<=sizeLine by decide))<|TabR.cons rfl ⟨_,rfl⟩ (cQ (ss:=["name","name"]) gw_PARTS_2 (.cons ⟨_,rfl⟩<|.cons ⟨_,rfl⟩ .nil) (show 2<=sizeLine by decide))<|TabR.cons rfl ⟨_,rfl⟩ (cQ (ss:=["name","name","name"]) gw_PARTS_3 (.cons ⟨_,rfl⟩<|.cons ⟨_,rfl⟩<|.cons ⟨_,rfl⟩ .nil) (show 3<=sizeLine by decide))<|TabR.cons rfl ⟨_,rfl⟩ (cQ (ss:=["name","name","name"]) gw_PARTS_4 (.cons ⟨_,rfl⟩<|.cons ⟨_,rfl⟩<|.cons ⟨_,rfl⟩ .nil) (show 3<=sizeLine by decide))<|TabR.cons rfl ⟨_,rfl⟩ (cQ (ss:=["name","name","name"]) gw_PARTS_5 (.cons ⟨_,rfl⟩<|.cons ⟨_,rfl⟩<|.cons ⟨_,rfl⟩ .nil) (show 3<=sizeLine by decide))<|TabR.cons rfl ⟨_,rfl⟩ (cQ (ss:=["name","name","name"]) gw_PARTS_6 (.cons ⟨_,rfl⟩<|.cons ⟨_,rfl⟩<|.cons ⟨_,rfl⟩ .nil) (show 3<=sizeLine by decide))<|TabR.cons rfl ⟨_,rfl⟩ (cQ (ss:=["name","rows","rows"]) gw_PARTS_7 (.cons ⟨_,rfl⟩<|.cons ⟨_,rfl⟩<|.cons ⟨_,rfl⟩ .nil) (show 3<=sizeLine by decide))<|TabR.cons rfl ⟨_,rfl⟩ (cQ (ss:=["name","rows"]) gw_PARTS_8 (.cons ⟨_,rfl⟩<|.cons ⟨_,rfl⟩ .nil) (show 2<=sizeLine by decide)) TabR.nil)⟩,
  Kx X G PY,
  Kx X G z_all,
  Kx X G z_bool,
  Kx X G z_dict,
  Kx X G z_enumerate,
  Kx X G z_int,
  Kx X G z_isinstance,
  Kx X G z_len,
  Kx X G z_list,
  Kx X G z_max,
  Kx X G z_min,
  Kx X G z_range,
  Kx X G z_set,
  Kx X G z_sorted,
  Kx X G z_str,
  Kx X G z_tuple,
  Kx X G z_zip,
  gf X G l1,
  gf X G l2,
  gf X G l3,
  gf X G l4,
  gf X G l5,
  gf X G l6,
  gf X G l7,
  gf X G l8,
  gf X G l9,
  gi Qz QA l10,
  gf X G l11,
  gf X G l12,
  gf X G l13,
  gf X G l14,
  gf X G l15,
  gf X G l16,
  gf X G l17,
  gf X G l18,
  gf X G l19,
  gf X G l20,
  gf X G l21,
  gf X G l22,
  gf X G l23,
  gf X G l24,
  gf X G l25,
  gf X G l26,
  gf X G l27,
  gf X G l28,
  gf X G l29,
  gf X G l30,
  gf X G l31,
  gf X G l32,
  gf X G l33,
  gf X G l34,
  gf X G l35,
  gf X G l36,
  gf X G l37,
  gf X G l38,
  gf X G l39,
  gf X G l40⟩
 exact(FP<|FA T).imp λvs H Q E ⟨a,ns,e,hO,hS,hl,k⟩=>by subst e;exact AY hO hS (xA ad ns hl) k
theorem walk{l:W.OpenLaw}{q:Program}{loose:List Str}{XP:(Str->Option Value)->Heap->Prop}{YP:World->Heap->Prop}{d:DefRec}{K:Params->JF}(hn:l.most=some 63)(hdf:d.params.defaults=[])
  (hY:∀(w:World) (h:Heap),YP w h->(K w.params).In h)
  (F:∀(w:World) (mg:Str->Option Value) (fa:Addr) (h:Heap),(K w.params).In h->h.Ns mainGlobals mg->mg d.name=some (.ref fa)->
   ∃fd:FuncData,(∀(s:Shared) (u:Value),BindsTo s fd ⟨[u],[]⟩ [("script",u)])/\∀base:Heap,(K w.params).In base->base.Ns mainGlobals mg->FnOk l.prog w (K w.params) mg base CX0 50 fa fd ["script"] (zI<|K w.params)):
  W.WalkO q loose XP YP l.row.toRowW d [] (λf vs=>O8 f vs):=
 L2.BB (n:=63) (k:=50) (x:="script") (CX:=λ_=>CX0) (sp:=λw=>zI (K w.params)) hn (by decide) hdf ⟨rfl,by decide,by decide,rfl⟩ hY F (λ_ _ a ns hl hO hS=>⟨a,ns,rfl,hO,hS,hl,λ_=>rfl⟩) λ_ _ _ _ _ z=>z
end Tw
open PySem PySem.W PyProof.Rows
structure PySem.W.Fast:Prop where
 (tw262299256154134764 tw1906691706861422378 tw17928570523355587868 tw1515758075371332815 tw8357602252734112638 tw11886977457366908404 tw5911158788558163727 tw7658122582666663779 tw9743547381798047705 tw3627245930974190014 tw3752558630416386289 tw18351417368183552497 tw14639772890083211057 tw9208856763187609893 tw8121750252220811061 tw676756160220443303 tw6173446114236978796 tw1582533088315969983 tw16305011607108614120 tw3853980932943223037 tw5221354711496348497 tw11632588114987590365 tw14028642160761241759 tw9559654777598451678 tw2604436133586927975 tw7159907979459627675 tw4042337715821633270 tw8968164632914713088 tw17739414578831699821 tw6544001175898004469 tw7965838175150031948 tw16198617229262897822 tw16015045432444111714 tw13922180443376328596 tw8159440984033572779 tw9019501429228776531 tw11511747863966522606 tw57063679064823889 tw1426174705952691436 tw13024774911890579860 tw5164256662580737232 tw9612006563810989813 tw14209328919743996155 tw14354321412366477464 tw10938048417351293956 tw10347843976125369 tw11072953596266684247 tw9140994296279068097 tw8294803762081859466 tw4719733127065501764 tw15997096846551983853 tw15005366980377596954 tw15494674113784141041 tw4035779331063821222 tw5309131805467606615 tw1924065610304512840 tw645306371478384003 tw8232823378473007688 tw218696948030740958 tw12747257120389889961 tw12144655095675906710 tw3475293778255434578 tw5942067870689004759 tw13979868624020447536 tw210357357824753367 tw9087584635730561814 tw17262012019747226590 tw15882234600253630638 tw12889305124366827137 tw11276735873192288441 tw2960910157745251223 tw11955392557195909765 tw890841305034761164 tw317505830005047199 tw308031250276324505 tw14541243827016320700 tw10859775855986616983 tw6336906649466355506 tw13755973733720699682 tw15444248975820660202 tw18316651140250723603 tw5086833480259036382 tw5559675848941640254 tw11933478453740584224 tw11777038545486424546 tw13075956414823368921 tw578485344159920528 tw4244876826830385069 tw12982704811129046231 tw6788934284295964022 tw16592593610736563190 tw17839983310668944041 tw9738802392086056942 tw13269205971363585786 tw2857940808029526661 tw917152772606254703 tw13020704849378562817 tw16202816364134356024 tw321576638669052739 tw8297890916547955025 tw4114398013617153291 tw13596839816536005792 tw8413641082305770243 tw15704419020238498902 tw3870567406279397233 tw16962390510630188827 tw8263633258448137429 tw3692951036317030617 tw5871828123722612202 tw4220607501251983902 tw8836338434463576084 tw3174402292232125308 tw14366915372815869686 tw13467494989240627323 tw11817714137552644904 tw6452459395918675343 tw7697265069427009837 tw7055410543997879626 tw8396273307229684597 tw4921470140593190421 tw555227332810402222 tw2825384419822342246 tw13615758204704578002 tw10261314148569539507 tw18019244457588611305 tw971510648378618984 tw7884260752738182287 tw12903859984359825126 tw11999715668651589026 tw12284799244376038172 tw18162712755530063580 tw14122686733234729409 tw1747620934930731293 tw14377448906503312144 tw8772375536465351219 tw4625737761189297753 tw11661410071965710831 tw6586680026734548780 tw4207112380132360736 tw9661252136421313183 tw13962433347590518358 tw17894716213224907446 tw12328264367301494888 tw1752665095346925323 tw13360385884240601772 tw10146205892436863179 tw9249145171598002680 tw7254163328339213696 tw16830112038687609137 tw11871347652426952372 tw8938782463973428816 tw6645223780004906358 tw10137952363953731183 tw2800555446123302841 tw6930997928417376251 tw476523672239724720 tw1678722271112264954 tw1762226013982417804 tw17525116778383924081 tw6253167475640361706 tw13780650120863626031 tw11576769879023414992 tw13625514803276469220 tw14068621133255770236 tw1082055055104718718 tw6488812758144310464 tw4071234153500765871 tw14317891400678135623 tw4151418683340798536 tw3555315611320115235 tw7771642742052318590 tw2201067448149748320 tw9042888540375593692 tw12269575176265024403 tw14217360185464151205 tw11508468139116498040 tw7190548801206214800 tw10129288868151326579 tw3486442349916616938 tw1131863739010416711 tw4395901001044883235 tw14696057696900917028 tw7290860028739124319 tw7924561712309948387 tw5602941510818204581 tw16929308057163927719 tw1011249075182893418 tw11366738888023238744 tw16940205246700775677 tw12304201162704411785 tw15843563665961087563 tw4827696704805839683 tw17227826761182441525 tw1677007581463618732 tw12470929092831711813 tw2920096145358144755 tw6563044328855146323 tw13752323926673029431 tw11378369037163339767 tw13196003122774066569 tw17295264528599908334 tw17677521309710661993 tw16131845764640970625 tw14767319075405273202 tw8277295224289219840 tw12392039960402889898 tw6151864271453483728 tw14866771018649244985 tw2442334879231796813 tw4040834210213029014 tw470398074600422710 tw18397171661276195195 tw8594925019077762731 tw11252585076008262519 tw13083633900869637048 tw6978998609942606842 tw6535299580938427663 tw6206760777188969467 tw12289516260030031601 tw4710899891751651487 tw13968265604926197439 tw4294249527216862653 tw17278791913204181745 tw10324716721812055432 tw6882729361050486864 tw9896684272367634009 tw8685644221048950497 tw1734250774839143205 tw15626598152769092959 tw16534167047205916770 tw9786621223618890439 tw11666870012433960438 tw2725130480277186779 tw8104882278844768212 tw13175309780846738794 tw1006088474162304480 tw12826833268633165392 tw10100322747579216367 tw12537155990365355009 tw13727366539771737382 tw1077908797234351070 tw12053133020158523431 tw13878495920765513454 tw5488320454834646108 tw338714370058542459 tw6166557401601446407 tw12168904559169515200 tw11968105691803069807 tw1768359867020135696 tw881764270160936463 tw17826876618427801838 tw17884535965737888087 tw1826487004303948558 tw140240400042497038 tw12312597795571282803 tw2319148533764244976 tw16663039941116226543 tw3548544585356092238 tw14183056758601890127 tw3094168461207993747 tw15272194528216391692 tw13521524662020851481 tw2718220947636020117 tw7776358219597644227 tw6293100119851639036 tw4798114155214355244 tw1205402719140773929 tw8397051413959192277 tw1053593708514400920 tw18248044594299695371 tw1201614517029597683 tw13198284126671479410 tw1418494429646716228 tw16313220531387716971 tw4472458480533622800 tw17443596202408019395 tw4654790103429445415 tw4783757484934297525 tw2979669779024098919 tw17732213329855656803 tw11792494395742495390 tw15723847999905105755 tw17720260305296602243 tw6828670646134419281:True)
set_option maxRecDepth 100000 in
set_option maxHeartbeats 0 in
theorem PySem.Challenge.cw_twinstride_k81_woven_plans_holds : PySem.Challenge.rw_twinstride_k81_woven_plans.Holds := by
 w_on;o_law;k_head;(case hw=>w_witness2)
 k_fill
 refine Tw.walk (l:=PySem.Challenge.rw_twinstride_k81_woven_plans) rfl rfl (λw h Y=>W.kIn_of Y) ?F
 case F=>
  intro w mg fa h KX G hmg;refine' Tw.Gg KX G hmg ..
  any_goals k_is
  any_goals (first|refine' L3.Nf.mk ?_ (L2.A2 ?_ ?_ ?_)|refine' L3.Mf.mk ?_ ?_ (L2.A2 ?_ ?_ ?_))
  any_goals k_is
  any_goals k_exc
  any_goals first|rfl|decide
