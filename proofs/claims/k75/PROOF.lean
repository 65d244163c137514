import PyProof.Rows.All
import Wide.All
import OpenK.AllK
import Wide.FinOn
import Lean
import PyProof.EqAt
import PyProof.EqKinds
import PyProof.TupleCall
import PySem.Challenge.RW_stepledger_k75_givens
open Option renaming some->Ya,none->Yh,isSome_iff_exists->Iu,isSome_some->Xf,getD_none->Xg,bind_some->Xh,map_some->Xi
open PySem.W renaming Frag->Yb,findIn->Y0,subIn->jK,hideAll->mF,kia_one->mG,fnOf->jL,keepIn->mH,keepIn->fL,codeIn->fZ,emptyDict->rF,kitAny->o_,isFn->mJ,nsIn->cZ,mg_none_of->ph,instObj->uq,hideAll_get->zm,fnOf->fM,codeIn->wG,exmOne->wH,callWith_K->DQ,mroIn->wI,plainGet->DR,of_hideAll->Iv,hasDictIn->Yes,plainGet_of->Oh,makesIn->Iw,lookIn->Iz,typeIn->IK,methodObj->Oi,plainOver->Oj,specialIn->Ol,clsIn->IV,cellsFrom_some->Xj,takerIn->Om,takesIn->Oo,hideAll_none->Xk,kitOne->Oq,kitx_tuple->Xl,mg_of->Ot,kitx_none->Xm,kitx_list->Xn,kitx_dict->Xo,mg_of->wJ,nsIn->Ou,handedIn->Xp,exm_one->Xq,WalkO->Xr,Looks->Xu,Frag->DW
open PySem renaming wpAny_bind->Yc,Value->Yd,Shared->Yg,wpAny_pure->Yk,Addr->Ym,starEach->Yq,mainGlobals->Yy,wpAny->Yz,model->Y4,Program->Y5,sizeLine->Y8,Around->bj,wpAny_field->fO,wpAny_mono->eE,wpAny_callSpecial?_slot->rG,World->aK,bootBuiltins->i_,mem_of_lookup->rH,Heap->au,wpAny_loadPart'->wK,wpAny_holding->mK,wpAny_call_entry->rJ,binaryOp->gO,FuncData->iJ,wpAny_newObj_type->ur,wpAny_seqItems->p6,wpAny_Call_Name_kw->wL,wpAny_setField_rec->wM,backTo->dm,attributeBase->p7,foldedSetIterable->wN,compareOp->j8,eval->aG,keywordEach->pq,IsPair->eZ,wpAny_passesOwn->wO,letOwnedTupleGo->wQ,Stmt->Yc6,wpAny_pyIter_tuple->DX,wpAny_execs_nil->zp,swapsWith->nO,sizeLine_eq->rK,noteFrame->nP,sysModules->p8,wpAny_attempt->wR,assignEach->rN,pyNext->iy,codeAny_mono->wU,wpAny_comprehension_free->Ov,codeAny->j9,sliceBounds->wV,call_meets->ut,slicePicked->wW,wpAny_pyIter_enum->IW,backToKw->pA,cLine->fP,wpAny_updateSeq_pair->Ow,wpAny_standAt->DY,wpAny_onRaise->D_,wpAny_letOwnedTupleGo_enum->Xv,rawInt->j_,wpAny_typeOf->Ea,compPost->rO,wpAny_binaryOp_repeat_ref->Xw,wpAny_setField->I_,wpAny_truthy_bool->Ox,assign->lH,wpAny_assign_Name->Oz,wpAny_rule->zq,behindInMarks->Ja,compEnvC->uv,excClassObj->Eb,noFill_tuple_add->OD,wpAny_isInstance->OJ,codeAny_compStart_list->Xx,tupleKind->zr,wpAny_storeName_local->Xy,BindsTo->rP,call_meetsIn->Jb,exec_Assign_Name_used->Xz,codeAny_handlers_test->XC,codeAny_builtin->O1,builtinLookup_eq_fast->XD,wpAny_call->Ec,typeIs_int->Ed,wpAny_newFunctionEnv->XF,unbindBehindTheSuite->XH,codeAny_call_builtin->XJ,IsZip->jt,intText?->O2,newFunctionEnv->O4,isSubtype_stop->O5,callerA->uw,relabel->uz,wpAny_handleBy_cons->XM,Result->p_,seq_tuple_add->O6,tupleKind_room_in1->XQ,wpAny_missed_other->XR,getattributeRaised->XS,wpAny_pyIter_list->XX,getItem->wX,wpAny_sequenceKey->X4,typeLookup->Jc,wpAny_Call_method->X5,field->lJ,wpAny_dictEntries->X6,Within->O7,concat_meets->O8,wpAny_landsW->O9,wpAny_pyHash_int->X7,wpAny_pyHash_str->X8,wpAny_execs_cons->X_,wpAny_Try_except->YB,seqSlot_of->YC,standAt->zu,holding->zx,PassesOwn->Jd,valueAt->zy,theTreesLotGoes->YD,wpAny_throw->O_,getAttrByItsOwn->YF,dictGet->zA,wpAny_letGo->Pa,wpAny_dictEpoch->YG,typeLookup_type->YH,loadIfAlive->Pb,notedBy->zB,wpAny_ite_false->YJ,builtinsNs->Pg,wpAny_Name->Ph,typeIs_str->Pj,call->Pk,getAttr?->Je,pyIter->zE,getMethod->Pn,cellsFrom->Pq,seqIndex?->Pr,stored->zF,seqItems?->Pu,unaryOp->Jf,bindL->uD,bindC->uE,leaving->Jg,atKey->uF,newList->Jh,nsFind->Ef,typeOf->Eg,Str->aj,Tok->gY,Obj->aD,Env->cQ,Sem->kh,Pos->aM
open List renaming replicate->Ye,getElem?_eq_some_iff->Yf,getElem?_set_ne->Yj,length_cons->Yo,mem_cons_of_mem->Yp,size_toArray->Ys,length_append->Yt,mem_cons_self->Yw,getElem?_append_left->Yx,getElem?_set_self->Y2,getElem?_eq_getElem->Y3,mem_cons->Y6,map_cons->Y9,replicate_succ->ju,mem_append_right->lK,length_map->iz,length_replicate->lM,range->dX,append_assoc->kj,mem_singleton->lO,lookup_cons->jM,getElem?_map->mL,set_cons_succ->nQ,set_cons_zero->nR,getElem?_append_right->wY,all_eq_true->nU,mem_of_getElem?->rQ,length_nil->nW,cons_append->pB,flatten_cons->qb,prefix_append->rR,take_of_length_le->wZ,drop_eq_getElem_cons->zG,eq_nil_of_length_eq_zero->Eh,getElem?_take_of_lt->zH,length_singleton->w5,append_nil->qd,nodup_cons->qe,foldl_cons->qi,nil_append->qj,mem_append->rT,length_set->rW,mem_filterMap->w6,mem_append_left->zJ,lookup->ql,getElem?_replicate->Ji,not_mem_nil->zK,find?_cons->zM,any_cons->xg,getD_eq_getElem?_getD->Px,length_take->Ei,length_drop->Ej,drop_length->El,map_nil->xj,forIn_cons->Em,eraseIdxIfInBounds_toArray->YK,mem_range->En,mem_map->zN,getElem_mem->Jj,getElem?_of_mem->Py,foldl->xq,filterMap_cons->Pz,forIn_nil->Jk,take_sublist->PB,Nodup->zO,length_range->PJ,length->Eo,getElem?_cons_succ->YL,getElem?_set_self'->YM,drop_eq_nil_of_le->YQ,of_mem_zip->PL,map_append->PN,dropLast_eq_take->YS,getElem?_eq_none->YT,map_congr_left->YW,contains_cons->YX,mem_replicate->YZ,reverse_cons->Y_,getElem?_inj->ZC,getElem_inj->ZD,zipIdx_cons->ZF,mem_filter->ZG,zipIdx_nil->ZJ,drop_zero->ZK,nodup_nil->ZL,all_cons->ZM,map_take->ZP
open PySem.Heap renaming get?_push_of_some->Yi,lt_size->Yu,get?_push_size->Y1,size_push->uG,SameBut->xr,get?_update_other->PQ,get?_update_self->ZQ
open Nat renaming le_refl->Yl,lt_of_lt_of_le->Yn,le_trans->Yv,ne_of_lt->eF,zero_le->eG,le_antisymm->iK,sub_add_cancel->pC,le_of_not_lt->pD,lt_trans->lQ,le_add_right->rY,eq_of_beq_eq_true->zP,lt_irrefl->rZ,beq->gZ,le_of_eq->su,lt_succ_self->zQ,ne_of_gt->uH,zero_add->zR,le_of_lt->zT,add_comm->Ep,min_eq_right->PX,min_le_right->P0,ble->sy,le_of_ble_eq_true->ZR,min_eq_left->P_,sub_eq_zero_of_le->ZV,sub_le->Er,add_le_add_right->ZW,mul_le_mul_left->ZX,add_assoc->Qa,add_zero->Qc,succ_le_succ->ZZ,succ_ne_self->Z0,one_mul->Qd,add_le_add->Z1
open Classical renaming propDecidable->Yr
open PySem.Builtin.SmallTypes renaming nextOf->Y7,ownedTupleIsFree->uI,ownedTupleHandOut->Z2
open Option.some renaming inj->gP,injEq->Z3
open Bool renaming and_eq_true->jb,and_eq_true_iff->uJ,false_ne_true->uK,or_eq_true->uM,and_true->uN,false_eq_true->Es,beq_eq_decide_eq->Jl,and_false->Jm,or_false->Qe,false_or->Qf,not_true->Z4
open False renaming elim->dw
open Ne renaming symm->bW
open Decidable renaming byContradiction->uO
open Int renaming toNat_of_nonneg->sE,toNat_natCast->qm,natCast_nonneg->Et,emod_nonneg->zU,self_le_toNat->Eu,ofNat_le->zV,zero_add->zW,add_zero->zX,natCast_add->Jo,le_of_eq->Ew,le_trans->Ey,emod_lt_of_pos->Qg,lt_mul_ediv_self_add->Z5,add_assoc->Jp,le_of_lt->Jq,mul_zero->Jr,natCast_mul->Qh,ofNat_lt->Js,lt_of_lt_of_le->Z6,not_le->Jt,sub_zero->Qi,min_eq_left->Z7,mul_add->Qj,add_le_add->Z8,not_lt->Qk
open PyProof.Rows renaming callWith_type1->Ez,slot_tuple_getitem->Ju,slot_tupleiter_next->Jv,envOfC->jN,kindOf->lR,AllBare->qp,subscriptTail_builtinR->Z9,entry_tupleiter_next->Z_,entry_tuple_getitem->Yin,args_tupleiter_next->Yir,args_tuple_getitem->Yi2
open PySem.Str renaming ofString->nY,length->qt
open PySem.F renaming slot_dict_get->zY,slot_zip_next->uP,args_dict_get_3->Jw,entry_dict_get->Jx,args_tuple_add_2->Ql,entry_tuple_add->Qm,plainAttrs_list->Qn,slot_tuple_add->Qo,args_zip_next_1->Jy,entry_zip_next->Jz,excBase_ValueError->Yfu,slot_list_append->Ygm,type_list_append->Ygn,plainAttrs_dict->Ygu,type_dict_get->Yhr,slot_enumerate_next->Yhz,slot_int_rmul->Yh4,entry_list_pop->Ykc,slot_list_pop->Ykr,slot_int_rmul->Yks
open PySem.Builtin.Str renaming strSliceIndices->JB
open Array renaming getElem?_eq_some_iff->JC,getElem?_toList->Qq,length_toList->Qs,toList->JD,mem_of_getElem?->Yh2,mem_toList_iff->Yib,append_assoc->Yiy,forIn_toList->Yje
open PySem.Calls renaming spliced_cons->zZ,callWith_builtin->JF,evalArgs_plain->JG,spliced_nil->JH,Name_function_global->Yfq
open PySem.Builtin.Slice renaming slicePlaces->JK,sliceAdjust->Qt,sliceApplied->Yfr
open PySem.Builtin.Tuple renaming tupleExact->JL,tupleItemsOf->Yfs,tupleTooMany->Yfv
open PySem.SeqAt renaming EqAt->pF
open PyProof.Rows.KTD renaming datumAt->sG,TabOf->sH,tab_of_look->Yk3
open PySem.Builtin.List renaming listTooLong->Qu
open PySem.Obj renaming data_mapFields->JM,mapFields->EY,isFreed_of_fields->Yhy
open PySem.BindsTo renaming of_defaults->Qv
open PySem.SeqAt.EqAt renaming str_int->Qw,int_str->Yiw,int_int->Yi9,of_refs->Yja,same->Ykv
open Nat.succ renaming inj->E_
open PySem.SeqAt.RcAt renaming tuples->Qx,lists_lengths->Ygl,lists->Yke
open OfNat renaming ofNat->Fb
open Eq renaming trans->uQ
open PySem.Builtin.Dict renaming updateFrom->Yg2,missed->Yiu
open PySem.PassesOwn renaming never->Qy,leaving->Yjv
open PySem.Around renaming under_plainId->Yih,under->Qz
open PySem.Heap.SameBut renaming update->Yis
open PySem.Paired renaming length->QB
open List.cons renaming inj->QC,injEq->Ykx
open PySem.Code renaming isFrame->QD
open PySem.W.Looks renaming ld->Ykh
open PySem.Heap.DictOf renaming new->Yku
open PySem.Shared renaming heap->QF
open PySem.Value renaming isStrOf->Yll
open Max renaming max->gQ
open Min renaming min->iM
namespace L3
set_option compiler.extract_closed false
set_option genSizeOf false in
set_option genInjectivity false in
inductive AE where
 |v (i:Nat)
 |k (n:Nat)
 |a (x y:AE)
 |m (n:Nat) (x:AE)
noncomputable def JN:List Nat->Nat->Nat
 |[],_=>0|x::_,0=>x|_::l,n+1=>JN l n
noncomputable def AE.ev(c:List Nat):AE->Nat
 | .v i=>JN c i|.k n=>n|.a x y=>x.ev c+y.ev c|.m n x=>n*x.ev c
noncomputable def aL:List Nat->List Nat->List Nat
 |[],r=>r|x::l,[]=>x::l|x::l,y::r=>(x+y)::aL l r
noncomputable def sL(n:Nat):List Nat->List Nat
 |[]=>[]|x::l=>(n*x)::sL n l
noncomputable def uL:Nat->List Nat
 |0=>[1]|n+1=>0::uL n
noncomputable def AE.li:AE->List Nat
 | .v i=>0::uL i|.k n=>[n]|.a x y=>aL x.li y.li|.m n x=>sL n x.li
noncomputable def dt:List Nat->List Nat->Nat
 |x::c,y::l=>x*y+dt c l|[],_=>0|_,[]=>0
noncomputable def xu:List Nat->List Nat->Bool
 |[],_=>true|x::l,[]=>sy x 0&&xu l []|x::l,y::r=>sy x y&&xu l r
theorem nZ:∀c,dt c []=0
 |[]=>rfl|_::_=>rfl
theorem qw:∀c l r,dt c (aL l r)=dt c l+dt c r
 |c,[],r=>by rw[nZ,zR];rfl|c,x::l,[]=>by rw[nZ];rfl|[],x::l,y::r=>rfl|z::c,x::l,y::r=>by show z*(x+y)+dt c (aL l r)=_;rw[qw c l r,Nat.mul_add];exact Nat.add_add_add_comm _ _ _ _
theorem Fd(n:Nat):∀c l,dt c (sL n l)=n*dt c l
 |c,[]=>by rw[nZ];exact nZ c|[],x::l=>rfl|z::c,x::l=>by show z*(n*x)+dt c (sL n l)=n*(z*x+dt c l);rw[Fd n c l,Nat.mul_add,Nat.mul_left_comm]
theorem ZsB:∀c i,dt c (uL i)=JN c i
 |[],0=>rfl|[],_+1=>rfl|x::c,0=>by show x*1+dt c []=x;rw[nZ,Nat.mul_one];rfl|x::c,n+1=>by show x*0+dt c (uL n)=JN c n;rw[ZsB c n,Nat.mul_zero,zR]
theorem z6:∀c l r,xu l r=true->dt c l<=dt c r
 |c,[],r,_=>by rw[nZ];exact eG _|[],x::l,r,_=>eG _|z::c,x::l,[],h=>by have h:=(jb _ _).mp h;have e:x=0:=Nat.le_zero.1 (ZR h.1);have i:=z6 c l [] h.2;rw[nZ]at i;show z*x+dt c l<=0;rw[e,Nat.le_zero.1 i];exact Yl 0|z::c,x::l,y::r,h=>
  have h:=(jb _ _).mp h
  Z1 (ZX z (ZR h.1)) (z6 c l r h.2)
theorem AE.d_(c:List Nat):∀e:AE,dt (1::c) e.li=e.ev c
 | .v i=>(zR _).trans (ZsB c i)|.k n=>by show 1*n+dt c []=n;rw[nZ,Qd];rfl|.a x y=>(qw _ _ _).trans (congr (congrArg _ (x.d_ c)) (y.d_ c))|.m n x=>(Fd n _ _).trans (congrArg _ (x.d_ c))
noncomputable def bT:Nat->Nat->AE×Nat
 |0,s=>(.k 0,s)|f+1,s=>bif sy (s % 16) 9 then(.v (s % 16),s / 16)else bif gZ (s % 16) 10 then(.k 1,s / 16)
  else bif gZ (s % 16) 11 then(.k (s / 256 % 16^(s / 16 % 16)),s / 256 / 16^(s / 16 % 16))
  else bif gZ (s % 16) 12 then(.a (bT f (s / 16)).1 (bT f (bT f (s / 16)).2).1,(bT f (bT f (s / 16)).2).2)
  else bif gZ (s % 16) 13 then(.m (s / 16 % 256) (bT f (s / 4096)).1,(bT f (s / 4096)).2)
  else(.k 0,s / 16)
noncomputable def Fe:Nat->Nat->Nat->Prop
 |0,x,y=>x<=y|1,x,y=>x<y|2,x,y=>x=y|3,x,y=>x=y
 |4,x,y=>¬x<=y|5,x,y=>¬x<y|_,_,_=>False
noncomputable def QG:Nat->AE->AE->List Nat
 |0,x,_=>x.li|1,x,_=>aL [1] x.li|2,x,_=>x.li|4,_,y=>aL [1] y.li
 |_,_,y=>y.li
noncomputable def Ff:Nat->AE->AE->List Nat
 |0,_,y=>y.li|1,_,y=>y.li|2,_,y=>y.li|_,x,_=>x.li
noncomputable def uR(c:List Nat):Nat->Nat->Prop
 |0,s=>Fe (s % 16) ((bT 9 (s / 16)).1.ev c) ((bT 9 (bT 9 (s / 16)).2).1.ev c)|n+1,s=>Fe (s / 16 % 16) ((bT 9 (s / 256)).1.ev c) ((bT 9 (bT 9 (s / 256)).2).1.ev c)->uR c n (bT 9 (bT 9 (s / 256)).2).2
noncomputable def gN:Nat->AE->AE->List Nat->List Nat->Bool
 |0,x,y,L,R=>xu (aL R x.li) (aL L y.li)|1,x,y,L,R=>xu (aL [1] (aL R x.li)) (aL L y.li)|_,_,_,L,R=>xu (aL [1] R) L
noncomputable def uT:Nat->Nat->List Nat->List Nat->Bool
 |0,s,L,R=>gN (s % 16) (bT 9 (s / 16)).1 (bT 9 (bT 9 (s / 16)).2).1 L R|n+1,s,L,R=>uT n (bT 9 (bT 9 (s / 256)).2).2 (aL L (sL (s % 16) (QG (s / 16 % 16) (bT 9 (s / 256)).1 (bT 9 (bT 9 (s / 256)).2).1))) (aL R (sL (s % 16) (Ff (s / 16 % 16) (bT 9 (s / 256)).1 (bT 9 (bT 9 (s / 256)).2).1)))
theorem Fg(c l:List Nat):dt (1::c) (aL [1] l)=dt (1::c) l+1:=by rw[qw];show 1*1+dt c []+_=_;rw[nZ];exact Ep _ _
theorem Zpu(c:List Nat)(x y:AE):∀r,Fe r (x.ev c) (y.ev c)->dt (1::c) (QG r x y)<=dt (1::c) (Ff r x y)
 |0,h=>by show dt _ x.li<=dt _ y.li;rw[x.d_,y.d_];exact h|1,h=>by show dt _ (aL [1] x.li)<=dt _ y.li;rw[Fg,x.d_,y.d_];exact h|2,h=>by show dt _ x.li<=dt _ y.li;rw[x.d_,y.d_];exact su h|3,h=>by show dt _ y.li<=dt _ x.li;rw[x.d_,y.d_];exact su h.symm
 |4,h=>by show dt _ (aL [1] y.li)<=dt _ x.li;rw[Fg,x.d_,y.d_];exact Nat.lt_of_not_le h|5,h=>by show dt _ y.li<=dt _ x.li;rw[x.d_,y.d_];exact pD h|_+6,h=>h.elim
theorem Zwm(c:List Nat)(x y:AE)(L R:List Nat)(h:dt (1::c) L<=dt (1::c) R):∀r,gN r x y L R=true->Fe r (x.ev c) (y.ev c)
 |0,k=>by have e:=z6 (1::c) _ _ k;rw[qw,qw,x.d_,y.d_]at e;exact Nat.le_of_add_le_add_left (Yv e (ZW h _))|1,k=>by have e:=z6 (1::c) _ _ k;rw[Fg,qw,qw,x.d_,y.d_]at e;exact Nat.lt_of_add_lt_add_left (Yv e (ZW h _))|r+2,k=>by have e:=z6 (1::c) _ _ k;rw[Fg]at e;exact absurd (Yv e h) (Nat.not_succ_le_self _)
variable{a b:Nat}
theorem arN(c:List Nat):∀(n s:Nat) (L R:List Nat),dt (1::c) L<=dt (1::c) R->uT n s L R=true->uR c n s
 |0,s,L,R,h,k=>Zwm c _ _ L R h _ k|n+1,s,L,R,h,k=>λg=>arN c n _ _ _ (by rw[qw,qw,Fd,Fd];exact Z1 h (ZX _ (Zpu c _ _ _ g))) k
end L3
theorem lN(c:List Nat)(n s:Nat)(h:L3.uT n s [] []=true):L3.uR c n s:=L3.arN c n s [] [] (Yl _) h
theorem pG(a b:Nat):a<=a-b+b:=Nat.le_add_of_sub_le (Yl _)
theorem T1:true=true:=rfl
theorem lA(n s:Nat)(y:L3.uT n s [] []=true):L3.uR [a] n s:=lN _ n s y
theorem lB(n s:Nat)(y:L3.uT n s [] []=true):L3.uR [a,b] n s:=lN _ n s y
theorem lC{c:Nat}(n s:Nat)(y:L3.uT n s [] []=true):L3.uR [a,b,c] n s:=lN _ n s y
theorem lD{c d:Nat}(n s:Nat)(y:L3.uT n s [] []=true):L3.uR [a,b,c,d] n s:=lN _ n s y
theorem lE{c d e:Nat}(n s:Nat)(y:L3.uT n s [] []=true):L3.uR [a,b,c,d,e] n s:=lN _ n s y
theorem clA(w:Int):gQ w 0=(w.toNat:Int):=(Int.ofNat_toNat w).symm
theorem clB(v:Int)(n:Nat)(h:¬v<0):iM v (n:Int)=((iM v.toNat n:Nat):Int):=by
 obtain⟨k,rfl⟩:=Int.eq_ofNat_of_zero_le (Qk.1 h);rcases Nat.le_total k n with z|z
 .rw[Z7 (zV.2 z)];exact congrArg Int.ofNat (P_ z).symm
 .rw[Int.min_eq_right (zV.2 z)];exact congrArg Int.ofNat (PX z).symm
theorem QH(v:Int)(n:Nat)(h:v<0):gQ 0 (iM (v+(n:Int)) (n:Int))=((v+(n:Int)).toNat:Int):=by rw[Z7 (Jq (Z6 (Int.add_lt_add_right h _) (Ew (zW _)))),Int.max_comm];exact clA _
theorem QJ(v:Int)(n:Nat)(h:¬v<0):gQ 0 (iM v (n:Int))=((iM v.toNat n:Nat):Int):=by rw[clB v n h];exact Int.max_eq_right (Et _)
namespace L3
set_option genSizeOf false in
set_option genInjectivity false in
inductive AI where
 |v (i:Nat)
 |k (n:Nat)
 |c (e:AE)
 |a (x y:AI)
 |s (x y:AI)
 |g (x:AI)
 |m (n:Nat) (x:AI)
noncomputable def Fi:List Int->Nat->Int
 |[],_=>0|x::_,0=>x|_::l,n+1=>Fi l n
noncomputable def AI.ev(c:List Nat)(d:List Int):AI->Int
 | .v i=>Fi d i|.k n=>Int.ofNat n|.c e=>((e.ev c:Nat):Int)|.a x y=>x.ev c d+y.ev c d
 | .s x y=>x.ev c d-y.ev c d|.g x=>-x.ev c d|.m n x=>Int.ofNat n*x.ev c d
noncomputable def pL(u w:List Nat×List Nat):List Nat×List Nat:=(aL u.1 w.1,aL u.2 w.2)
noncomputable def AI.li:AI->Bool->List Nat×List Nat
 | .v i,b=>bif b then([],uL i)else([],[])|.k n,b=>bif b then([n],[])else([],[])|.c e,b=>bif b then(e.li,[])else([],[])|.a x y,b=>pL (x.li b) (y.li b)
 | .s x y,b=>pL (x.li b) (y.li (!b))|.g x,b=>x.li (!b)|.m n x,b=>(sL n (x.li b).1,sL n (x.li b).2)
noncomputable def dY:List Int->List Nat->Int
 |x::c,y::l=>x*(y:Int)+dY c l|[],_=>0|_,[]=>0
noncomputable def dI(c:List Nat)(d:List Int)(u:List Nat×List Nat):Int:=((dt (1::c) u.1:Nat):Int)+dY d u.2
theorem Zsq(p q r s:Int):p+q+(r+s)=p+r+(q+s):=by omega
theorem n6:∀c,dY c []=0
 |[]=>rfl|_::_=>rfl
theorem Zp6:∀c l r,dY c (aL l r)=dY c l+dY c r
 |c,[],r=>by rw[n6,zW];rfl|c,x::l,[]=>by rw[n6,zX];rfl|[],x::l,y::r=>rfl|z::c,x::l,y::r=>by show z*((x+y:Nat):Int)+dY c (aL l r)=(z*x+dY c l)+(z*y+dY c r);rw[Zp6 c l r,Jo,Qj];exact Zsq _ _ _ _
theorem Zqn(n:Nat):∀c l,dY c (sL n l)=Int.ofNat n*dY c l
 |c,[]=>by rw[n6,Jr];exact n6 c|[],x::l=>(Jr _).symm|z::c,x::l=>by show z*((n*x:Nat):Int)+dY c (sL n l)=Int.ofNat n*(z*x+dY c l);rw[Zqn n c l,Qj,Qh,Int.mul_left_comm];rfl
theorem ZpO:∀c i,dY c (uL i)=Fi c i
 |[],0=>rfl|[],_+1=>rfl|x::c,0=>by show x*1+dY c []=x;rw[n6,Int.mul_one,zX]|x::c,n+1=>by show x*0+dY c (uL n)=Fi c n;rw[ZpO c n,Jr,zW]
section
variable (c:List Nat) (d:List Int)
theorem jO(u w:List Nat×List Nat):dI c d (pL u w)=dI c d u+dI c d w:=by show((dt (1::c) (aL u.1 w.1):Nat):Int)+dY d (aL u.2 w.2)=_;rw[qw,Zp6,Jo];exact Zsq _ _ _ _
theorem JP(n:Nat)(u:List Nat×List Nat):dI c d (sL n u.1,sL n u.2)=Int.ofNat n*dI c d u:=by show((dt (1::c) (sL n u.1):Nat):Int)+dY d (sL n u.2)=_;rw[Fd,Zqn,Qh];exact(Qj _ _ _).symm
theorem QK:dI c d ([],[])=0:=by show((dt (1::c) []:Nat):Int)+dY d []=0;rw[nZ,n6];rfl
theorem Zs2(p q r s:Int):p-q+(r-s)=p+r-(q+s):=by omega
theorem ZoO(p q r s:Int):p-q-(r-s)=p+s-(q+r):=by omega
theorem AI.d_:∀e:AI,e.ev c d=dI c d (e.li true)-dI c d (e.li false)
 | .v i=>by show Fi d i=dI c d ([],uL i)-dI c d ([],[]);rw[QK,Qi];show _=((dt (1::c) []:Nat):Int)+dY d (uL i);rw[nZ,ZpO];exact(zW _).symm|.k n=>by show Int.ofNat n=dI c d ([n],[])-dI c d ([],[]);rw[QK,Qi];show _=((dt (1::c) [n]:Nat):Int)+dY d [];rw[n6,zX];show _=((1*n+dt c []:Nat):Int);rw[nZ,Qd];rfl|.c e=>by show((e.ev c:Nat):Int)=dI c d (e.li,[])-dI c d ([],[]);rw[QK,Qi];show _=((dt (1::c) e.li:Nat):Int)+dY d [];rw[n6,zX,e.d_]|.a x y=>by show x.ev c d+y.ev c d=dI c d (pL (x.li true) (y.li true))-dI c d (pL (x.li false) (y.li false));rw[jO,jO,x.d_,y.d_];exact Zs2 _ _ _ _
 | .s x y=>by show x.ev c d-y.ev c d=dI c d (pL (x.li true) (y.li false))-dI c d (pL (x.li false) (y.li true));rw[jO,jO,x.d_,y.d_];exact ZoO _ _ _ _|.g x=>by show -x.ev c d=dI c d (x.li false)-dI c d (x.li true);rw[x.d_];exact Int.neg_sub _ _|.m n x=>by show Int.ofNat n*x.ev c d=dI c d (sL n (x.li true).1,sL n (x.li true).2)-dI c d (sL n (x.li false).1,sL n (x.li false).2);rw[JP,JP,x.d_];exact Int.mul_sub _ _ _
noncomputable def cI(x y:AI):List Nat×List Nat:=pL (x.li true) (y.li false)
noncomputable def xx(u:List Nat×List Nat):List Nat×List Nat:=(aL [1] u.1,u.2)
theorem JQ(u:List Nat×List Nat):dI c d (xx u)=dI c d u+1:=by show((dt (1::c) (aL [1] u.1):Nat):Int)+dY d u.2=((dt (1::c) u.1:Nat):Int)+dY d u.2+1;rw[Fg,Jo,Int.add_right_comm];rfl
theorem JR(x y:AI):dI c d (cI x y)-dI c d (cI y x)=x.ev c d-y.ev c d:=by unfold cI;rw[jO,jO,x.d_,y.d_,ZoO,Int.add_comm (dI c d (y.li true))]
theorem JS{x y:AI}(h:x.ev c d<=y.ev c d):dI c d (cI x y)<=dI c d (cI y x):=by have:=JR c d x y;omega
theorem ZwC{x y:AI}(h:dI c d (cI x y)<=dI c d (cI y x)):x.ev c d<=y.ev c d:=by have:=JR c d x y;omega
noncomputable def Zvs:Nat->Int->Int->Prop
 |0,x,y=>x<=y|1,x,y=>x<y|2,x,y=>x=y|3,x,y=>x=y
 |4,x,y=>¬x<=y|5,x,y=>¬x<y|_,_,_=>False
noncomputable def loI:Nat->AI->AI->List Nat×List Nat
 |0,x,y=>cI x y|1,x,y=>xx (cI x y)|2,x,y=>cI x y|4,x,y=>xx (cI y x)
 |_,x,y=>cI y x
noncomputable def hiI:Nat->AI->AI->List Nat×List Nat
 |0,x,y=>cI y x|1,x,y=>cI y x|2,x,y=>cI y x|_,x,y=>cI x y
theorem Zsh{x y:AI}(h:x.ev c d<y.ev c d):dI c d (xx (cI x y))<=dI c d (cI y x):=by have:=JR c d x y;rw[JQ];omega
theorem Zta(x y:AI):∀r,Zvs r (x.ev c d) (y.ev c d)->dI c d (loI r x y)<=dI c d (hiI r x y)
 |0,h=>JS c d h|1,h=>Zsh c d h|2,h=>JS c d (Ew h)|3,h=>JS c d (Ew h.symm)
 |4,h=>Zsh c d (Jt.1 h)|5,h=>JS c d (Qk.1 h)|_+6,h=>h.elim
end
noncomputable def bZ:Nat->Nat->AI×Nat
 |0,s=>(.k 0,s)|f+1,s=>bif sy (s % 16) 7 then(.v (s % 16),s / 16)else bif gZ (s % 16) 8 then(.c (bT 9 (s / 16)).1,(bT 9 (s / 16)).2)
  else bif gZ (s % 16) 9 then(.g (bZ f (s / 16)).1,(bZ f (s / 16)).2)else bif gZ (s % 16) 10 then(.k 1,s / 16)
  else bif gZ (s % 16) 11 then(.k (s / 256 % 16^(s / 16 % 16)),s / 256 / 16^(s / 16 % 16))
  else bif gZ (s % 16) 12 then(.a (bZ f (s / 16)).1 (bZ f (bZ f (s / 16)).2).1,(bZ f (bZ f (s / 16)).2).2)
  else bif gZ (s % 16) 13 then(.m (s / 16 % 256) (bZ f (s / 4096)).1,(bZ f (s / 4096)).2)
  else bif gZ (s % 16) 14 then(.k 0,s / 16)else(.s (bZ f (s / 16)).1 (bZ f (bZ f (s / 16)).2).1,(bZ f (bZ f (s / 16)).2).2)
def hP(c:List Nat)(d:List Int)(r s:Nat):Prop:=bif sy 8 r then Zvs (r-8) ((bZ 9 s).1.ev c d) ((bZ 9 (bZ 9 s).2).1.ev c d)else Fe r ((bT 9 s).1.ev c) ((bT 9 (bT 9 s).2).1.ev c)
noncomputable def hR(r s:Nat):Nat:=bif sy 8 r then(bZ 9 (bZ 9 s).2).2 else(bT 9 (bT 9 s).2).2
noncomputable def hL(r s:Nat):List Nat×List Nat:=bif sy 8 r then loI (r-8) (bZ 9 s).1 (bZ 9 (bZ 9 s).2).1 else(QG r (bT 9 s).1 (bT 9 (bT 9 s).2).1,[])
noncomputable def hH(r s:Nat):List Nat×List Nat:=bif sy 8 r then hiI (r-8) (bZ 9 s).1 (bZ 9 (bZ 9 s).2).1 else(Ff r (bT 9 s).1 (bT 9 (bT 9 s).2).1,[])
theorem ZvW(c:List Nat)(d:List Int)(r s:Nat)(h:hP c d r s):dI c d (hL r s)<=dI c d (hH r s):=by
 unfold hP at h;unfold hL hH;cases e:sy 8 r<;>rw[e]at h
 .exact Int.add_le_add_right (zV.2 (Zpu c _ _ _ h)) _
 .exact Zta c d _ _ _ h
noncomputable def zL:List Nat->Bool
 |[]=>true|x::l=>gZ x 0&&zL l
noncomputable def QL:List Nat->List Nat->Bool
 |[],r=>zL r|x::l,[]=>gZ x 0&&zL l|x::l,y::r=>gZ x y&&QL l r
theorem QM:∀c l,zL l=true->dY c l=0
 |c,[],_=>n6 c|[],x::l,_=>rfl|z::c,x::l,h=>by have h:=(jb _ _).mp h;show z*(x:Int)+dY c l=0;rw[zP h.1,QM c l h.2,zX];exact Jr z
theorem ZqE:∀c l r,QL l r=true->dY c l=dY c r
 |c,[],r,h=>(n6 c).trans (QM c r h).symm|c,x::l,[],h=>(QM c (x::l) h).trans (n6 c).symm|[],x::l,y::r,_=>rfl|z::c,x::l,y::r,h=>by have h:=(jb _ _).mp h;show z*(x:Int)+dY c l=z*(y:Int)+dY c r;rw[zP h.1,ZqE c l r h.2]
noncomputable def z7(u w:List Nat×List Nat):Bool:=xu u.1 w.1&&QL u.2 w.2
theorem Fj(c:List Nat)(d:List Int){u w:List Nat×List Nat}(h:z7 u w=true):dI c d u<=dI c d w:=by have h:=(jb _ _).mp h;exact Z8 (zV.2 (z6 _ _ _ h.1)) (Ew (ZqE d _ _ h.2))
noncomputable def QQ(c:List Nat)(d:List Int):Nat->Nat->Prop
 |0,s=>hP c d (s % 16) (s / 16)|n+1,s=>hP c d (s / 16 % 16) (s / 256)->QQ c d n (hR (s / 16 % 16) (s / 256))
noncomputable def gI(r s:Nat)(L R:List Nat×List Nat):Bool:=bif gZ r 0 then z7 (pL R ((bT 9 s).1.li,[])) (pL L ((bT 9 (bT 9 s).2).1.li,[]))
 else bif gZ r 1 then z7 (xx (pL R ((bT 9 s).1.li,[]))) (pL L ((bT 9 (bT 9 s).2).1.li,[]))
 else bif gZ r 8 then z7 (pL R (cI (bZ 9 s).1 (bZ 9 (bZ 9 s).2).1)) (pL L (cI (bZ 9 (bZ 9 s).2).1 (bZ 9 s).1))
 else bif gZ r 9 then z7 (xx (pL R (cI (bZ 9 s).1 (bZ 9 (bZ 9 s).2).1))) (pL L (cI (bZ 9 (bZ 9 s).2).1 (bZ 9 s).1))
 else z7 (xx R) L
noncomputable def QR:Nat->Nat->List Nat×List Nat->List Nat×List Nat->Bool
 |0,s,L,R=>gI (s % 16) (s / 16) L R|n+1,s,L,R=>QR n (hR (s / 16 % 16) (s / 256)) (pL L (sL (s % 16) (hL (s / 16 % 16) (s / 256)).1,sL (s % 16) (hL (s / 16 % 16) (s / 256)).2)) (pL R (sL (s % 16) (hH (s / 16 % 16) (s / 256)).1,sL (s % 16) (hH (s / 16 % 16) (s / 256)).2))
theorem JT(c:List Nat)(d:List Int)(e:AE):dI c d (e.li,[])=((e.ev c:Nat):Int):=by show((dt (1::c) e.li:Nat):Int)+dY d []=_;rw[n6,zX,e.d_]
theorem Zp7{a b l r:Int}(h:l<=r)(e:r+a<=l+b):a<=b:=by omega
theorem Zo1{a b l r:Int}(h:l<=r)(e:r+a+1<=l+b):a<b:=by omega
theorem Zs0{l r:Int}(h:l<=r)(e:r+1<=l):False:=by omega
theorem Zwv(c:List Nat)(d:List Int)(r s:Nat)(L R:List Nat×List Nat)(h:dI c d L<=dI c d R)(k:gI r s L R=true):hP c d r s:=by
 unfold gI at k;cases e0:gZ r 0 with
 |true=>rw[zP e0]at k ⊢;have e:=Fj c d k;rw[jO,jO,JT,JT]at e;exact zV.1 (Zp7 h e)|false=>
  cases e1:gZ r 1 with
  |true=>rw[zP e1]at k ⊢;have e:=Fj c d k;rw[JQ,jO,jO,JT,JT]at e;exact Js.1 (Zo1 h e)|false=>
   cases e8:gZ r 8 with
   |true=>rw[zP e8]at k ⊢;have e:=Fj c d k;rw[jO,jO]at e;exact ZwC c d (Zp7 h e)|false=>
    cases e9:gZ r 9 with
    |true=>rw[zP e9]at k ⊢;have e:=Fj c d k;rw[JQ,jO,jO]at e;have z:=Zo1 h e;have y:=JR c d (bZ 9 s).1 (bZ 9 (bZ 9 s).2).1;show(bZ 9 s).1.ev c d<(bZ 9 (bZ 9 s).2).1.ev c d;exact Int.lt_of_sub_neg (y▸Int.sub_neg_of_lt z)|false=>rw[e0,e1,e8,e9]at k;have e:=Fj c d k;rw[JQ]at e;exact(Zs0 h e).elim
theorem arI(c:List Nat)(d:List Int):∀(n s:Nat) (L R:List Nat×List Nat),dI c d L<=dI c d R->QR n s L R=true->QQ c d n s
 |0,s,L,R,h,k=>Zwv c d _ _ L R h k|n+1,s,L,R,h,k=>λg=>arI c d n _ _ _ (by rw[jO,jO,JP,JP];exact Z8 h (Int.mul_le_mul_of_nonneg_left (ZvW c d _ _ g) (Et _))) k
end L3
theorem iN(c:List Nat)(d:List Int)(n s:Nat)(h:L3.QR n s ([],[]) ([],[])=true):L3.QQ c d n s:=L3.arI c d n s ([],[]) ([],[]) (Int.le_refl _) h
set_option Elab.async false
set_option linter.all false
set_option maxRecDepth 100000
namespace L2
open PySem PySem.Spec PyProof.Rows
noncomputable abbrev Key:=Sum Int aj
noncomputable def z8:Key->Yd->Bool
 | .inl k,v=>Value.isInt k v|.inr x,v=>Yll x v
noncomputable def Zx4(w:aK):Key->Int
 | .inl k=>hashInt k|.inr x=>hashStr w x
theorem sI:∀{k:Key} {v:Yd},z8 k v=true->(∃i t,k=Sum.inl i/\v=Value.int i t)\/(∃x t,k=Sum.inr x/\v=Value.str x t)
 | .inl i,v,h=>by obtain⟨t,e⟩:=Value.isInt_shape (k:=i) (v:=v) h;exact .inl ⟨i,t,rfl,e⟩|.inr x,v,h=>by obtain⟨t,e⟩:=Value.isStrOf_shape (x:=x) (v:=v) h;exact .inr ⟨x,t,rfl,e⟩
theorem ZnD(i:Int)(t:gY):z8 (.inl i) (.int i t)=true:=by simp[z8,Value.isInt]
theorem Zok(x:aj)(t:gY):z8 (.inr x) (.str x t)=true:=by simp[z8,Yll]
theorem ZuC(a b:Int):decide ((Sum.inl a:Key)=Sum.inl b)=(a==b):=by
 by_cases e:a=b
 .subst e;simp
 .have h:¬(Sum.inl a:Key)=Sum.inl b:=λq=>e (Sum.inl.inj q);rw[decide_eq_false h];exact(beq_eq_false_iff_ne.mpr e).symm
theorem ZuF(a b:aj):decide ((Sum.inr a:Key)=Sum.inr b)=decide (a=b):=by
 by_cases e:a=b
 .subst e;simp
 .have h:¬(Sum.inr a:Key)=Sum.inr b:=λq=>e (Sum.inr.inj q);rw[decide_eq_false h,decide_eq_false e]
theorem Zts(a:Int)(b:aj):decide ((Sum.inl a:Key)=Sum.inr b)=false:=decide_eq_false (λq=>nomatch q)
theorem Ztx(a:aj)(b:Int):decide ((Sum.inr a:Key)=Sum.inl b)=false:=decide_eq_false (λq=>nomatch q)
noncomputable def gR(prog:Y5)(w:aK):PySem.KeyKind prog w Key where
 is:=z8
 hash:=Zx4 w
 inj:=λv a b ha hb=>by
  rcases sI ha with⟨i,t,rfl,rfl⟩|⟨x,t,rfl,rfl⟩
  .rcases sI hb with⟨j,u,rfl,e⟩|⟨y,u,rfl,e⟩
   .injection e with e1 _;rw[e1]
   .exact nomatch e
  .rcases sI hb with⟨j,u,rfl,e⟩|⟨y,u,rfl,e⟩
   .exact nomatch e
   .injection e with e1 _;rw[e1]
 byValue:=λk v h=>by rcases sI h with⟨i,t,rfl,rfl⟩|⟨x,t,rfl,rfl⟩<;>rfl
 pyHash:=λhv h=>by
  rcases sI hv with⟨i,t,rfl,rfl⟩|⟨x,t,rfl,rfl⟩
  .exact X7 h
  .exact X8 h
 eqBool:=λhu hv h=>by
  rcases sI hu with⟨i,t,rfl,rfl⟩|⟨x,t,rfl,rfl⟩
  .rcases sI hv with⟨j,u,rfl,rfl⟩|⟨y,u,rfl,rfl⟩
   .rw[ZuC]at h;exact wpAny_eqBool_int h
   .rw[Zts]at h;exact Yiw i t y u _ _ _ _ h
  .rcases sI hv with⟨j,u,rfl,rfl⟩|⟨y,u,rfl,rfl⟩
   .rw[Ztx]at h;exact Qw x t j u _ _ _ _ h
   .rw[ZuF]at h;exact wpAny_eqBool_str h
 «strs»:=λk x t v h=>by
  rcases sI h with⟨i,u,rfl,e⟩|⟨y,u,rfl,e⟩
  .exact nomatch e
  .injection e with e1 _
   subst e1;cases v<;>rfl
theorem Zkt(prog:Y5)(w:aK)(i:Int)(t:gY):(gR prog w).is (.inl i) (.int i t)=true:=ZnD i t
theorem ZkO(prog:Y5)(w:aK)(x:aj)(t:gY):(gR prog w).is (.inr x) (.str x t)=true:=Zok x t
end L2
namespace L2
open PySem PySem.Spec PyProof.Rows
inductive V where
 |non|bl (b:Bool)|int (i:Int)|str (x:aj)|z9 (b:Array UInt8)|flt (b:UInt64)|ref (a:Ym)|ty (n:String)
 deriving DecidableEq
noncomputable def RelV:V->Yd->Prop
 | .non,u=>u=Value.none|.bl b,u=>u=Value.bool b|.int i,u=>∃t,u=Value.int i t|.str x,u=>∃t,u=Value.str x t
 | .z9 b,u=>∃t,u=Value.bytes b t|.flt b,u=>∃t,u=Value.float b t|.ref a,u=>u=Value.ref a|.ty n,u=>u=Value.type n
noncomputable abbrev Vals:List V->List Yd->Prop:=Paired RelV
theorem Vals.length{xs:List V}{us:List Yd}(r:Vals xs us):xs.length=us.length:=QB r
theorem Vals.get:∀{xs:List V} {us:List Yd} {i:Nat} {x:V},Vals xs us->xs[i]?=Ya x->∃u,us[i]?=Ya u/\RelV x u
 |_,_,_,_,.nil,e=>by simp at e|_,_,0,_,.cons r _,e=>by simp at e;subst e;exact⟨_,rfl,r⟩|_,_,i+1,x,.cons _ t,e=>by obtain⟨u,h1,h2⟩:=Vals.get (i:=i) (x:=x) t (by simpa using e);exact⟨u,by simpa using h1,h2⟩
theorem Vals.set{x:V}{u:Yd}(r:RelV x u):∀{xs:List V} {us:List Yd} (i:Nat),Vals xs us->Vals (xs.set i x) (us.set i u)
 |_,_,_,.nil=>.nil|_,_,0,.cons _ t=>.cons r t|_,_,i+1,.cons q t=>.cons q (Vals.set r i t)
theorem Vals.append:∀{xs ys:List V} {us ws:List Yd},Vals xs us->Vals ys ws->Vals (xs++ys) (us++ws)
 |_,_,_,_,.nil,s=>s|_,_,_,_,.cons r t,s=>.cons r (Vals.append t s)
theorem Vals.take:∀{xs:List V} {us:List Yd} (n:Nat),Vals xs us->Vals (xs.take n) (us.take n)
 |_,_,0,_=>.nil|_,_,_+1,.nil=>.nil|_,_,n+1,.cons r t=>.cons r (Vals.take n t)
theorem Vals.drop:∀{xs:List V} {us:List Yd} (n:Nat),Vals xs us->Vals (xs.drop n) (us.drop n)
 |_,_,0,r=>r|_,_,_+1,.nil=>.nil|_,_,n+1,.cons _ t=>Vals.drop n t
noncomputable def jP:Option V->Option Yd->Prop
 |some v,Ya u=>RelV v u|none,Yh=>True|_,_=>False
noncomputable def KV{κ:Type}:List (κ×V)->List (κ×Yd)->Prop:=Paired λ(p:κ×V) (q:κ×Yd)=>p.1=q.1/\RelV p.2 q.2
noncomputable def kV:Key->V
 | .inl i=>.int i|.inr x=>.str x
inductive HO where
 /--a list -/
 |lst (xs:List V)
 /--a tuple (never changes) -/
 |tup (xs:List V)
 /--a dict whose keys are ints and texts;one whose keys are tuples of ints and texts (the empty one is both) -/
 |dK (kvs:List (Key×V))|dT (kvs:List (List Key×V))
 /--a set of ints:its members,its size -/
 |set (S:Int->Bool) (n:Nat)
 /--an instance of the class at C,its dict at dx,its attributes -/
 |ins (C dx:Ym) (fs:List (aj×V))
 /--the dict of the instance at x -/
 |own (x:Ym)
 /--the dict of an exception -/
 |xd (fs:List (aj×V))
 /--a bound method,f of x -/
 |met (f x:Ym)
 /--a range object lo,lo+1,.. below hi -/
 |JV (lo hi:Int)
 /--a thing that is known to the object (the script;a dict while a loop walks it):read,never written while it is so -/
 |fB (o:aD) (u:HO)
 /--a code object's table -/
 |uU (ps:Array Yd)
 /--any other thing,by what is true of its one object (a def of one's own:AfI a S n:=HO.ext λh=>..) -/
 |ext (φ:au->Prop)
noncomputable abbrev Hp:=Ym->Option HO
noncomputable def upd(H:Hp)(a:Ym)(o:HO):Hp:=λb=>if b=a then Ya o else H b
variable{a:Ym}{H:Hp}
theorem mO{o:HO}:upd H a o a=Ya o:=by unfold upd;rw[if_pos rfl]
variable{b:Ym}
theorem cW{o:HO}(h:b≠a):upd H a o b=H b:=by unfold upd;rw[if_neg h]
theorem Zvl{o u:HO}(h:H a=Ya o)(h':H b=Ya u)(d:o≠u):a≠b:=by intro e;subst e;rw[h]at h';exact d (gP h')
theorem qx{o:HO}(h:H a=Ya o)(h':H b=Yh):a≠b:=by intro e;subst e;rw[h]at h';cases h'
section
variable (P:Y5) (w:aK)
def qy(h:au)(a:Ym)(items:Array Yd):Prop:=∃o,h.get? a=Ya o/\(o.cls= .type "tuple" /\o.dict=Yh)/\∃n,o.data= .seq items n
theorem qy.tup{h:au}{a:Ym}{items:Array Yd}(x:qy h a items):IsTup h a items:=let⟨o,e,c,d⟩:=x;⟨o,e,c.1,d⟩
theorem qy.new(h:au)(items:Array Yd):qy (h.push {cls:=.type "tuple",data:=.seq items}) h.objs.size items:=⟨_,Y1 _ rfl,⟨rfl,rfl⟩,0,rfl⟩
noncomputable def eN(H:Hp)(h:au)(a:Ym):HO->Prop
 | .lst xs=>xs.length<=Y8/\∃(its:List Yd) (n:Nat),Vals xs its/\h.get? a=Ya {cls:=.type "list",data:=.seq its.toArray n}|.tup xs=>xs.length<=Y8/\∃its:List Yd,Vals xs its/\qy h a its.toArray|.dK kvs=>kvs.length<=Y8/\(a==p8)=false/\∃vs,KV kvs vs/\h.DictOf (gR P w) a vs|.dT kvs=>kvs.length<=Y8/\(a==p8)=false/\∃xs:List (List Key×Ym×Yd),
   Paired (λ(p:List Key×V) (q:List Key×Ym×Yd)=>p.1=q.1/\H q.2.1=Ya (.tup (p.1.map kV))/\RelV p.2 q.2.2) kvs xs/\
   ∃o es ep,h.get? a=Ya o/\o.ExactDict/\o.data= .dict es ep/\es.toList=xs.map (entryOfKey (zr (gR P w)))/\(xs.map (·.1)).Nodup
 | .set S n=>h.SetOf (intKind P w) a S n|.ins C dx fs=>H dx=Ya (.own a)/\fs.length<=1000/\dx≠a/\h.get? a=Ya (uq C dx)/\
   ∃mA,h.Ns1 dx mA/\(∀f,jP (fs.lookup f) (mA f))/\O7 mA (fs.map (·.1))
 | .own _=>∃o,h.get? a=Ya o|.xd fs=>∃mA,h.Ns1 a mA/\∀f,jP (fs.lookup f) (mA f)|.JV lo hi=>∃t u v,h.get? a=Ya {cls:=.type "range",data:=.fields #[.int lo t,.int hi u,.int 1 v]}|.fB o u=>h.get? a=Ya o/\eN H h a u
 | .uU ps=>h.get? a=Ya {cls:=.none,data:=.fields ps}|.met f x=>h.get? a=Ya (Oi (.ref f) (.ref x))|.ext φ=>φ h/\(∃o,h.get? a=Ya o)/\∀h1 h2:au,φ h1->(∀o,h1.get? a=Ya o->h2.get? a=Ya o)->φ h2
def dz(H:Hp)(h:au):Prop:=∀a o,H a=Ya o->eN P w H h a o
end
section
variable {P:Y5} {w:aK} {H H':Hp} {h h':au} {a:Ym} {o:HO}
theorem eN.lt(x:eN P w H h a o):a<h.objs.size:=by
 cases o with
 |lst xs=>obtain⟨_,_,_,_,e⟩:=x;exact Yu e|tup xs=>obtain⟨_,_,_,p⟩:=x;exact p.tup.lt|dK kvs=>obtain⟨_,_,_,_,o,_,_,e,_⟩:=x;exact Yu e|dT kvs=>obtain⟨_,_,_,_,o,_,_,e,_⟩:=x;exact Yu e
 |set S n=>obtain⟨o,_,_,_,e,_⟩:=x;exact Yu e|ins C dx fs=>obtain⟨_,_,_,e,_⟩:=x;exact Yu e|own y=>obtain⟨_,e⟩:=x;exact Yu e|xd fs=>obtain⟨_,⟨_,_,_,e,_⟩,_⟩:=x;exact Yu e
 |JV lo hi=>obtain⟨_,_,_,e⟩:=x;exact Yu e|fB ob u=>obtain⟨e,_⟩:=x;exact Yu e|uU ps=>exact Yu (show h.get? a=Ya _ from x)|met f y=>exact Yu (show h.get? a=Ya _ from x)
 |ext φ=>obtain⟨_,⟨_,e⟩,_⟩:=x;exact Yu e
theorem Paired.N_{α β:Type}{F G:α->β->Prop}:∀{l₁:List α} {l₂:List β},Paired F l₁ l₂->(∀a b,F a b->G a b)->Paired G l₁ l₂
 |_,_,.nil,_=>.nil|_,_,.cons r t,f=>.cons (f _ _ r) (Paired.N_ t f)
theorem eN.stay(x:eN P w H h a o)(k:∀b u,(b=a\/H b=Ya (.own a))->h.get? b=Ya u->h'.get? b=Ya u)(ho:∀b,H b=Ya (.own a)->H' b=Ya (.own a))(ht:∀b xs,H b=Ya (.tup xs)->H' b=Ya (.tup xs)):eN P w H' h' a o:=by
 induction o with
 |lst xs=>obtain⟨z,its,n,r,e⟩:=x;exact⟨z,its,n,r,k _ _ (.inl rfl) e⟩|tup xs=>obtain⟨z,its,r,ob,e,c⟩:=x;exact⟨z,its,r,ob,k _ _ (.inl rfl) e,c⟩|dK kvs=>obtain⟨z,y,vs,r,ob,es,ep,e,c⟩:=x;exact⟨z,y,vs,r,ob,es,ep,k _ _ (.inl rfl) e,c⟩|dT kvs=>obtain⟨z,y,xs,r,ob,es,ep,e,c⟩:=x;exact⟨z,y,xs,Paired.N_ r λp q z=>⟨z.1,ht _ _ z.2.1,z.2.2⟩,ob,es,ep,k _ _ (.inl rfl) e,c⟩
 |set S n=>obtain⟨ob,es,ep,t,e,c⟩:=x;exact⟨ob,es,ep,t,k _ _ (.inl rfl) e,c⟩|ins C dx fs=>obtain⟨d,z,ne,e,mA,⟨od,es,ep,e2,c⟩,r⟩:=x;exact⟨ho _ d,z,ne,k _ _ (.inl rfl) e,mA,⟨od,es,ep,k _ _ (.inr d) e2,c⟩,r⟩
 |own y=>obtain⟨ob,e⟩:=x;exact⟨ob,k _ _ (.inl rfl) e⟩|xd fs=>obtain⟨mA,⟨od,es,ep,e,c⟩,r⟩:=x;exact⟨mA,⟨od,es,ep,k _ _ (.inl rfl) e,c⟩,r⟩|JV lo hi=>obtain⟨t,u,v,e⟩:=x;exact⟨t,u,v,k _ _ (.inl rfl) e⟩|fB ob u ih=>obtain⟨e,q⟩:=x;exact⟨k _ _ (.inl rfl) e,ih q⟩
 |uU ps=>have e:h.get? a=Ya {cls:=.none,data:=.fields ps}:=x;show h'.get? a=Ya {cls:=.none,data:=.fields ps};exact k a _ (.inl rfl) e|met f y=>have e:h.get? a=Ya (Oi (.ref f) (.ref y)):=x;show h'.get? a=Ya (Oi (.ref f) (.ref y));exact k a _ (.inl rfl) e|ext φ=>obtain⟨p,⟨o,e⟩,st⟩:=x;exact⟨st _ _ p λo q=>k _ _ (.inl rfl) q,⟨o,k _ _ (.inl rfl) e⟩,st⟩
theorem dz.lt(x:dz P w H h)(e:H a=Ya o):a<h.objs.size:=(x a o e).lt
theorem dz.fresh(x:dz P w H h)(e:h.objs.size<=a):H a=Yh:=by
 cases q:H a with
 |none=>rfl|some u=>exact absurd (Yn (x.lt q) e) (rZ _)
theorem dz.kept(x:dz P w H h)(k:∀b u,h.get? b=Ya u->h'.get? b=Ya u):dz P w H h':=λa o e=>(x a o e).stay (λb u _ q=>k b u q) (λ_ q=>q) λ_ _ q=>q
theorem dz.laid(x:dz P w H h)(k:∀b u,h.get? b=Ya u->h'.get? b=Ya u)(hp:h.objs.size<=a)(new:eN P w (upd H a o) h' a o):dz P w (upd H a o) h':=λb u e=>by
 have hn:=x.fresh hp;by_cases hb:b=a
 .subst hb;rw[mO]at e;cases e;exact new
 .rw[cW hb]at e;exact(x b u e).stay (λc v _ q=>k c v q) (λc q=>by rw[cW (qx q hn)];exact q) λc xs q=>by rw[cW (qx q hn)];exact q
end
def Rd(H:Hp)(a:Ym)(u:HO):Prop:=H a=Ya u\/∃o,H a=Ya (.fB o u)
theorem Rd.ok{P:Y5}{w:aK}{h:au}{u:HO}(r:Rd H a u)(x:dz P w H h):eN P w H h a u:=by
 rcases r with r|⟨o,r⟩
 .exact x a u r
 .obtain⟨_,q⟩:=x a _ r;exact q
noncomputable def Fl:Option HO->Prop
 |some (.lst _)=>True|some (.dK _)=>True|some (.dT _)=>True|some (.set _ _)=>True
 |some (.ins _ _ _)=>True|some (.ext _)=>True|_=>False
section
variable {P:Y5} {w:aK} {H:Hp} {h h':au} {x e:Ym} {o':HO}
theorem dz.write(ok:dz P w H h)(mu:Fl (H x))(he:e=x\/H e=Ya (.own x))(k:∀b u,b≠e->h.get? b=Ya u->h'.get? b=Ya u)(heo:∃u,h'.get? e=Ya u)(new:eN P w (upd H x o') h' x o'):dz P w (upd H x o') h':=λb u q=>by
 have Wx:∀c y,H c=Ya (.own y)->c≠x:=λc y r z=>by subst z;rw[r]at mu;exact mu
 have Ac4:∀c xs,H c=Ya (.tup xs)->c≠x:=λc xs r z=>by subst z;rw[r]at mu;exact mu
 by_cases hb:b=x
 .subst hb;rw[mO]at q;cases q;exact new
 .rw[cW hb]at q;by_cases hbe:b=e
  .have q':H b=Ya (.own x):=by
    rcases he with z|z
    .exact absurd (hbe.trans z) hb
    .rw[hbe];exact z
   rw[q]at q';cases q';obtain⟨v,hv⟩:=heo;exact⟨v,by rw[hbe];exact hv⟩
  .refine(ok b u q).stay (λc v hc r=>k c v ?_ r) (λc r=>by rw[cW (Wx c b r)];exact r) λc xs r=>by rw[cW (Ac4 c xs r)];exact r
   rcases hc with rfl|hc
   .exact hbe
   .rintro rfl;rcases he with z|z
    .exact Wx c b hc z
    .rw[hc]at z;cases z;exact hb rfl
end
structure Un(fs ex:List Ym)(H H':Hp)(h h':au):Prop where
 keep:∀b o,h.get? b=Ya o->H b=Yh->b∉fs->b∉ex->h'.get? b=Ya o
 slot:∀b o,h.get? b=Ya o->H b=Yh->b∈fs->b∉ex->∃sl,h'.get? b=Ya {o with slots:=sl}
 free:∀b o,h.get? b=Ya o->H b=Yh->b∉ex->H' b=Yh
 there:∀b o,h.get? b=Ya o->b∉ex->∃o',h'.get? b=Ya o'
 tups:∀b xs,H b=Ya (.tup xs)->H' b=Ya (.tup xs)
 j7:∀b o u,H b=Ya (.fB o u)->H' b=Ya (.fB o u)
 lG:∀b ps,H b=Ya (.uU ps)->∃more,H' b=Ya (.uU (ps++more))
section
variable {fs fs' ex ex':List Ym} {H H1 H2:Hp} {h h1 h2 h':au} {a x e:Ym} {o:HO}
theorem Un.any(u:Un fs ex H H1 h h1){ob:aD}(q:h.get? b=Ya ob)(n:H b=Yh)(hx:b∉ex):∃sl,h1.get? b=Ya {ob with slots:=sl}:=by
 by_cases hb:b∈fs
 .exact u.slot b ob q n hb hx
 .exact⟨ob.slots,u.keep b ob q n hb hx⟩
theorem Un.trans(a:Un fs ex H H1 h h1)(b:Un fs ex H1 H2 h1 h2):Un fs ex H H2 h h2 where
 keep:=λc ob q n hc hx=>b.keep c ob (a.keep c ob q n hc hx) (a.free c ob q n hx) hc hx
 slot:=λc ob q n hc hx=>by obtain⟨sl,e1⟩:=a.slot c ob q n hc hx;obtain⟨sl',e2⟩:=b.slot c _ e1 (a.free c ob q n hx) hc hx;exact⟨sl',e2⟩
 free:=λc ob q n hx=>by obtain⟨o',e1⟩:=a.there c ob q hx;exact b.free c o' e1 (a.free c ob q n hx) hx
 there:=λc ob q hx=>by obtain⟨o',e1⟩:=a.there c ob q hx;exact b.there c o' e1 hx
 tups:=λc xs q=>b.tups c xs (a.tups c xs q)
 j7:=λc ob xs q=>b.j7 c ob xs (a.j7 c ob xs q)
 lG:=λc ps q=>by obtain⟨m1,e1⟩:=a.lG c ps q;obtain⟨m2,e2⟩:=b.lG c _ e1;exact⟨m1++m2,by rw[e2,Yiy]⟩
theorem Un.kept(k:∀b u,h.get? b=Ya u->h'.get? b=Ya u):Un fs ex H H h h':=⟨λb ob q _ _ _=>k b ob q,λb ob q _ _ _=>⟨ob.slots,k b ob q⟩,λ_ _ _ n _=>n,λb ob q _=>⟨ob,k b ob q⟩,λ_ _ q=>q,λ_ _ _ q=>q,λ_ ps q=>⟨#[],by rw[q];simp⟩⟩
theorem Un.refl:Un fs ex H H h h:=Un.kept λ_ _ q=>q
theorem Un.laid(k:∀b u,h.get? b=Ya u->h'.get? b=Ya u)(hp:h.objs.size<=a)(hn:H a=Yh):Un fs ex H (upd H a o) h h' where
 keep:=λb u q _ _ _=>k b u q
 slot:=λb u q _ _ _=>⟨u.slots,k b u q⟩
 free:=λb u q n _=>by rw[cW (eF (Yn (Yu q) hp))];exact n
 there:=λb u q _=>⟨u,k b u q⟩
 tups:=λb xs q=>by rw[cW (qx q hn)];exact q
 j7:=λb u xs q=>by rw[cW (qx q hn)];exact q
 lG:=λb ps q=>⟨#[],by rw[cW (qx q hn),q];simp⟩
theorem Un.write(mu:Fl (H x))(he:e=x\/H e=Ya (.own x))(k:∀b u,b≠e->h.get? b=Ya u->h'.get? b=Ya u)(heo:∃u,h'.get? e=Ya u):Un fs ex H (upd H x o) h h':=by
 have hx:∀b,H b=Yh->b≠x:=λb n z=>by subst z;rw[n]at mu;exact mu
 have hb:∀b,H b=Yh->b≠e:=λb n z=>by
  subst z;rcases he with r|r
  .exact hx b n r
  .rw[n]at r;cases r
 have hm:∀b u,H b=Ya u->¬Fl (Ya u)->b≠x:=λb u q nm z=>by subst z;rw[q]at mu;exact nm mu
 refine⟨λb u q n _ _=>k b u (hb b n) q,λb u q n _ _=>⟨u.slots,k b u (hb b n) q⟩,λb u q n _=>by rw[cW (hx b n)];exact n,λb u q _=>?_,
  λb xs q=>by rw[cW (hm b _ q λz=>z)];exact q,λb u xs q=>by rw[cW (hm b _ q λz=>z)];exact q,λb ps q=>⟨#[],by rw[cW (hm b _ q λz=>z),q];simp⟩⟩
 by_cases hbe:b=e
 .subst hbe;exact heo
 .exact⟨u,k b u hbe q⟩
end
noncomputable def uV(h:au)(H:Hp):List Ym:=(dX h.objs.size).filter λa=>(H a).isSome
noncomputable def sJ(h:au)(H:Hp):au:=mF h (uV h H)
theorem Znz(h:au)(H:Hp):(sJ h H).objs.size=h.objs.size:=PySem.W.hideAll_size _ _
theorem Zpz{h:au}{o:aD}(e:h.get? b=Ya o)(n:H b=Yh):(sJ h H).get? b=Ya o:=zm _ e λhm=>by have q:(H b).isSome=true:=(ZG.mp hm).2;rw[n]at q;simp at q
theorem Zsg{h:au}{o:aD}(e:(sJ h H).get? b=Ya o):h.get? b=Ya o/\H b=Yh:=by
 have e':h.get? b=Ya o:=Iv (uV h H) e;refine⟨e',?_⟩;cases q:H b with
 |none=>rfl|some x=>have hm:b∈uV h H:=ZG.mpr ⟨En.mpr (Yu e'),by simp[q]⟩;have z:(sJ h H).get? b=Yh:=Xk (uV h H) hm;rw[z]at e;cases e
noncomputable def ZrM(g h:au)(L:Ym):List (Ym×aD):=(dX h.objs.size).filterMap λa=>if a=L\/(g.get? a).isSome=true then Yh else(h.get? a).map λo=>(a,o)
noncomputable def rest(g h:au)(L d:Ym):List (Ym×aD):=(ZrM g h L).filter λp=>decide (p.1≠d)
end L2
namespace L2
open PySem PySem.Spec PyProof.Rows
structure Mod(K:Yb)(mg:aj->Option Yd)(base:au):Prop where
 pH:K.In base
 glob:base.Ns Yy mg
 blt:∃mb,base.Ns Pg mb/\∀x:aj,x≠ "__name__" ->mb x=i_ x
 nolimit:base.NoLimit
/--the context:a def's body (or a comprehension's block) running. base:fixed through the whole law;s₀,H₀:the entry;outer:the frames whose slots others may change(a def's callers);stack:all frames that run;
  ex:iterators that were made ahead of the entry and are walked here (a comprehension's);fn:the names whose cells were made at the entry (a def:all;a comprehension's block:its own);calm:not within an except suite;pn:pins that every state bears;xe:what is wanted of an exception that leaves the code -/
structure Cx where
 prog:Y5
 w:aK
 K:Yb
 mg:aj->Option Yd
 base:au
 A:bj
 N:List aj
 s₀:Yg
 H₀:Hp
 env:cQ
 outer:List cQ
 stack:List cQ
 ex:List Ym
 fn:aj->Bool
 calm:Bool
 pn:List (Ym×aD)
 xe:Yd->Yg->Prop
noncomputable def frs(l:List cQ):List Ym:=l.filterMap (·.frame)
noncomputable abbrev Cx.fs(X:Cx):List Ym:=frs X.outer
def JW(sc:Scope)(x:aj):Prop:=sc.names.lookup x=Ya .local\/sc.names.lookup x=Ya .cell\/sc.names.lookup x=Ya .free
def Loc(sc:Scope)(x:aj):Prop:=sc.names.lookup x=Ya .local\/sc.names.lookup x=Ya .cell
def Look(env:cQ)(h:au)(m:aj->Option Yd)(x:aj)(u:Yd):Prop:=(env.kindOf x=Ya .local/\m x=Ya u)\/((env.kindOf x=Ya .cell\/env.kindOf x=Ya .free)/\∃c,env.cells.lookup x=Ya c/\h.IsCell c (Ya u))
structure Cx.Ok(X:Cx):Prop where
 mod:Mod X.K X.mg X.base
 kind:X.env.scope.kind= .function
 glob:X.env.globals=Yy
 blt:X.env.builtins=Pg
 above:X.s₀.heap.objs.size<=X.env.locals
 inj:∀x y c,X.env.cells.lookup x=Ya c->X.env.cells.lookup y=Ya c->x=y
 has:∀x,(X.env.kindOf x=Ya .cell\/X.env.kindOf x=Ya .free)->∃c,X.env.cells.lookup x=Ya c
 cab:∀x c,X.fn x=true->X.env.cells.lookup x=Ya c->X.s₀.heap.objs.size<=c
 hd:X.calm=true->X.A.handled=Yh
 frames:X.A.frames=Ya X.stack
 z_:X.stack=X.outer\/(X.stack=X.env::X.outer/\X.env.frame=Ya X.env.locals)
 Aa:∀b∈X.ex,b≠X.env.locals/\∀x c,X.env.cells.lookup x=Ya c->c≠b
 bs:∀b o,X.base.get? b=Ya o->X.s₀.heap.get? b=Ya o/\X.H₀ b=Yh
 mQ:X.base.objs.size<=X.s₀.heap.objs.size
 wF:∀b o,X.base.get? b=Ya o->b∉X.ex
 uf:∀b∈X.ex,b∉X.fs
 jJ:X.s₀.heap.FunFrames X.base X.outer
 pI:∀b∈X.fs,X.H₀ b=Yh
structure Inv(X:Cx)(pins:List (Ym×aD))(σ:List (Option V))(H:Hp)(s:Yg):Prop where
 ok:X.Ok
 os:s.os=X.s₀.os
 bare:qp s.gens
 base:Un X.fs X.ex X.H₀ H X.s₀.heap s.heap
 loc:∃m,s.heap.Ns X.env.locals m/\∀(i:Nat) (x:aj) (v:V),X.N[i]?=Ya x->σ[i]?=Ya (Ya v)->JW X.env.scope x->∃u,RelV v u/\Look X.env s.heap m x u
 cell:∀x c,X.env.cells.lookup x=Ya c->∃v,s.heap.IsCell c v
 free:H X.env.locals=Yh
 jH:∀x c,X.env.cells.lookup x=Ya c->H c=Yh
 pin:∀p∈X.pn++pins,s.heap.get? p.1=Ya p.2/\H p.1=Yh/\p.1≠X.env.locals/\p.1∉X.fs/\∀v,p.2.data≠ .cell v
 hok:dz X.prog X.w H s.heap
 len:σ.length=X.N.length
variable{ch:List Ym}{E:Yd->Yg->Prop}{t':Nat}
section
variable {X:Cx} {pins:List (Ym×aD)} {σ:List (Option V)} {H H':Hp} {s:Yg} {h':au}
theorem Cx.Ok.Ac5(ok:X.Ok){b:Ym}{o:aD}(e:X.base.get? b=Ya o):b∉X.fs:=λhb=>by have:=(ok.jJ.mem hb).1;rw[e]at this;cases this
theorem Inv.bs(I:Inv X pins σ H s):∀b o,X.base.get? b=Ya o->s.heap.get? b=Ya o/\H b=Yh:=λb o e=>⟨I.base.keep b o (I.ok.bs b o e).1 (I.ok.bs b o e).2 (I.ok.Ac5 e) (I.ok.wF b o e),I.base.free b o (I.ok.bs b o e).1 (I.ok.bs b o e).2 (I.ok.wF b o e)⟩
theorem Inv.bk(I:Inv X pins σ H s):∀b o,X.base.get? b=Ya o->s.heap.get? b=Ya o:=λb o e=>(I.bs b o e).1
theorem Inv.mod(I:Inv X pins σ H s):Mod X.K X.mg X.base:=I.ok.mod
theorem Inv.cL(I:Inv X pins σ H s):X.K.In s.heap:=I.ok.mod.pH.keeps I.bk
theorem Inv.nolimit(I:Inv X pins σ H s):s.heap.NoLimit:=I.ok.mod.nolimit.keeps I.bk
theorem Inv.fr(I:Inv X pins σ H s):∃m,Fr X.base X.env.locals s.heap m:=
 let⟨m,hn,_⟩:=I.loc
 ⟨m,hn,I.bk,Yv I.ok.mQ I.ok.above⟩
theorem Inv.lt(I:Inv X pins σ H s):X.env.locals<s.heap.objs.size:=let⟨_,hn,_⟩:=I.loc;hn.lt
theorem Inv.sz(I:Inv X pins σ H s):X.s₀.heap.objs.size<=s.heap.objs.size:=Yv I.ok.above (zT I.lt)
theorem Inv.Ac6(I:Inv X pins σ H s){a:Ym}(h:s.heap.objs.size<=a):a∉X.fs:=λhb=>by obtain⟨_,o,ho,_⟩:=I.ok.jJ.mem hb;exact absurd (Yn (Yu ho) (Yv I.sz h)) (rZ _)
theorem Inv.uW(I:Inv X pins σ H s):∀x c,X.env.cells.lookup x=Ya c->c≠X.env.locals:=λx c e z=>by obtain⟨v,o,ho,hd⟩:=I.cell x c e;obtain⟨m,⟨o',es,ep,ho',hd',_⟩,_⟩:=I.loc;rw[z,ho']at ho;cases ho;rw[hd']at hd;cases hd
theorem Inv.jJ(I:Inv X pins σ H s):s.heap.FunFrames X.base X.outer:=by
 have all:∀(l:List cQ),(∀b∈frs l,b∈X.fs)->X.s₀.heap.FunFrames X.base l->s.heap.FunFrames X.base l:=by
  intro l
  induction l with
  |nil=>intro _ _;trivial|cons env r ih=>intro hs hl;obtain⟨hk,⟨L,o,hf,hn,ho,hd⟩,hr⟩:=hl;have hL:L∈X.fs:=hs L (by unfold frs;rw[Pz,hf];exact Yw);obtain⟨sl,e⟩:=I.base.slot L o ho (I.ok.pI L hL) hL λz=>I.ok.uf L z hL;exact⟨hk,⟨L,_,hf,hn,e,hd⟩,ih (λb hb=>hs b (by unfold frs;rw[Pz,hf];exact Yp _ hb)) hr⟩
 exact all X.outer (λ_ hb=>hb) I.ok.jJ
theorem Inv.stack(I:Inv X pins σ H s):s.heap.FunFrames X.base X.stack:=by
 rcases I.ok.z_ with e|⟨e,hf⟩
 .rw[e];exact I.jJ
 .rw[e];obtain⟨m,hn,_⟩:=I.loc;refine .cons (by rw[I.ok.kind];decide) hf hn ?_ I.jJ;exact Heap.get?_none_of_le (Yv I.ok.mQ I.ok.above)
theorem Inv.uc(I:Inv X pins σ H s):∀b∈frs X.stack,b∈X.env.locals::X.fs:=λb hb=>by
 rcases I.ok.z_ with e|⟨e,hf⟩
 .rw[e]at hb;exact Yp _ hb
 .rw[e]at hb;unfold frs at hb;rw[Pz,hf]at hb;exact hb
theorem Inv.NP(I:Inv X pins σ H s):∀b∈frs X.stack,H b=Yh:=λb hb=>by
 rcases Y6.mp (I.uc b hb)with e|hb
 .rw[e];exact I.free
 .obtain⟨_,o,ho,_⟩:=I.ok.jJ.mem hb;exact I.base.free b o ho (I.ok.pI b hb) λz=>I.ok.uf b z hb
theorem Inv.step{g':Array GenState}{d':Drawn}(I:Inv X pins σ H s)(hch:∀b∈ch,(b∈X.ex\/X.s₀.heap.objs.size<=b)/\b≠X.env.locals/\(∀x c,X.env.cells.lookup x=Ya c->c≠b)/\∀p∈X.pn++pins,p.1≠b)(keep:∀b o,b≠X.env.locals->b∉X.fs->b∉ch->s.heap.get? b=Ya o->H b=Yh->h'.get? b=Ya o)(slot:∀b o,b≠X.env.locals->b∈X.fs->b∉ch->s.heap.get? b=Ya o->H b=Yh->∃sl,h'.get? b=Ya {o with slots:=sl})(free:∀b o,b∉ch->s.heap.get? b=Ya o->H b=Yh->H' b=Yh)(there:∀b o,b∉ch->s.heap.get? b=Ya o->∃o',h'.get? b=Ya o')(tups:∀b xs,H b=Ya (.tup xs)->H' b=Ya (.tup xs))(j7:∀b o u,H b=Ya (.fB o u)->H' b=Ya (.fB o u))(lG:∀b ps,H b=Ya (.uU ps)->∃more,H' b=Ya (.uU (ps++more)))(ns:∀m,s.heap.Ns X.env.locals m->h'.Ns X.env.locals m)(hok:dz X.prog X.w H' h')(hg:qp g'):
  Inv X pins σ H' {s with heap:=h',gens:=g',drawn:=d',toks:=t'}:=by
 have neL:∀b o,X.s₀.heap.get? b=Ya o->b≠X.env.locals:=λb o e=>eF (Yn (Yu e) I.ok.above);have JX:∀b o,X.s₀.heap.get? b=Ya o->b∉X.ex->b∉ch:=λb o e hx hb=>by
  rcases(hch b hb).1 with z|z
  .exact hx z
  .exact absurd (Yn (Yu e) z) (rZ _)
 have cellK:∀x c,X.env.cells.lookup x=Ya c->∀v,s.heap.IsCell c v->h'.IsCell c v:=λx c e v ak=>by
  obtain⟨o,ho,hd⟩:=ak;have Fo:c∉ch:=λz=>(hch c z).2.2.1 x c e rfl;by_cases hc:c∈X.fs
  .obtain⟨sl,q⟩:=slot c o (I.uW x c e) hc Fo ho (I.jH x c e);exact⟨_,q,hd⟩
  .exact⟨o,keep c o (I.uW x c e) hc Fo ho (I.jH x c e),hd⟩
 refine⟨I.ok,I.os,hg,⟨λb o e n hb hx=>?_,λb o e n hb hx=>?_,λb o e n hx=>?_,λb o e hx=>?_,λb xs e=>tups b xs (I.base.tups b xs e),λb o xs e=>j7 b o xs (I.base.j7 b o xs e),λb ps e=>?_⟩,?_,λx c e=>?_,?_,λx c e=>?_,λp hp=>?_,hok,I.len⟩
 .exact keep b o (neL b o e) hb (JX b o e hx) (I.base.keep b o e n hb hx) (I.base.free b o e n hx)
 .obtain⟨sl,e1⟩:=I.base.slot b o e n hb hx;obtain⟨sl',e2⟩:=slot b _ (neL b o e) hb (JX b o e hx) e1 (I.base.free b o e n hx);exact⟨sl',e2⟩
 .obtain⟨o',e1⟩:=I.base.there b o e hx;exact free b o' (JX b o e hx) e1 (I.base.free b o e n hx)
 .obtain⟨o',e1⟩:=I.base.there b o e hx;exact there b o' (JX b o e hx) e1
 .obtain⟨m1,e1⟩:=I.base.lG b ps e;obtain⟨m2,e2⟩:=lG b _ e1;exact⟨m1++m2,by rw[e2,Yiy]⟩
 .obtain⟨m,hn,hl⟩:=I.loc;refine⟨m,ns m hn,λi x v e1 e2 e3=>?_⟩;obtain⟨u,r,l⟩:=hl i x v e1 e2 e3;refine⟨u,r,?_⟩;rcases l with l|⟨k,c,e,z⟩
  .exact .inl l
  .exact .inr ⟨k,c,e,cellK x c e _ z⟩
 .obtain⟨v,z⟩:=I.cell x c e;exact⟨v,cellK x c e v z⟩
 .obtain⟨m,⟨o,_,_,ho,_⟩,_⟩:=I.loc;exact free _ o (λz=>(hch _ z).2.1 rfl) ho I.free
 .obtain⟨v,o,ho,hd⟩:=I.cell x c e;exact free c o (λz=>(hch c z).2.2.1 x c e rfl) ho (I.jH x c e)
 .obtain⟨e,n,ne,nf,d⟩:=I.pin p hp;have Fo:p.1∉ch:=λz=>(hch p.1 z).2.2.2 p hp rfl;exact⟨keep p.1 p.2 ne nf Fo e n,free p.1 p.2 Fo e n,ne,nf,d⟩
theorem Inv.un(I:Inv X pins σ H s)(u:Un X.fs [] H H' s.heap h')(hok:dz X.prog X.w H' h'):Inv X pins σ H' {s with heap:=h',toks:=t'}:=by obtain⟨m,⟨o,es,ep,ho,r⟩,_⟩:=id I.loc;obtain⟨sl,hL⟩:=u.any ho I.free (by simp);exact I.step (g':=s.gens) (d':=s.drawn) (ch:=[]) (λ_ z=>nomatch z) (λb o _ hb _ e n=>u.keep b o e n hb (by simp)) (λb o _ hb _ e n=>u.slot b o e n hb (by simp)) (λb o _ e n=>u.free b o e n (by simp)) (λb o _ e=>u.there b o e (by simp)) u.tups u.j7 u.lG (λm' hm=>by obtain⟨o',es',ep',ho',r'⟩:=hm;rw[ho]at ho';cases ho';exact⟨_,es',ep',hL,r'⟩) hok I.bare
theorem Inv.call{g':Array GenState}{d':Drawn}(I:Inv X pins σ H s)(u:Un (frs X.stack) ch H H' s.heap h')(hok:dz X.prog X.w H' h')(hg:qp g')(hch:∀b∈ch,(b∈X.ex\/X.s₀.heap.objs.size<=b)/\b≠X.env.locals/\(∀x c,X.env.cells.lookup x=Ya c->c≠b)/\∀p∈X.pn++pins,p.1≠b):
  Inv X pins σ H' {s with heap:=h',gens:=g',drawn:=d',toks:=t'}:=by
 obtain⟨m,⟨o,es,ep,ho,r⟩,_⟩:=id I.loc;obtain⟨sl,hL⟩:=u.any ho I.free λz=>(hch _ z).2.1 rfl;exact I.step (ch:=ch) hch (λb o hL hb hc e n=>u.keep b o e n (λz=>(Y6.mp (I.uc b z)).elim hL hb) hc) (λb o _ _ hc e n=>u.any e n hc) (λb o hc e n=>u.free b o e n hc) (λb o hc e=>u.there b o e hc) u.tups u.j7 u.lG (λm' hm=>by obtain⟨o',es',ep',ho',r'⟩:=hm;rw[ho]at ho';cases ho';exact⟨_,es',ep',hL,r'⟩) hok hg
theorem Inv.turned{it:Ym}(I:Inv X pins σ H s)(k:∀b o,b≠it->s.heap.get? b=Ya o->h'.get? b=Ya o)(hn:H it=Yh)(hL:it≠X.env.locals)(h1:it∈X.ex\/X.s₀.heap.objs.size<=it)(h2:∀x c,X.env.cells.lookup x=Ya c->c≠it)(h3:∀p∈X.pn++pins,p.1≠it):Inv X pins σ H {s with heap:=h',toks:=t'}:=by
 have Fp:∀b u,H b=Ya u->b≠it:=λb u e z=>by rw[z,hn]at e;cases e
 refine I.step (g':=s.gens) (d':=s.drawn) (ch:=[it]) (λb hb=>?_) (λb o _ _ hc e _=>k b o (λz=>hc (by simp[z])) e) (λb o _ _ hc e _=>⟨o.slots,k b o (λz=>hc (by simp[z])) e⟩) (λ_ _ _ _ n=>n)
  (λb o hc e=>⟨o,k b o (λz=>hc (by simp[z])) e⟩) (λ_ _ e=>e) (λ_ _ _ e=>e) (λb ps e=>⟨#[],by rw[e];simp⟩) (λm hm=>?_) (λb u e=>?_) I.bare
 .have e:b=it:=by simpa using hb
  subst e;exact⟨h1,hL,h2,h3⟩
 .obtain⟨o,es,ep,ho,r⟩:=hm;exact⟨o,es,ep,k _ o (bW hL) ho,r⟩
 .refine(I.hok b u e).stay (λc v hc q=>k c v ?_ q) (λ_ q=>q) λ_ _ q=>q;rcases hc with z|z
  .rw[z];exact Fp b u e
  .exact Fp c _ z
theorem Inv.tok(I:Inv X pins σ H s)(t:Nat):Inv X pins σ H {s with toks:=t}:=I.un (h':=s.heap) (t':=t) Un.refl I.hok
theorem Inv.kept(I:Inv X pins σ H s)(k:∀b u,s.heap.get? b=Ya u->h'.get? b=Ya u):Inv X pins σ H {s with heap:=h',toks:=t'}:=I.un (Un.kept k) (I.hok.kept k)
theorem Inv.laid{a:Ym}{o:HO}(I:Inv X pins σ H s)(k:∀b u,s.heap.get? b=Ya u->h'.get? b=Ya u)(hp:s.heap.objs.size<=a)(new:eN X.prog X.w (upd H a o) h' a o):
  Inv X pins σ (upd H a o) {s with heap:=h',toks:=t'}:=I.un (Un.laid k hp (I.hok.fresh hp)) (I.hok.laid k hp new)
theorem Inv.write{x e:Ym}{o:HO}(I:Inv X pins σ H s)(mu:Fl (H x))(he:e=x\/H e=Ya (.own x))(k:∀b u,b≠e->s.heap.get? b=Ya u->h'.get? b=Ya u)(heo:∃u,h'.get? e=Ya u)(new:eN X.prog X.w (upd H x o) h' x o):Inv X pins σ (upd H x o) {s with heap:=h',toks:=t'}:=I.un (Un.write mu he k heo) (I.hok.write mu he k heo new)
theorem Inv.Wh{oX:List (Ym×aD)}(I:Inv X pins σ H s)(h:∀p∈oX,s.heap.get? p.1=Ya p.2/\H p.1=Yh/\p.1≠X.env.locals/\p.1∉X.fs/\∀v,p.2.data≠ .cell v):Inv X oX σ H s:=⟨I.ok,I.os,I.bare,I.base,I.loc,I.cell,I.free,I.jH,λp hp=>(rT.mp hp).elim (λz=>I.pin p (zJ _ z)) (h p),I.hok,I.len⟩
theorem QS{N:List aj}(hN:N.Nodup){i j:Nat}{x:aj}(a:N[i]?=Ya x)(b:N[j]?=Ya x):i=j:=by obtain⟨h1,e1⟩:=Yf.mp a;obtain⟨h2,e2⟩:=Yf.mp b;exact(ZD hN).mp (e1.trans e2.symm)
theorem QT{M:Model}{A:bj}{i:Nat}{x:aj}{v:V}{u:Yd}{Q:Unit->Yg->Prop}(I:Inv X pins σ H s)(hN:X.N.Nodup)(hi:X.N[i]?=Ya x)(hx:Loc X.env.scope x)(r:RelV v u)(h:∀s',Inv X pins (σ.set i (Ya v)) H s'->(∃a,xr a s.heap s'.heap/\(a=X.env.locals\/X.env.cells.lookup x=Ya a))->Q () s')(hf:X.fn x=true\/X.env.scope.names.lookup x=Ya .local:=by first|exact .inl rfl|exact .inr rfl|assumption):Yz M A (storeName X.env x u) Q E s:=by
 obtain⟨m,hn,hl⟩:=id I.loc;have hcls:(X.env.scope.kind== .class|| (X.env.scope.kind== .module&&X.env.locals !=X.env.globals))=false:=by rw[I.ok.kind];rfl
 have hiσ:i<σ.length:=by rw[I.len];exact(Yf.mp hi).1
 have uW:=I.uW;have tracked:∀{a:Ym} {h':au},(∃o,s.heap.get? a=Ya o/\H a=Yh)->xr a s.heap h'->dz X.prog X.w H h':=λ{a h'} ha hs b ob e=>by
  obtain⟨_,_,hfree⟩:=ha;refine(I.hok b ob e).stay (λc w' hc q=>(hs.2 c ?_).trans q) (λ_ q=>q) λ_ _ q=>q;rintro rfl;rcases hc with rfl|hc
  .rw[hfree]at e;cases e
  .rw[hfree]at hc;cases hc
 rcases hx with hk|hk
 .refine Xy hk hn (λh' hn' hs=>?_) hcls;obtain⟨oL,_,_,hoL,_⟩:=id hn;refine h _ ⟨I.ok,I.os,I.bare,⟨λb o e n hb hx=>?_,λb o e n hb hx=>?_,I.base.free,λb o e hx=>?_,I.base.tups,I.base.j7,I.base.lG⟩,⟨_,hn',λj y v' e1 e2 e3=>?_⟩,λy c e=>?_,I.free,I.jH,λp hp=>?_,tracked ⟨oL,hoL,I.free⟩ hs,by simpa using I.len⟩ ⟨_,hs,.inl rfl⟩
  .exact(hs.2 b (eF (Yn (Yu e) I.ok.above))).trans (I.base.keep b o e n hb hx)
  .obtain⟨sl,e1⟩:=I.base.slot b o e n hb hx;exact⟨sl,(hs.2 b (eF (Yn (Yu e) I.ok.above))).trans e1⟩
  .obtain⟨o',e1⟩:=I.base.there b o e hx;exact⟨o',(hs.2 b (eF (Yn (Yu e) I.ok.above))).trans e1⟩
  .by_cases hj:j=i
   .subst hj;rw[hi]at e1;cases e1;rw[Y2 hiσ]at e2;cases e2;exact⟨u,r,.inl ⟨hk,by simp⟩⟩
   .rw[Yj (bW hj)]at e2;obtain⟨u',r',q⟩:=hl j y v' e1 e2 e3;refine⟨u',r',?_⟩;rcases q with⟨k,e⟩|⟨k,c,e,z⟩
    .refine .inl ⟨k,?_⟩;have:y≠x:=λe=>hj (QS hN e1 (e▸hi));simp[this,e]
    .exact .inr ⟨k,c,e,z.sameBut hs (uW y c e)⟩
  .obtain⟨w',z⟩:=I.cell y c e;exact⟨w',z.sameBut hs (uW y c e)⟩
  .obtain⟨e,n,ne,nf,d⟩:=I.pin p hp;exact⟨(hs.2 p.1 ne).trans e,n,ne,nf,d⟩
 .have hfn:X.fn x=true:=by
   rcases hf with z|z
   .exact z
   .rw[z]at hk;cases hk
  obtain⟨c,hc⟩:=I.ok.has x (.inl hk);obtain⟨w',z⟩:=I.cell x c hc;refine wpAny_storeName_cell I.ok.kind hk hc z (λh' hc' hs=>?_);obtain⟨oc,hoc,Ac7⟩:=id z;refine h {s with heap:=h'} ⟨I.ok,I.os,I.bare,⟨λb o e n hb hx=>?_,λb o e n hb hx=>?_,I.base.free,λb o e hx=>?_,I.base.tups,I.base.j7,I.base.lG⟩,⟨m,hn.sameBut hs (bW (uW x c hc)),λj y v' e1 e2 e3=>?_⟩,λy c' e=>?_,I.free,I.jH,λp hp=>?_,tracked ⟨oc,hoc,I.jH x c hc⟩ hs,by simpa using I.len⟩ ⟨c,hs,.inr hc⟩
  .exact(hs.2 b (eF (Yn (Yu e) (I.ok.cab x c hfn hc)))).trans (I.base.keep b o e n hb hx)
  .obtain⟨sl,e1⟩:=I.base.slot b o e n hb hx;exact⟨sl,(hs.2 b (eF (Yn (Yu e) (I.ok.cab x c hfn hc)))).trans e1⟩
  .obtain⟨o',e1⟩:=I.base.there b o e hx;exact⟨o',(hs.2 b (eF (Yn (Yu e) (I.ok.cab x c hfn hc)))).trans e1⟩
  .by_cases hj:j=i
   .subst hj;rw[hi]at e1;cases e1;rw[Y2 hiσ]at e2;cases e2;exact⟨u,r,.inr ⟨.inl hk,c,hc,hc'⟩⟩
   .rw[Yj (bW hj)]at e2;obtain⟨u',r',q⟩:=hl j y v' e1 e2 e3;refine⟨u',r',?_⟩;rcases q with q|⟨k,c',e,z'⟩
    .exact .inl q
    .refine .inr ⟨k,c',e,z'.sameBut hs ?_⟩;rintro rfl;exact hj (QS hN e1 (I.ok.inj _ _ _ e hc▸hi))
  .by_cases hcc:c'=c
   .subst hcc;exact⟨_,hc'⟩
   .obtain⟨w2,z2⟩:=I.cell y c' e;exact⟨w2,z2.sameBut hs hcc⟩
  .obtain⟨e,n,ne,nf,d⟩:=I.pin p hp;refine⟨(hs.2 p.1 ?_).trans e,n,ne,nf,d⟩;intro q;rw[q,hoc]at e;have q':oc=p.2:=gP e;exact d w' (by rw[←q'];exact Ac7)
theorem QV{M:Model}{A:bj}{i:Nat}{x:aj}{v:V}{u:Yd}{Q:Unit->Yg->Prop}(I:Inv X pins σ H s)(hN:X.N.Nodup)(hi:X.N[i]?=Ya x)(hx:Loc X.env.scope x)(r:RelV v u)(h:∀s',Inv X pins (σ.set i (Ya v)) H s'->Q () s')(hf:X.fn x=true\/X.env.scope.names.lookup x=Ya .local:=by first|exact .inl rfl|exact .inr rfl|assumption):Yz M A (storeName X.env x u) Q E s:=QT I hN hi hx r (λs' I' _=>h s' I') hf
theorem Inv.call'{s':Yg}(I:Inv X pins σ H s)(ho:s'.os=s.os)(u:Un (frs X.stack) ch H H' s.heap s'.heap)(hok:dz X.prog X.w H' s'.heap)(hg:qp s'.gens)(hch:∀b∈ch,(b∈X.ex\/X.s₀.heap.objs.size<=b)/\b≠X.env.locals/\(∀x c,X.env.cells.lookup x=Ya c->c≠b)/\∀p∈X.pn++pins,p.1≠b):Inv X pins σ H' s':=by obtain⟨h',g',d',t',o'⟩:=s';have e:o'=s.os:=ho;subst e;exact I.call (g':=g') (t':=t') (d':=d') u hok hg hch
end
noncomputable abbrev XK:=Yd->Option Ym->Hp->Prop
noncomputable abbrev St:=List (Option V)
noncomputable abbrev VK:=V->Hp->Prop
noncomputable abbrev TE:=St->Hp->VK->Prop
noncomputable abbrev TT:=St->Hp->(Bool->Hp->Prop)->Prop
noncomputable abbrev TA:=St->Hp->(List V->Hp->Prop)->Prop
structure Ends where
 nx:St->Hp->Prop
 rt:VK
 bk:St->Hp->Prop:=λ_ _=>False
 ct:St->Hp->Prop:=λ_ _=>False
noncomputable abbrev TS:=Ends->St->Hp->Prop
inductive EP(X:Cx)(pins:List (Ym×aD))(σ:St)(Q:VK)(u:Yd)(s':Yg):Prop where
 |mk (v:V) (H':Hp) (I:Inv X pins σ H' s') (r:RelV v u) (q:Q v H'):EP X pins σ Q u s'
inductive TP(X:Cx)(pins:List (Ym×aD))(σ:St)(Q:Bool->Hp->Prop)(b:Bool)(s':Yg):Prop where
 |mk (H':Hp) (I:Inv X pins σ H' s') (q:Q b H'):TP X pins σ Q b s'
inductive AP(X:Cx)(pins:List (Ym×aD))(σ:St)(Q:List V->Hp->Prop)(us:List Yd)(s':Yg):Prop where
 |mk (vs:List V) (H':Hp) (I:Inv X pins σ H' s') (r:Vals vs us) (q:Q vs H'):AP X pins σ Q us s'
def SP(X:Cx)(pins:List (Ym×aD))(D:Ends)(f:Flow)(s':Yg):Prop:=
 match f with
 | .next=>∃σ' H',Inv X pins σ' H' s'/\D.nx σ' H'|.brk=>∃σ' H',Inv X pins σ' H' s'/\D.bk σ' H'|.cont=>∃σ' H',Inv X pins σ' H' s'/\D.ct σ' H'|.ret u=>∃v σ' H',Inv X pins σ' H' s'/\RelV v u/\D.rt v H'
def PE(X:Cx)(e:Expr)(t:TE):Prop:=∀(pins:List (Ym×aD)) (s:Yg) (σ:St) (H:Hp) (Q:VK),Inv X pins σ H s->t σ H Q->Yz (Y4 X.prog X.w) X.A (aG e X.env) (EP X pins σ Q) X.xe s
def PT(X:Cx)(e:Expr)(t:TT):Prop:=∀(pins:List (Ym×aD)) (s:Yg) (σ:St) (H:Hp) (Q:Bool->Hp->Prop),Inv X pins σ H s->t σ H Q->Yz (Y4 X.prog X.w) X.A (isTrue e X.env (aG e X.env)) (TP X pins σ Q) X.xe s
def PW(X:Cx)(e:Expr)(t:TT):Prop:=∀(whole:kh Yd) (pins:List (Ym×aD)) (s:Yg) (σ:St) (H:Hp) (Q:Bool->Hp->Prop),Inv X pins σ H s->t σ H Q->Yz (Y4 X.prog X.w) X.A (isTrue e X.env whole) (TP X pins σ Q) X.xe s
theorem PW.pt{X:Cx}{e:Expr}{t:TT}(h:PW X e t):PT X e t:=h _
def PA(X:Cx)(es:List Expr)(t:TA):Prop:=∀(pos:aM) (pins:List (Ym×aD)) (s:Yg) (σ:St) (H:Hp) (Q:List V->Hp->Prop),Inv X pins σ H s->t σ H Q->Yz (Y4 X.prog X.w) X.A (spliced (dm pos (Yq es X.env))) (AP X pins σ Q) X.xe s
def PS(X:Cx)(st:Yc6)(t:TS):Prop:=∀(pins:List (Ym×aD)) (s:Yg) (σ:St) (H:Hp) (D:Ends),Inv X pins σ H s->t D σ H->Yz (Y4 X.prog X.w) X.A (exec st X.env) (SP X pins D) X.xe s
def ji(X:Cx)(st:List Yc6)(t:TS):Prop:=∀(pins:List (Ym×aD)) (s:Yg) (σ:St) (H:Hp) (D:Ends),Inv X pins σ H s->t D σ H->Yz (Y4 X.prog X.w) X.A (execs st X.env) (SP X pins D) X.xe s
theorem aH{α:Type}{t:kh α}{Q Q':α->Yg->Prop}{M:Model}{A:bj}{s:Yg}(h:Yz M A t Q E s)(hQ:∀a s,Q a s->Q' a s):Yz M A t Q' E s:=eE h hQ λ_ _ x=>x
end L2
namespace L2
open PySem PySem.Spec PyProof.Rows
section
variable {X:Cx}
def ZxV(i:Nat):TE:=λσ H Q=>∃v,σ[i]?=Ya (Ya v)/\Q v H
def tC(v:V):TE:=λ_ H Q=>Q v H
theorem ZtM{i:Nat}{x:aj}{pos:aM}(hN:X.N[i]?=Ya x)(hv:JW X.env.scope x)(hd:(x==("__debug__":aj))=false:=by decide)(hcd:(x==("__classdict__":aj))=false:=by decide):PE X (.Name x pos) (ZxV i):=by
 intro pins s σ H Q I h;obtain⟨v,e,h⟩:=h;obtain⟨m,hn,hl⟩:=I.loc;obtain⟨u,r,l⟩:=hl i x v hN e hv;have fin:EP X pins σ Q u s:=⟨v,H,I,r,h⟩;rcases l with⟨hk,hm⟩|⟨hk,c,hc,hcell⟩
 .exact Ph (wpAny_loadName_local I.ok.kind hk hn hm fin) hd
 .rcases hk with hk|hk
  .exact Ph (wpAny_loadName_cell I.ok.kind hk hc hcell fin) hd
  .exact Ph (wpAny_loadName_free I.ok.kind hk hc hcell fin hcd) hd
theorem ZuG{i j pos}:PE X (.Constant (.int i) j pos) (tC (.int i)):=λ_ _ _ H _ I h=>wpAny_Constant_int ⟨.int i,H,I.tok _,⟨_,rfl⟩,h⟩
theorem Zv8{b j pos}:PE X (.Constant (.bool b) j pos) (tC (.bl b)):=λ_ _ _ H _ I h=>Constant_bool ⟨.bl b,H,I,rfl,h⟩
theorem Zub{j pos}:PE X (.Constant .none j pos) (tC .non):=λ_ _ _ H _ I h=>Constant_none ⟨.non,H,I,rfl,h⟩
theorem ZtT{x j pos}:PE X (.Constant (.str x) j pos) (tC (.str x)):=λ_ _ _ H _ I h=>Calls.Constant_str ⟨.str x,H,I.tok _,⟨_,rfl⟩,h⟩
def Gl(X:Cx)(x:aj):Prop:=X.env.kindOf x=Ya .globalImplicit
theorem sO{E:Yd->Yg->Prop}{pins:List (Ym×aD)}{s:Yg}{σ:St}{H:Hp}{x:aj}{u:Yd}{pos:aM}{Q:Yd->Yg->Prop}(I:Inv X pins σ H s)(hg:Gl X x)(hm:X.mg x=Ya u)(h:Q u s)(hd:(x==("__debug__":aj))=false:=by decide):Yz (Y4 X.prog X.w) X.A (aG (.Name x pos) X.env) Q E s:=Yfq I.ok.kind hg (Calls.loadGlobal_global (by rw[I.ok.glob];exact I.mod.glob.keeps I.bk) hm h) hd
theorem xF{E:Yd->Yg->Prop}{pins:List (Ym×aD)}{s:Yg}{σ:St}{H:Hp}{x:aj}{u:Yd}{pos:aM}{Q:Yd->Yg->Prop}(I:Inv X pins σ H s)(hg:Gl X x)(hm:X.mg x=Yh)(hv:i_ x=Ya u)(h:Q u s)(hn:x≠ "__name__":=by decide)(hd:(x==("__debug__":aj))=false:=by decide):Yz (Y4 X.prog X.w) X.A (aG (.Name x pos) X.env) Q E s:=by obtain⟨mb,h1,h2⟩:=I.mod.blt;exact Yfq I.ok.kind hg (Calls.loadGlobal_builtin (by rw[I.ok.glob];exact I.mod.glob.keeps I.bk) hm (by rw[I.ok.blt];exact h1.keeps I.bk) ((h2 x hn).trans hv) h) hd
theorem QW{x:aj}{v:V}{u:Yd}{pos:aM}(hg:Gl X x)(hm:X.mg x=Ya u)(r:RelV v u)(hd:(x==("__debug__":aj))=false:=by decide):PE X (.Name x pos) (tC v):=λ_ _ _ H _ I h=>sO I hg hm ⟨v,H,I,r,h⟩ hd
theorem Zm4{x:aj}{v:V}{u:Yd}{pos:aM}(hg:Gl X x)(hm:X.mg x=Yh)(hv:i_ x=Ya u)(r:RelV v u)(hn:x≠ "__name__":=by decide)(hd:(x==("__debug__":aj))=false:=by decide):PE X (.Name x pos) (tC v):=λ_ _ _ H _ I h=>xF I hg hm hv ⟨v,H,I,r,h⟩ hn hd
variable {a b:Expr} {ta tb:TE} {pos:aM}
def tB(t:TE):TT:=λσ H Q=>t σ H λx H1=>∃c,x= .bl c/\Q c H1
theorem QX{e:Expr}{t:TE}(h:PE X e t)(he:∀whole,isTrue e X.env whole=(do let v ←whole;zu e.pos;zx [v] (truthy v)):=by intro _;rfl):PT X e (tB t):=by intro pins s σ H Q I hw;refine isTrue_plain (aH (h pins s σ H _ I hw) λv s1 ak=>?_) (he _);obtain⟨x,H1,I1,r1,q1⟩:=ak;obtain⟨d,rfl,q⟩:=q1;cases r1;exact Ox ⟨H1,I1,q⟩
variable {tA JZ:TT} {rest:List Expr}
def Zw7(t u:TT):TT:=λσ H Q=>t σ H λc H1=>if c=true then u σ H1 Q else Q false H1
def tOr(t u:TT):TT:=λσ H Q=>t σ H λc H1=>if c=true then Q true H1 else u σ H1 Q
def ZxZ(t:TT):TT:=λσ H Q=>t σ H λc H1=>Q (!c) H1
theorem ZrG(ha:PT X a tA):PW X (.BoolOp .And [a] pos) tA:=by
 intro wh pins s σ H Q I h;refine isTrue_and (aH (ha pins s σ H Q I h) λc s1 e=>?_);cases c with
 |true=>exact isTrue_and_nil e|false=>exact e
theorem ZtR(ha:PT X a tA):PW X (.BoolOp .Or [a] pos) tA:=by
 intro wh pins s σ H Q I h;refine isTrue_or (aH (ha pins s σ H Q I h) λc s1 e=>?_);cases c with
 |false=>exact isTrue_or_nil e|true=>exact e
theorem ZtQ(ha:PT X a tA)(hb:PW X (.BoolOp .And (b::rest) pos) JZ):PW X (.BoolOp .And (a::b::rest) pos) (Zw7 tA JZ):=by
 intro wh pins s σ H Q I h;refine isTrue_and (aH (ha pins s σ H _ I h) λc s1 ak=>?_);obtain⟨H1,I1,q1⟩:=ak;cases c with
 |true=>exact hb wh pins s1 σ H1 Q I1 q1|false=>exact⟨H1,I1,q1⟩
theorem Zv9(ha:PT X a tA)(hb:PW X (.BoolOp .Or (b::rest) pos) JZ):PW X (.BoolOp .Or (a::b::rest) pos) (tOr tA JZ):=by
 intro wh pins s σ H Q I h;refine isTrue_or (aH (ha pins s σ H _ I h) λc s1 ak=>?_);obtain⟨H1,I1,q1⟩:=ak;cases c with
 |true=>exact⟨H1,I1,q1⟩|false=>exact hb wh pins s1 σ H1 Q I1 q1
theorem Ztl(ha:PT X a tA):PT X (.UnaryOp .Not a pos) (ZxZ tA):=by intro pins s σ H Q I h;exact isTrue_not (aH (ha pins s σ H (λc H1=>Q (!c) H1) I h) λc s' ⟨H',I',q⟩=>⟨H',I',q⟩)
def Zvu(ta tb:TE):TE:=λσ H Q=>ta σ H λx H1=>∃c,x= .bl c/\if c=true then tb σ H1 Q else Q (.bl false) H1
theorem ZtA{op}{t:TE}(h:PE X a t):PE X (.BoolOp op [a] pos) t:=λpins s σ H Q I hw=>BoolOp_one (h pins s σ H Q I hw)
theorem ZsW(ha:PE X a ta)(hb:PE X (.BoolOp .And (b::rest) pos) tb):PE X (.BoolOp .And (a::b::rest) pos) (Zvu ta tb):=by
 intro pins s σ H Q I h;refine BoolOp_and (aH (ha pins s σ H _ I h) λv s1 ak=>?_);obtain⟨x,H1,I1,r1,q1⟩:=ak;obtain⟨c,rfl,q1⟩:=q1;cases r1;refine Ox ?_;cases c with
 |true=>exact hb pins s1 σ H1 Q I1 q1|false=>exact⟨.bl false,H1,I1,rfl,q1⟩
def QZ(t:TT)(ta tb:TE):TE:=λσ H Q=>t σ H λc H1=>if c=true then ta σ H1 Q else tb σ H1 Q
theorem Zpx{c:Expr}(hc:PT X c tA)(ha:PE X a ta)(hb:PE X b tb):PE X (.IfExp c a b pos) (QZ tA ta tb):=by
 intro pins s σ H Q I h;refine wpAny_IfExp (aH (hc pins s σ H _ I h) λd s1 ak=>?_);obtain⟨H1,I1,q1⟩:=ak;cases d with
 |true=>exact ha pins s1 σ H1 Q I1 q1|false=>exact hb pins s1 σ H1 Q I1 q1
end
end L2
namespace L2
open PySem PySem.Spec PyProof.Rows
def cB(K:Yb)(H:Hp)(a:Ym)(xs:List V):Prop:=
 Rd H a (.lst xs)\/
  ∃(o:aD) (its:Array Yd) (n:Nat),K.lookup a=Ya o/\o.cls= .type "list" /\o.dict=Yh/\o.data= .seq its n/\its.size<=Y8/\Vals xs its.toList
def cP(K:Yb)(H:Hp)(a:Ym)(xs:List V):Prop:=
 Rd H a (.tup xs)\/
  ∃(o:aD) (its:Array Yd) (n:Nat),K.lookup a=Ya o/\(o.cls= .type "tuple" /\o.dict=Yh)/\o.data= .seq its n/\its.size<=Y8/\Vals xs its.toList
noncomputable def Zx7:Yd->Option V
 | .none=>Ya .non|.bool b=>Ya (.bl b)|.int i _=>Ya (.int i)|.str x _=>Ya (.str x)
 | .bytes b _=>Ya (.z9 b)|.float b _=>Ya (.flt b)|.ref a=>Ya (.ref a)|.type n=>Ya (.ty n)
 |_=>Yh
theorem RelV.abs{x:V}{u:Yd}(r:RelV x u):Zx7 u=Ya x:=by
 cases x with
 |non=>cases r;rfl|bl _=>cases r;rfl|int _=>obtain⟨t,rfl⟩:=r;rfl|str _=>obtain⟨t,rfl⟩:=r;rfl
 |z9 _=>obtain⟨t,rfl⟩:=r;rfl|flt _=>obtain⟨t,rfl⟩:=r;rfl|ref _=>cases r;rfl|ty _=>cases r;rfl
theorem RelV.inj{x y:V}{u:Yd}(r:RelV x u)(q:RelV y u):x=y:=gP (r.abs.symm.trans q.abs)
theorem Vals.inj:∀{xs ys:List V} {us:List Yd},Vals xs us->Vals ys us->xs=ys
 |_,_,_,.nil,.nil=>rfl|_,_,_,.cons r t,.cons r' t'=>by rw[r.inj r',Vals.inj t t']
variable{K:Yb}
section
variable {X:Cx} {pins:List (Ym×aD)} {σ:St} {H:Hp} {s:Yg} {a:Ym} {xs ys:List V}
theorem cB.of(h:H a=Ya (.lst xs)):cB K H a xs:=.inl (.inl h)
theorem cP.of(h:H a=Ya (.tup xs)):cP K H a xs:=.inl (.inl h)
theorem Inv.list(I:Inv X pins σ H s)(h:cB X.K H a xs):∃its:List Yd,Vals xs its/\PlainL s.heap a its.toArray/\xs.length<=Y8:=by
 rcases h with h|⟨o,its,n,hk,hc,hd,hs,hz,r⟩
 .obtain⟨z,its,n,r,e⟩:=h.ok I.hok;exact⟨its,r,⟨_,n,e,rfl,rfl,rfl⟩,z⟩
 .refine⟨its.toList,r,⟨o,n,I.cL a o hk,hc,hd,by simpa using hs⟩,?_⟩;have e:=r.length;simp only[Qs]at e;exact lC 2 2199576973345 T1 e hz
theorem Inv.tuple(I:Inv X pins σ H s)(h:cP X.K H a xs):∃its:List Yd,Vals xs its/\IsTup s.heap a its.toArray/\xs.length<=Y8:=by
 rcases h with h|⟨o,its,n,hk,hc,hs,hz,r⟩
 .obtain⟨z,its,r,p⟩:=h.ok I.hok;exact⟨its,r,p.tup,z⟩
 .refine⟨its.toList,r,⟨o,I.cL a o hk,hc.1,n,by simpa using hs⟩,?_⟩;have e:=r.length;simp only[Qs]at e;exact lC 2 2199576973345 T1 e hz
theorem Inv.Wf(I:Inv X pins σ H s)(h:cB X.K H a xs)(h':cB X.K H a ys):xs=ys:=by
 obtain⟨its,r,⟨o,n,e,_,_,d⟩,_⟩:=I.list h;obtain⟨its',r',⟨o',n',e',_,_,d'⟩,_⟩:=I.list h';rw[e]at e';cases e';rw[d]at d';injection d' with d1 _;have:its=its':=by simpa using congrArg JD d1
 subst this;exact r.inj r'
theorem Inv.Nr(I:Inv X pins σ H s)(h:cP X.K H a xs)(h':cP X.K H a ys):xs=ys:=by
 obtain⟨its,r,⟨o,e,_,n,d⟩,_⟩:=I.tuple h;obtain⟨its',r',⟨o',e',_,n',d'⟩,_⟩:=I.tuple h';rw[e]at e';cases e';rw[d]at d';injection d' with d1 _;have:its=its':=by simpa using congrArg JD d1
 subst this;exact r.inj r'
end
noncomputable abbrev Cx.wish(X:Cx)(E:Yd->Yg->Prop):Cx:={X with xe:=E}
noncomputable abbrev Cx.eO(X:Cx):Cx:=X.wish λ_ _=>False
theorem Cx.Ok.wish{X:Cx}(ok:X.Ok)(E:Yd->Yg->Prop):(X.wish E).Ok:=⟨ok.mod,ok.kind,ok.glob,ok.blt,ok.above,ok.inj,ok.has,ok.cab,ok.hd,ok.frames,ok.z_,ok.Aa,ok.bs,ok.mQ,ok.wF,ok.uf,ok.jJ,ok.pI⟩
theorem Cx.Ok.jG{X:Cx}{E:Yd->Yg->Prop}(ok:(X.wish E).Ok):X.Ok:=⟨ok.mod,ok.kind,ok.glob,ok.blt,ok.above,ok.inj,ok.has,ok.cab,ok.hd,ok.frames,ok.z_,ok.Aa,ok.bs,ok.mQ,ok.wF,ok.uf,ok.jJ,ok.pI⟩
variable{e:Expr}
section
variable {X:Cx} {pins:List (Ym×aD)} {σ:St} {H:Hp} {s:Yg} {E:Yd->Yg->Prop}
theorem Inv.wish(I:Inv X pins σ H s)(E:Yd->Yg->Prop):Inv (X.wish E) pins σ H s:=⟨I.ok.wish E,I.os,I.bare,I.base,I.loc,I.cell,I.free,I.jH,I.pin,I.hok,I.len⟩
theorem Inv.jG(I:Inv (X.wish E) pins σ H s):Inv X pins σ H s:=⟨I.ok.jG,I.os,I.bare,I.base,I.loc,I.cell,I.free,I.jH,I.pin,I.hok,I.len⟩
theorem SP.jG{D:Ends}{f:Flow}{s':Yg}(h:SP (X.wish E) pins D f s'):SP X pins D f s':=by
 cases f with
 |next=>obtain⟨σ',H',I,q⟩:=h;exact⟨σ',H',I.jG,q⟩|brk=>obtain⟨σ',H',I,q⟩:=h;exact⟨σ',H',I.jG,q⟩|cont=>obtain⟨σ',H',I,q⟩:=h;exact⟨σ',H',I.jG,q⟩|ret u=>obtain⟨v,σ',H',I,r,q⟩:=h;exact⟨v,σ',H',I.jG,r,q⟩
theorem PE.eO{t:TE}(h:PE X.eO e t):PE X e t:=λpins s σ H Q I hw=>eE (h pins s σ H Q (I.wish _) hw) (λ_ _ ⟨v,H',I',r,q⟩=>⟨v,H',I'.jG,r,q⟩) λ_ _ z=>dw z
theorem PT.eO{t:TT}(h:PT X.eO e t):PT X e t:=λpins s σ H Q I hw=>eE (h pins s σ H Q (I.wish _) hw) (λ_ _ ⟨H',I',q⟩=>⟨H',I'.jG,q⟩) λ_ _ z=>dw z
theorem ji.eO{st:List Yc6}{t:TS}(h:ji X.eO st t):ji X st t:=λpins s σ H D I hw=>eE (h pins s σ H D (I.wish _) hw) (λ_ _ q=>q.jG) λ_ _ z=>dw z
end
section
variable {X:Cx} {st:Yc6} {rest:List Yc6} {t u:TS} {e:Expr} {te:TE} {pos:aM}
def ZvM:TS:=λD σ H=>D.nx σ H
def Zxm(t u:TS):TS:=λD σ H=>t {D with nx:=u D} σ H
theorem Zq9:ji X [] ZvM:=λ_ _ σ H _ I h=>zp ⟨σ,H,I,h⟩
theorem Zku(h1:PS X st t)(h2:ji X rest u):ji X (st::rest) (Zxm t u):=by
 intro pins s σ H D I h;refine X_ (aH (h1 pins s σ H {D with nx:=u D} I h) λf s1 q=>?_);cases f with
 |next=>obtain⟨σ',H',I',q⟩:=q;exact h2 pins s1 σ' H' D I' q|ret v=>exact q|brk=>exact q
 |cont=>exact q
theorem ZmS(h1:PS X st t):ji X [st] t:=by
 intro pins s σ H D I h;refine X_ (aH (h1 pins s σ H D I h) λf s1 q=>?_);cases f with
 |next=>exact zp q|ret v=>exact q|brk=>exact q|cont=>exact q
theorem Inv.quiet{pins:List (Ym×aD)}{σ:St}{H:Hp}{s:Yg}(I:Inv X pins σ H s):interactive X.env=false:=by simp[interactive,I.ok.kind]
def Zv6(te:TE):TS:=λD σ H=>te σ H λ_ H1=>D.nx σ H1
theorem Zna(he:PE X e te)(hs:nO e Yh pos.line X.env=pure false:=by rfl):PS X (.Expr e pos) (Zv6 te):=by intro pins s σ H D I h;exact wpAny_Expr_any (aH (he pins s σ H _ I h) λv s1 ⟨x,H1,I1,r1,q1⟩=>⟨σ,H1,I1,q1⟩) I.quiet hs
def ZxE(te:TE):TS:=λD σ H=>te σ H D.rt
theorem Ztn(he:PE X e te):PS X (.Return (Ya e) pos) (ZxE te):=by intro pins s σ H D I h;exact wpAny_Return_some (aH (he pins s σ H _ I h) λv s1 ⟨x,H1,I1,r1,q1⟩=>⟨x,σ,H1,I1,r1,q1⟩)
def Zx1(c:TT)(t u:TS):TS:=λD σ H=>c σ H λb H1=>if b=true then t D σ H1 else u D σ H1
theorem Q0{c:Expr}{a b:List Yc6}{tc:TT}(hc:PT X c tc)(ha:ji X a t)(hb:ji X b u):PS X (.If c a b pos) (Zx1 tc t u):=by
 intro pins s σ H D I h;refine wpAny_If (aH (hc pins s σ H _ I h) λd s1 ak=>?_);obtain⟨H1,I1,q1⟩:=ak;cases d with
 |true=>exact ha pins s1 σ H1 D I1 q1|false=>exact hb pins s1 σ H1 D I1 q1
end
noncomputable abbrev TG:=V->St->Hp->(St->Hp->Prop)->Prop
noncomputable abbrev sS:=List V->St->Hp->(St->Hp->Prop)->Prop
def PG(X:Cx)(target:Expr)(t:TG):Prop:=
 ∀(pins:List (Ym×aD)) (s:Yg) (σ:St) (H:Hp) (v:V) (u:Yd) (Q:St->Hp->Prop),Inv X pins σ H s->RelV v u->t v σ H Q ->
  Yz (Y4 X.prog X.w) X.A (lH target X.env u) (λ_ s'=>∃σ' H',Inv X pins σ' H' s'/\Q σ' H') X.xe s
def qz(X:Cx)(ts:List Expr)(t:sS):Prop:=
 ∀(pins:List (Ym×aD)) (s:Yg) (σ:St) (H:Hp) (vs:List V) (us:List Yd) (Q:St->Hp->Prop),Inv X pins σ H s->Vals vs us->t vs σ H Q ->
  Yz (Y4 X.prog X.w) X.A (assignInOrder ((rN ts X.env).map (·.2)) us) (λ_ s'=>∃σ' H',Inv X pins σ' H' s'/\Q σ' H') X.xe s
section
variable {X:Cx} {pos:aM}
def Zsn(i:Nat):TG:=λv σ H Q=>Q (σ.set i (Ya v)) H
theorem Znv{i:Nat}{x:aj}(hN:X.N.Nodup)(hi:X.N[i]?=Ya x)(hx:Loc X.env.scope x)(hf:X.fn x=true\/X.env.scope.names.lookup x=Ya .local:=by first|exact .inl rfl|exact .inr rfl|assumption):PG X (.Name x pos) (Zsn i):=by intro pins s σ H v u Q I r h;exact Oz (QV I hN hi hx r (λs' I'=>⟨_,H,I',h⟩) hf)
def Zxs:sS:=λvs σ H Q=>vs=[]/\Q σ H
def Zv0(t:TG)(u:sS):sS:=λvs σ H Q=>∃v r,vs=v::r/\t v σ H λσ' H'=>u r σ' H' Q
theorem ZrU:qz X [] Zxs:=by intro pins s σ H vs us Q I r h;obtain⟨e,h⟩:=h;subst e;cases r;exact assignInOrder_nil ⟨σ,H,I,h⟩
theorem ZqD{es:List Expr}{t:TG}{u:sS}(h1:PG X e t)(h2:qz X es u)(hs:(rN (e::es) X.env).map (·.2)=lH e X.env::(rN es X.env).map (·.2):=by rfl):qz X (e::es) (Zv0 t u):=by
 intro pins s σ H vs us Q I r h;obtain⟨v,vr,e1,h⟩:=h;subst e1;cases r with
 |cons r rr=>rw[hs];refine assignInOrder_cons (aH (h1 pins s σ H _ _ _ I r h) λ_ s1 ak=>?_);obtain⟨σ1,H1,I1,q1⟩:=ak;exact h2 pins s1 σ1 H1 _ _ Q I1 rr q1
def ZxP(K:Yb)(n:Nat)(t:sS):TG:=λv σ H Q=>∃a xs,v= .ref a/\cP K H a xs/\xs.length=n/\t xs σ H Q
theorem Zun{es:List Expr}{k:Nat}{t:sS}{n:Nat}(hc:X.calm=true)(h:qz X es t)(hn:(rN es X.env).length=n:=by rfl)(hst:(rN es X.env).findIdx? (·.1)=Yh:=by rfl):PG X (.Tuple es k pos) (ZxP X.K n t):=by intro pins s σ H v u Q I r hw;obtain⟨a,xs,e1,hq,hl,hw⟩:=hw;subst e1;cases r;obtain⟨its,rv,ht,hz⟩:=I.tuple hq;refine assign_Tuple_tuple (I.ok.hd hc) ht (by simp[hn,←hl,rv.length]) hst λh' hx=>?_;have I1:Inv X pins σ H {s with heap:=h'}:=I.kept (t':=s.toks) λb o e=>hx b o (eF (Yu e)) e;exact h pins _ σ H xs _ Q I1 (by simpa using rv) hw
def Zxl(te:TE)(g:TG):TS:=λD σ H=>te σ H λx H1=>g x σ H1 D.nx
theorem Zqw{i:Nat}{x:aj}{te:TE}{pos':aM}(hN:X.N.Nodup)(hi:X.N[i]?=Ya x)(hx:Loc X.env.scope x)(he:PE X e te)(hs:nO e (Ya (.Name x pos')) pos.line X.env=pure false:=by rfl)(hf:X.fn x=true\/X.env.scope.names.lookup x=Ya .local:=by first|exact .inl rfl|exact .inr rfl|assumption):
  PS X (.Assign [.Name x pos'] e pos) (Zxl te (Zsn i)):=by
 intro pins s σ H D I h;refine wpAny_Assign_Name (aH (he pins s σ H _ I h) λv s1 ak=>?_) hs;obtain⟨y,H1,I1,r1,q1⟩:=ak;exact QV I1 hN hi hx r1 (λs2 I2=>⟨_,H1,I2,q1⟩) hf
end
section
variable {X:Cx} {pos:aM}
def Ztw(c:TT)(tb:TS):TS:=λD σ H=>∃W:Nat->St->Hp->Prop,(∃m,W m σ H)/\∀m σ H,W m σ H ->
 c σ H λb H1=>if b=true then∃N:St->Hp->Prop,(∀σ' H',N σ' H'->∃m',m'<m/\W m' σ' H')/\tb {D with nx:=N,ct:=N,bk:=D.nx} σ H1 else D.nx σ H1
theorem Zlj{c:Expr}{body:List Yc6}{tc:TT}{tb:TS}(hp:Jd (Y4 X.prog X.w) X.A X.env X.xe)(hc:PT X c tc)(hb:ji X body tb):PS X (.While c body [] pos) (Ztw tc tb):=by
 intro pins s σ H D I h;obtain⟨W,⟨m0,w0⟩,turn⟩:=h;refine wpAny_While (codeAny_whileLoop (λn s'=>∃σ' H',Inv X pins σ' H' s'/\W n σ' H') ?_ m0 ⟨σ,H,I,w0⟩);rintro n s1 ⟨σ1,H1,I1,w1⟩;refine wO hp (aH (hc pins s1 σ1 H1 _ I1 (turn n σ1 H1 w1)) λb s2 ak=>?_);obtain⟨H2,I2,q2⟩:=ak;cases b with
 | true=>
  obtain⟨N,hN,q2⟩:=q2;rw[if_pos rfl];refine wO hp (aH (hb pins s2 σ1 H2 _ I2 q2) λf s3 q3=>?_);cases f with
  |next=>obtain⟨σ3,H3,I3,n3⟩:=q3;obtain⟨m',hm,w3⟩:=hN σ3 H3 n3;exact⟨m',hm,σ3,H3,I3,w3⟩|cont=>obtain⟨σ3,H3,I3,n3⟩:=q3;obtain⟨m',hm,w3⟩:=hN σ3 H3 n3;exact⟨m',hm,σ3,H3,I3,w3⟩|brk=>exact q3|ret v=>exact q3
 |false=>rw[if_neg uK];exact zp ⟨σ1,H2,I2,q2⟩
end
structure It where
 go:Nat->Hp->Prop
 J1:Nat->Hp->V->Hp->Prop
 stop:Nat->Hp->Prop
def gq(X:Cx)(pins:List (Ym×aD))(H:Hp)(b:Ym):Prop:=H b=Yh/\b≠X.env.locals/\b∉X.fs/\(b∈X.ex\/X.s₀.heap.objs.size<=b)/\(∀x c,X.env.cells.lookup x=Ya c->c≠b)/\∀p∈X.pn++pins,p.1≠b
theorem Inv.ug{X:Cx}{pins:List (Ym×aD)}{σ:St}{H H':Hp}{s:Yg}{b:Ym}(I:Inv X pins σ H s)(hb:s.heap.objs.size<=b)(hn:H' b=Yh):gq X pins H' b:=by
 refine⟨hn,uH (Yn I.lt hb),I.Ac6 hb,.inr (Yv I.sz hb),λx c e z=>?_,λp hp z=>?_⟩
 .obtain⟨v,q⟩:=I.cell x c e;exact absurd (Yn q.lt (by rw[z];exact hb)) (rZ _)
 .exact absurd (Yn (Yu (I.pin p hp).1) (by rw[z];exact hb)) (rZ _)
structure Turn(P:Y5)(w:aK)(K:Yb)(tg:Expr)(J:It)(fp:List Ym)(it:Ym)(tn:Nat->au->Prop):Prop where
 mem:it∈fp
 obj:∀i h,tn i h->∀b∈fp,∃o,h.get? b=Ya o/\∀v,o.data≠ .cell v
 keep:∀i h h',tn i h->(∀b∈fp,∀o,h.get? b=Ya o->h'.get? b=Ya o)->tn i h'
 item:∀(X:Cx),X.prog=P->X.w=w->X.K=K->X.calm=true->∀(i:Nat) (pins:List (Ym×aD)) (s:Yg) (σ:St) (H:Hp) (E:Yd->Yg->Prop),Inv X pins σ H s->(∀b∈fp,gq X pins H b)->tn i s.heap->J.go i H ->
  Yz (Y4 P w) X.A (iy (.ref it)) (λr s1=>∃u,r=Ya u/\
   Yz (Y4 P w) X.A (wQ tg (.ref it) u) (λ_ s2=>∃x H',Inv X pins σ H' s2/\RelV x u/\J.J1 i H x H'/\tn (i+1) s2.heap/\∀b∈fp,H' b=Yh) E s1) E s
 done:∀(X:Cx),X.prog=P->X.w=w->X.K=K->X.calm=true->∀(i:Nat) (pins:List (Ym×aD)) (s:Yg) (σ:St) (H:Hp) (E:Yd->Yg->Prop),Inv X pins σ H s->(∀b∈fp,gq X pins H b)->tn i s.heap->J.stop i H ->
  Yz (Y4 P w) X.A (iy (.ref it)) (λr s1=>r=Yh/\Inv X pins σ H s1) E s
 self:∀(A:bj) (i:Nat) (s:Yg) (Q:Yd->Yg->Prop) (E:Yd->Yg->Prop),tn i s.heap->Q (.ref it) s->Yz (Y4 P w) A (zE (.ref it)) Q E s
noncomputable abbrev TI:=St->Hp->(It->Hp->Prop)->Prop
def PIE(X:Cx)(pins:List (Ym×aD))(σ:St)(tg:Expr)(R:It->Hp->Prop)(itv:Yd)(s2:Yg):Prop:=∃(it:Ym) (fp:List Ym) (tn:Nat->au->Prop) (J:It) (H':Hp),itv= .ref it/\Inv X pins σ H' s2/\Turn X.prog X.w X.K tg J fp it tn/\tn 0 s2.heap/\(∀b∈fp,gq X pins H' b)/\R J H'
def PI(X:Cx)(tg iter:Expr)(wi:TI):Prop:=
 ∀(pins:List (Ym×aD)) (s:Yg) (σ:St) (H:Hp) (R:It->Hp->Prop),Inv X pins σ H s->wi σ H R ->
  Yz (Y4 X.prog X.w) X.A (aG iter X.env) (λv s1=>Yz (Y4 X.prog X.w) X.A (zE v) (PIE X pins σ tg R) X.xe s1) X.xe s
variable{tg:Expr}
theorem J2{M:Model}{A:bj}{E:Yd->Yg->Prop}{s:Yg}{it:Ym}{u:Yd}{o:aD}{n:String}{vs:Array Yd}{Q:Unit->Yg->Prop}(ho:s.heap.get? it=Ya o)(hc:o.cls= .type n)(hd:o.data= .fields vs)(hn:["enumerate","zip","dict_itemiterator","dict_reverseitemiterator","odict_iterator","itertools.zip_longest","itertools.pairwise"].contains n=false)(hQ:Q () s):Yz M A (wQ tg (.ref it) u) Q E s:=by
 unfold wQ;cases tg<;>first
  |exact Yk hQ
  | (cases u<;>first
    |exact Yk hQ
    | (refine Yc (wpAny_load ho ?_)
       rw[hc,hd];show Yz M A (if(["enumerate","zip","dict_itemiterator","dict_reverseitemiterator","odict_iterator","itertools.zip_longest","itertools.pairwise"].contains n&&vs[0]?==Ya (j_ _))=true then _ else _) Q E s;rw[if_neg (by intro h;rw[hn,Bool.false_and]at h;cases h)];exact Yk hQ))
noncomputable def Itl(K:Yb)(a:Ym):It:=⟨λi H=>∃xs x,cB K H a xs/\xs[i]?=Ya x,λi H x H'=>H'=H/\∀xs,cB K H a xs->xs[i]?=Ya x,λi H=>∃xs,cB K H a xs/\xs.length<=i⟩
noncomputable def Itt(K:Yb)(a:Ym):It:=⟨λi H=>∃xs x,cP K H a xs/\xs[i]?=Ya x,λi H x H'=>H'=H/\∀xs,cP K H a xs->xs[i]?=Ya x,λi H=>∃xs,cP K H a xs/\xs.length<=i⟩
noncomputable def J3(lo:Int)(n:Nat):It:=⟨λi _=>i<n,λi H x H'=>H'=H/\x= .int (lo+i),λi _=>n<=i⟩
theorem Zn8{P:Y5}{w:aK}(a it:Ym):Turn P w K tg (Itl K a) [it] it (λi h=>h.IsListIter it a i)where
 mem:=by simp
 obj:=λi h st b hb=>by
  have e:b=it:=by simpa using hb
  subst e;obtain⟨o,e,c,d⟩:=st;exact⟨o,e,λv z=>by rw[d]at z;cases z⟩
 keep:=λi h h' st k=>st.at λo e=>k it (by simp) o e
 item:=by intro X hP hw hK hc i pins s σ H E I hf st hg;subst hP hw hK;obtain⟨xs,x,hq,hx⟩:=hg;obtain⟨its,rv,p,hz⟩:=I.list hq;obtain⟨u,hu,ru⟩:=rv.get hx;obtain⟨f0,f1,f2,f3,f4,f5⟩:=hf it (by simp);refine wpAny_pyNext_list_item st p.isList (x:=u) (by simpa using hu) λh' st' sb=>?_;have I1:Inv X pins σ H {s with heap:=h'}:=I.turned (t':=s.toks) (λb o hb e=>(sb.2 b hb).trans e) f0 f1 f3 f4 f5;obtain⟨o,e,c,d⟩:=id st';exact⟨u,rfl,J2 (s:={s with heap:=h'}) e c d (by decide) ⟨x,H,I1,ru,⟨rfl,λys hy=>by rw[I.Wf hy hq];exact hx⟩,st',λb hb=>(hf b hb).1⟩⟩
 done:=by intro X hP hw hK hc i pins s σ H E I hf st hg;subst hP hw hK;obtain⟨xs,hq,hx⟩:=hg;obtain⟨its,rv,p,hz⟩:=I.list hq;obtain⟨f0,f1,f2,f3,f4,f5⟩:=hf it (by simp);have hl:=rv.length;exact wpAny_pyNext_list_end (I.ok.hd hc) st p.isList (by simp;exact lC 2 2268279672881 T1 hl hx) λh' eb=>⟨rfl,I.turned (t':=s.toks) (λb o hb e=>eb b o hb e) f0 f1 f3 f4 f5⟩
 self:=λ_ _ _ _ _ st h=>wpAny_pyIter_listiter st h
theorem Zmv{P:Y5}{w:aK}(a it:Ym):Turn P w K tg (Itt K a) [it] it (λi h=>h.IsTupleIter it a i)where
 mem:=by simp
 obj:=λi h st b hb=>by
  have e:b=it:=by simpa using hb
  subst e;obtain⟨o,e,c,d⟩:=st;exact⟨o,e,λv z=>by rw[d]at z;cases z⟩
 keep:=λi h h' st k=>st.at λo e=>k it (by simp) o e
 item:=by intro X hP hw hK hc i pins s σ H E I hf st hg;subst hP hw hK;obtain⟨xs,x,hq,hx⟩:=hg;obtain⟨its,rv,p,hz⟩:=I.tuple hq;obtain⟨u,hu,ru⟩:=rv.get hx;obtain⟨f0,f1,f2,f3,f4,f5⟩:=hf it (by simp);refine wpAny_pyNext_tuple_item st (show s.heap.IsTuple a its.toArray from p) (x:=u) (by simpa using hu) λh' st' sb=>?_;have I1:Inv X pins σ H {s with heap:=h'}:=I.turned (t':=s.toks) (λb o hb e=>(sb.2 b hb).trans e) f0 f1 f3 f4 f5;obtain⟨o,e,c,d⟩:=id st';exact⟨u,rfl,J2 (s:={s with heap:=h'}) e c d (by decide) ⟨x,H,I1,ru,⟨rfl,λys hy=>by rw[I.Nr hy hq];exact hx⟩,st',λb hb=>(hf b hb).1⟩⟩
 done:=by intro X hP hw hK hc i pins s σ H E I hf st hg;subst hP hw hK;obtain⟨xs,hq,hx⟩:=hg;obtain⟨its,rv,p,hz⟩:=I.tuple hq;obtain⟨f0,f1,f2,f3,f4,f5⟩:=hf it (by simp);have hl:=rv.length;exact wpAny_pyNext_tuple_end (I.ok.hd hc) st (show s.heap.IsTuple a its.toArray from p) (by simp;exact lC 2 2268279672881 T1 hl hx) λh' eb=>⟨rfl,I.turned (t':=s.toks) (λb o hb e=>eb b o hb e) f0 f1 f3 f4 f5⟩
 self:=λ_ _ _ _ _ st h=>wpAny_pyIter_tupleiter st h
theorem Zl4{P:Y5}{w:aK}(it:Ym)(lo:Int)(n:Nat):Turn P w K tg (J3 lo n) [it] it (λi h=>IsRangeIter h it (lo+(i:Nat)*1) ((n:Int)-(i:Nat)) 1)where
 mem:=by simp
 obj:=λi h st b hb=>by
  have e:b=it:=by simpa using hb
  subst e;exact⟨_,st,λv z=>by have z':Data.fields _=Data.cell v:=z;cases z'⟩
 keep:=λi h h' st k=>k it (by simp) _ st
 item:=by intro X hP hw hK hc i pins s σ H E I hf st hg;subst hP hw hK;obtain⟨f0,f1,f2,f3,f4,f5⟩:=hf it (by simp);have W:=Walks.range (prog:=X.prog) (w:=X.w) (I.ok.hd hc) it lo 1 n;refine W.item i s _ _ hg st λv h' tk hv st' kk=>?_;obtain⟨t,rfl⟩:=hv;have I1:Inv X pins σ H {s with heap:=h',toks:=tk}:=I.turned (λb o hb e=>kk b o (by simpa using hb) e) f0 f1 f3 f4 f5;refine⟨_,rfl,J2 (s:={s with heap:=h',toks:=tk}) (n:="range_iterator") st' rfl rfl (by decide) ⟨.int (lo+i),H,I1,⟨t,?_⟩,⟨rfl,rfl⟩,st',λb hb=>(hf b hb).1⟩⟩;rw[Int.mul_one]
 done:=by intro X hP hw hK hc i pins s σ H E I hf st hg;subst hP hw hK;obtain⟨f0,f1,f2,f3,f4,f5⟩:=hf it (by simp);exact wpAny_pyNext_range_end (I.ok.hd hc) st (by have:n<=i:=hg;exact iN [_,_] [] 1 0xe1808f81001 T1 this) λh' eb=>⟨rfl,I.turned (t':=s.toks) (λb o hb e=>eb b o hb e) f0 f1 f3 f4 f5⟩
 self:=λ_ _ _ _ _ st h=>wpAny_pyIter_rangeiter st h
end L2
namespace L2
open PySem PySem.Spec PyProof.Rows
variable{fp:List Ym}{pins:List (Ym×aD)}
section
variable {X:Cx} {tg:Expr}
def ZvZ(K:Yb)(tl:TE):TI:=λσ H R=>tl σ H λx H1=>∃a,x= .ref a/\(∃xs,cB K H1 a xs)/\R (Itl K a) H1
def Zx5(K:Yb)(tl:TE):TI:=λσ H R=>tl σ H λx H1=>∃a,x= .ref a/\(∃xs,cP K H1 a xs)/\R (Itt K a) H1
theorem Zrw{l:Expr}{tl:TE}(hl:PE X l tl):PI X tg l (ZvZ X.K tl):=by
 intro pins s σ H R I h;refine aH (hl pins s σ H _ I h) λv s1 ak=>?_;obtain⟨x,H1,I1,r1,q1⟩:=ak;obtain⟨a,e,⟨xs,hq⟩,q⟩:=q1;subst e;cases r1;obtain⟨its,rv,p,hz⟩:=I1.list hq;refine XX p.isList ?_;refine⟨s1.heap.objs.size,[s1.heap.objs.size],_,_,H1,rfl,I1.kept (t':=s1.toks) λb o e=>Yi _ e,Zn8 a _,⟨_,Y1 _ rfl,rfl,rfl⟩,λb hb=>?_,q⟩;have e:b=s1.heap.objs.size:=by simpa using hb
 subst e;exact I1.ug (Yl _) (I1.hok.fresh (Yl _))
theorem ZtK{l:Expr}{tl:TE}(hl:PE X l tl):PI X tg l (Zx5 X.K tl):=by
 intro pins s σ H R I h;refine aH (hl pins s σ H _ I h) λv s1 ak=>?_;obtain⟨x,H1,I1,r1,q1⟩:=ak;obtain⟨a,e,⟨xs,hq⟩,q⟩:=q1;subst e;cases r1;obtain⟨its,rv,p,hz⟩:=I1.tuple hq;refine DX (show s1.heap.IsTuple a its.toArray from p) ?_;refine⟨s1.heap.objs.size,[s1.heap.objs.size],_,_,H1,rfl,I1.kept (t':=s1.toks) λb o e=>Yi _ e,Zmv a _,⟨_,Y1 _ rfl,rfl,rfl⟩,λb hb=>?_,q⟩;have e:b=s1.heap.objs.size:=by simpa using hb
 subst e;exact I1.ug (Yl _) (I1.hok.fresh (Yl _))
theorem ZoM{σ:St}{H:Hp}{s:Yg}{R:It->Hp->Prop}{E:Yd->Yg->Prop}{lo hi:Int}{t u v:gY}{tk:Nat}(I:Inv X pins σ H s)(h1:-(2^62)<=lo)(h2:lo<2^62)(h3:-(2^62)<=hi)(h4:hi<2^62)(q:R (J3 lo (hi-lo).toNat) H):Yz (Y4 X.prog X.w) X.A (zE (.ref s.heap.objs.size)) (PIE X pins σ tg R) E {s with heap:=s.heap.push {cls:=.type "range",data:=.fields #[.int lo t,.int hi u,.int 1 v]},toks:=tk}:=by
 refine wpAny_pyIter_range (IsRange.new ..) (small_one h1 h2 h3 h4) ?_;have I1:Inv X pins σ H {s with heap:=s.heap.push {cls:=.type "range",data:=.fields #[.int lo t,.int hi u,.int 1 v]},toks:=tk}:=I.kept λb o e=>Yi _ e;refine⟨(s.heap.push {cls:=.type "range",data:=.fields #[.int lo t,.int hi u,.int 1 v]}).objs.size,[(s.heap.push {cls:=.type "range",data:=.fields #[.int lo t,.int hi u,.int 1 v]}).objs.size],_,_,H,rfl,
  I1.kept (t':=tk) λb o e=>Yi _ e,Zl4 _ lo (hi-lo).toNat,?_,λb hb=>?_,q⟩
 .have e1:lo+((0:Nat):Int)*1=lo:=by simp
  have e2:(((hi-lo).toNat:Nat):Int)-((0:Nat):Int)=Builtin.Range.rangeSize lo hi 1:=by rw[rangeSize_one];split <;>omega
  show IsRangeIter _ _ (lo+((0:Nat):Int)*1) ((((hi-lo).toNat:Nat):Int)-((0:Nat):Int)) 1;rw[e1,e2];exact Y1 _ rfl
 .have e:b=(s.heap.push {cls:=.type "range",data:=.fields #[.int lo t,.int hi u,.int 1 v]}).objs.size:=by simpa using hb
  subst e;exact I1.ug (Yl _) (I1.hok.fresh (Yl _))
def Zvm(ta:TA):TI:=λσ H R=>ta σ H λvs H1=>∃j:Int,vs=[.int j]/\ -(2^62)<=j/\j<2^62/\R (J3 0 j.toNat) H1
theorem ZoA{a:Expr}{ta:TA}{p pos:aM}(hg:Gl X "range")(hm:X.mg "range" =Yh)(ha:PA X [a] ta)(hs:Yq [a] X.env=[(false,aG a X.env)]:=by rfl):PI X tg (.Call (.Name "range" p) [a] [] pos) (Zvm ta):=by
 intro pins s σ H R I h;refine Call_ (xF I hg hm boot_range (Ez (aH (ha pos pins s σ H _ I h) λus s1 ak=>?_) hs rfl));obtain⟨vs,H1,I1,r1,q1⟩:=ak;obtain⟨j,e,q1,q2,q⟩:=q1;subst e;cases r1 with
 |cons r rr=>
  cases rr
  obtain⟨t,rfl⟩:=r;exact call_range_1 (ZoM I1 (by omega) (by omega) q1 q2 (by simpa using q))
def ZxS(wi:TI)(g:TG)(tb:TS):TS:=λD σ H=>wi σ H λJ H1=>∃W:Nat->Nat->St->Hp->Prop,(∃m,W 0 m σ H1)/\∀i m σ H,W i m σ H ->
 (J.stop i H/\D.nx σ H)\/(J.go i H/\∃N:St->Hp->Prop,(∀σ' H',N σ' H'->∃m',m'<m/\W (i+1) m' σ' H')/\∀x H',J.J1 i H x H'->g x σ H' λσ2 H2=>tb {D with nx:=N,ct:=N,bk:=D.nx} σ2 H2)
noncomputable def pJ(fp:List Ym)(h:au):List (Ym×aD):=fp.filterMap λb=>(h.get? b).map λo=>(b,o)
theorem Ab{h:au}{b:Ym}{o:aD}(hb:b∈fp)(e:h.get? b=Ya o):(b,o)∈pJ fp h:=w6.mpr ⟨b,hb,by rw[e];rfl⟩
theorem Zn2{h:au}{p:Ym×aD}(hp:p∈pJ fp h):p.1∈fp/\h.get? p.1=Ya p.2:=by
 obtain⟨b,hb,e⟩:=w6.mp hp;cases q:h.get? b with
 |none=>rw[q]at e;cases e|some o=>rw[q]at e;have e':(b,o)=p:=gP e;subst e';exact⟨hb,q⟩
theorem Inv.pinned{σ:St}{H:Hp}{s:Yg}(I:Inv X pins σ H s)(hf:∀b∈fp,gq X pins H b)(ho:∀b∈fp,∃o,s.heap.get? b=Ya o/\∀v,o.data≠ .cell v):Inv X (pins++pJ fp s.heap) σ H s:=I.Wh λp hp=>(rT.mp hp).elim (λz=>I.pin p (lK _ z)) λz=>by obtain⟨hb,e⟩:=Zn2 z;obtain⟨f0,f1,f2,_⟩:=hf p.1 hb;obtain⟨o,e',d⟩:=ho p.1 hb;rw[e]at e';cases e';exact⟨e,f0,f1,f2,d⟩
theorem Inv.yX{pl:List (Ym×aD)}{σ:St}{H:Hp}{s:Yg}(I:Inv X (pins++pl) σ H s):Inv X pins σ H s:=I.Wh λp hp=>I.pin p (lK _ (zJ _ hp))
theorem Q3{iter:Expr}{body:List Yc6}{wi:TI}{g:TG}{tb:TS}{pos:aM}(hp:Jd (Y4 X.prog X.w) X.A X.env X.xe)(hc:X.calm=true)(hi:PI X tg iter wi)(hg:PG X tg g)(hb:ji X body tb)(hs:∀x,wN iter X.env x=pure x:=by intro _;rfl):PS X (.For tg iter body [] pos) (ZxS wi g tb):=by
 intro pins s σ H D I h;refine wpAny_For (aH (hi pins s σ H _ I h) λv s1 h1=>aH h1 λitv s2 h2=>?_) hs;obtain⟨it,fp,tn,J,H2,e,I2,T,st2,f2,W,⟨m0,w0⟩,turn⟩:=h2;subst e;have stat:∀{H':Hp},(∀b∈fp,H' b=Yh)->∀b∈fp,gq X pins H' b:=λhn b hb=>⟨hn b hb,(f2 b hb).2⟩;refine codeAny_forLoop_any (λn s'=>∃i σ' H',Inv X pins σ' H' s'/\tn i s'.heap/\(∀b∈fp,H' b=Yh)/\W i n σ' H') ?_ m0 ⟨0,σ,H2,I2,st2,λb hb=>(f2 b hb).1,w0⟩;rintro n s3 ⟨i,σ3,H3,I3,st3,fr3,w3⟩;rcases turn i n σ3 H3 w3 with⟨stop,qn⟩|⟨go,N,hN,step⟩
 .refine wO hp (aH (T.done X rfl rfl rfl hc i pins s3 σ3 H3 X.xe I3 (stat fr3) st3 stop) λr s4 ⟨hr,I4⟩=>?_);subst hr;exact zp ⟨σ3,H3,I4,qn⟩
 .refine wO hp (aH (T.item X rfl rfl rfl hc i pins s3 σ3 H3 X.xe I3 (stat fr3) st3 go) λr s4 ⟨u,hr,h4⟩=>?_);subst hr;refine wO hp (aH h4 λ_ s5 ak=>?_);obtain⟨x,H5,I5,r5,y5,iB,jw⟩:=ak;have Fq:=I5.pinned (stat jw) (T.obj _ _ iB);refine wO hp (aH (hg _ s5 σ3 H5 x u _ Fq r5 (step x H5 y5)) λ_ s6 ak=>?_);obtain⟨σ6,H6,I6,q6⟩:=ak;refine wO hp (aH (hb _ s6 σ6 H6 _ I6 q6) λf s7 q7=>?_);have again:∀{σ7:St} {H7:Hp},Inv X (pins++pJ fp s5.heap) σ7 H7 s7->N σ7 H7->∃m,m<n/\∃i σ' H',Inv X pins σ' H' s7/\tn i s7.heap/\(∀b∈fp,H' b=Yh)/\W i m σ' H':=λ{σ7 H7} I7 n7=>by
   obtain⟨m',hm,w7⟩:=hN σ7 H7 n7;refine⟨m',hm,i+1,σ7,H7,I7.yX,T.keep _ _ _ iB λb hb o e=>(I7.pin (b,o) (lK _ (lK _ (Ab hb e)))).1,λb hb=>?_,w7⟩;obtain⟨o,e,d⟩:=T.obj _ _ iB b hb;exact(I7.pin (b,o) (lK _ (lK _ (Ab hb e)))).2.1
  cases f with
  |next=>obtain⟨σ7,H7,I7,n7⟩:=q7;exact again I7 n7|cont=>obtain⟨σ7,H7,I7,n7⟩:=q7;exact again I7 n7|brk=>obtain⟨σ7,H7,I7,q7⟩:=q7;exact⟨σ7,H7,I7.yX,q7⟩|ret v=>obtain⟨x7,σ7,H7,I7,r7,q7⟩:=q7;exact⟨x7,σ7,H7,I7.yX,r7,q7⟩
end
end L2
namespace L2
open PySem PySem.Spec PyProof.Rows
noncomputable abbrev R2:=V->V->Hp->VK->Prop
def aX(X:Cx)(f:Yd->Yd->kh Yd)(r:R2):Prop:=
 ∀(pins:List (Ym×aD)) (s:Yg) (σ:St) (H:Hp) (x y:V) (v u:Yd) (Q:VK),Inv X pins σ H s->RelV x v->RelV y u->r x y H Q ->
  Yz (Y4 X.prog X.w) X.A (f v u) (EP X pins σ Q) X.xe s
def sU(X:Cx)(f:Yd->kh Yd)(r:V->Hp->VK->Prop):Prop:=
 ∀(pins:List (Ym×aD)) (s:Yg) (σ:St) (H:Hp) (x:V) (v:Yd) (Q:VK),Inv X pins σ H s->RelV x v->r x H Q ->
  Yz (Y4 X.prog X.w) X.A (f v) (EP X pins σ Q) X.xe s
def aZ(X:Cx)(f:Yd)(r:List V->Hp->VK->Prop):Prop:=
 ∀(pins:List (Ym×aD)) (s:Yg) (σ:St) (H:Hp) (xs:List V) (us:List Yd) (Q:VK),Inv X pins σ H s->Vals xs us->r xs H Q ->
  Yz (Y4 X.prog X.w) X.A (call f us) (EP X pins σ Q) X.xe s
def Ft(r:R2)(ta tb:TE):TE:=λσ H Q=>ta σ H λx H1=>tb σ H1 λy H2=>r x y H2 Q
def tUn(r:V->Hp->VK->Prop)(ta:TE):TE:=λσ H Q=>ta σ H λx H1=>r x H1 Q
def rI(C:Int->Int->Prop)(g:Int->Int->V):R2:=λx y H Q=>∃i j,x= .int i/\y= .int j/\C i j/\Q (g i j) H
def xG(g:Int->Int->V):R2:=λx y H Q=>∃i j,x= .int i/\y= .int j/\Q (g i j) H
noncomputable def rU(g:Int->V):V->Hp->VK->Prop:=λx H Q=>∃i,x= .int i/\Q (g i) H
variable{pins:List (Ym×aD)}{f:Yd->Yd->kh Yd}
section
variable {X:Cx} {a b c:Expr} {ta tb tc:TE} {pos:aM}
theorem Q4(ha:PE X a ta)(hb:PE X b tb){s:Yg}{σ:St}{H:Hp}{R:V->V->Hp->Prop}(I:Inv X pins σ H s)(h:ta σ H λx H1=>tb σ H1 λy H2=>R x y H2){Q:Yd->Yg->Prop}(hf:∀v u s2 x y H2,Inv X pins σ H2 s2->RelV x v->RelV y u->R x y H2->Yz (Y4 X.prog X.w) X.A (f v u) Q X.xe s2):
  Yz (Y4 X.prog X.w) X.A (aG a X.env) (λv s₁=>Yz (Y4 X.prog X.w) X.A (aG b X.env) (λu s₂=>Yz (Y4 X.prog X.w) X.A (f v u) Q X.xe s₂) X.xe s₁) X.xe s:=by
 refine aH (ha pins s σ H _ I h) λv s1 ak=>?_;obtain⟨x,H1,I1,r1,q1⟩:=ak;refine aH (hb pins s1 σ H1 _ I1 q1) λu s2 ak=>?_;obtain⟨y,H2,I2,r2,q2⟩:=ak;exact hf v u s2 x y H2 I2 r1 r2 q2
theorem Zvb{op:Operator}{r:R2}(ho:aX X (gO op) r)(ha:PE X a ta)(hb:PE X b tb):PE X (.BinOp a op b pos) (Ft r ta tb):=by intro pins s σ H Q I h;exact wpAny_BinOp (Q4 ha hb I h λv u s2 x y H2 I2 rx ry q=>ho pins s2 σ H2 x y v u Q I2 rx ry q)
theorem Zwp{op:UnaryOp}{r:V->Hp->VK->Prop}(ho:sU X (Jf op) r)(ha:PE X a ta):PE X (.UnaryOp op a pos) (tUn r ta):=by intro pins s σ H Q I h;exact UnaryOp_ (aH (ha pins s σ H _ I h) λv s1 ⟨x,H1,I1,r1,q1⟩=>ho pins s1 σ H1 x v Q I1 r1 q1)
theorem J5{C:Int->Int->Prop}{g:Int->Int->Int}(rule:∀(i j:Int) (t u:gY) (s:Yg) (Q:Yd->Yg->Prop) (E:Yd->Yg->Prop),C i j->Q (.int (g i j) s.toks) {s with toks:=s.toks+1}->Yz (Y4 X.prog X.w) X.A (f (.int i t) (.int j u)) Q E s):
  aX X f (rI C λi j=>.int (g i j)):=by
 intro pins s σ H x y v u Q I rx ry h;obtain⟨i,j,rfl,rfl,hc,q⟩:=h;obtain⟨t,rfl⟩:=rx;obtain⟨t',rfl⟩:=ry;exact rule i j t t' s _ _ hc ⟨.int (g i j),H,I.tok _,⟨_,rfl⟩,q⟩
theorem Zv4{g:Int->Int->Int}(rule:∀(i j:Int) (t u:gY) (s:Yg) (Q:Yd->Yg->Prop) (E:Yd->Yg->Prop),Q (.int (g i j) s.toks) {s with toks:=s.toks+1}->Yz (Y4 X.prog X.w) X.A (f (.int i t) (.int j u)) Q E s):
  aX X f (xG λi j=>.int (g i j)):=by
 intro pins s σ H x y v u Q I rx ry h;obtain⟨i,j,rfl,rfl,q⟩:=h;obtain⟨t,rfl⟩:=rx;obtain⟨t',rfl⟩:=ry;exact rule i j t t' s _ _ ⟨.int (g i j),H,I.tok _,⟨_,rfl⟩,q⟩
theorem Q5{g:Int->Int->Bool}(rule:∀(i j:Int) (t u:gY) (s:Yg) (Q:Yd->Yg->Prop) (E:Yd->Yg->Prop),Q (.bool (g i j)) s->Yz (Y4 X.prog X.w) X.A (f (.int i t) (.int j u)) Q E s):
  aX X f (xG λi j=>.bl (g i j)):=by
 intro pins s σ H x y v u Q I rx ry h;obtain⟨i,j,rfl,rfl,q⟩:=h;obtain⟨t,rfl⟩:=rx;obtain⟨t',rfl⟩:=ry;exact rule i j t t' s _ _ ⟨.bl (g i j),H,I,rfl,q⟩
def Zxn(i j:Int):Prop:=0<j/\j<1073741824
def Zxu(i j:Int):Prop:=0<=j/\j<=1000000/\i.natAbs<2^64
def Q6(i j:Int):Prop:=(-(2^64)<i/\i<2^64)\/(-(2^64)<j/\j<2^64)
theorem Q6.ok{i j:Int}(h:Q6 i j):IntMulOk i j:=by
 rcases h with⟨h1,h2⟩|⟨h1,h2⟩
 .exact .of_left (intBits_le_64 h1 h2)
 .exact .of_right (intBits_le_64 h1 h2)
theorem ZtV:aX X (gO .Add) (xG λi j=>.int (i+j)):=Zv4 λ_ _ _ _ _ _ _ q=>add_int q
theorem Zs4:aX X (gO .Sub) (xG λi j=>.int (i-j)):=Zv4 λ_ _ _ _ _ _ _ q=>sub_int q
theorem ZsZ:aX X (gO .Mult) (rI Q6 λi j=>.int (i*j)):=J5 λ_ _ _ _ _ _ _ hc q=>mul_int q hc.ok
theorem Zr8:aX X (gO .FloorDiv) (rI Zxn λi j=>.int (i / j)):=J5 λi j _ _ _ _ _ hc q=>by have h1:(0:Int)<j:=hc.1;have h2:j<1073741824:=hc.2;exact floordiv_int (by exactλz=>iN [] [_] 2 26014245025 T1 z h1) (by rw[Int.fdiv_eq_ediv_of_nonneg i (by exact Jq h1)];exact q) (.inl (PyProof.noPylong_small (by omega)))
theorem Zte:aX X (gO .Mod) (rI (λ_ j=>0<j) λi j=>.int (i % j)):=J5 λi j _ _ _ _ _ hc q=>by have h1:(0:Int)<j:=hc;exact mod_int' (by exactλz=>iN [] [_] 2 26014245025 T1 z h1) (by rw[Int.fmod_eq_emod_of_nonneg i (by exact Jq h1)];exact q)
theorem Zus:aX X (gO .Pow) (rI Zxu λi j=>.int (i^j.toNat)):=J5 λ_ _ _ _ _ _ _ hc q=>pow_int_small hc.1 hc.2.1 hc.2.2 q
theorem unI{f:Yd->kh Yd}{g:Int->Int}(rule:∀(i:Int) (t:gY) (s:Yg) (Q:Yd->Yg->Prop) (E:Yd->Yg->Prop),Q (.int (g i) s.toks) {s with toks:=s.toks+1}->Yz (Y4 X.prog X.w) X.A (f (.int i t)) Q E s):
  sU X f (rU λi=>.int (g i)):=by
 intro pins s σ H x v Q I rx h;obtain⟨i,rfl,q⟩:=h;obtain⟨t,rfl⟩:=rx;exact rule i t s _ _ ⟨.int (g i),H,I.tok _,⟨_,rfl⟩,q⟩
theorem ZtD:sU X (Jf .USub) (rU λi=>.int (-i)):=unI λ_ _ _ _ _ q=>neg_int q
end
theorem Q7{i j:aj}:decide (V.str i=V.str j)=(i==j):=by rw[Bool.eq_iff_iff];simp
section
variable {X:Cx} {a b c:Expr} {ta tb tc:TE} {pos:aM}
theorem Zty{σ:St}{H:Hp}{s:Yg}{Q:VK}{k k':Bool}(I:Inv X pins σ H s)(q:Q (.bl k) H)(e:k=k'):EP X pins σ Q (.bool k') s:=by subst e;exact⟨.bl k,H,I,rfl,q⟩
theorem Zws:aX X (j8 .Lt) (xG λi j=>.bl (decide (i<j))):=Q5 λ_ _ _ _ _ _ _ q=>lt_int q
theorem ZvQ:aX X (j8 .Gt) (xG λi j=>.bl (decide (j<i))):=Q5 λ_ _ _ _ _ _ _ q=>gt_int q
theorem Zv2:aX X (j8 .GtE) (xG λi j=>.bl (decide (j<=i))):=Q5 λ_ _ _ _ _ _ _ q=>ge_int q
theorem ZsU:aX X (j8 .Is) (λx y H Q=>y= .non/\Q (.bl (decide (x= .non))) H):=by
 intro pins s σ H x y v u Q I rx ry h;obtain⟨rfl,q⟩:=h;cases ry;refine is_none_gen (Zty I q ?_);cases x<;>first
  |(cases rx;rfl)
  |(obtain⟨t,rfl⟩:=rx;rfl)
noncomputable def isObj:HO->Bool
 | .lst _=>true|.ins _ _ _=>true|_=>false
theorem Q8{s:Yg}{σ:St}{H:Hp}{a:Ym}{o:HO}(I:Inv X pins σ H s)(h:H a=Ya o)(p:isObj o=true):∃ob,s.heap.get? a=Ya ob/\ob.cls≠ .type "tuple":=by
 cases o with
 |lst xs=>obtain⟨_,its,n,_,e⟩:xs.length<=Y8/\∃(its:List Yd) (n:Nat),Vals xs its/\s.heap.get? a=Ya {cls:=.type "list",data:=.seq its.toArray n}:=I.hok a _ h;exact⟨_,e,(by show Value.type "list" ≠ .type "tuple";decide +kernel)⟩|ins C dx fs=>have x:=I.hok a _ h;obtain⟨_,_,_,e,_⟩:=x;exact⟨_,e,(by show Value.ref C≠ .type "tuple";exactλz=>by cases z)⟩|_=>exact absurd (show false=true from p) uK
theorem aX.or{r r':R2}(h:aX X f r)(h':aX X f r'):aX X f (λx y H Q=>r x y H Q\/r' x y H Q):=by
 intro pins s σ H x y v u Q I rx ry q;rcases q with q|q
 .exact h pins s σ H x y v u Q I rx ry q
 .exact h' pins s σ H x y v u Q I rx ry q
theorem ZrV{op:CmpOp}{r:R2}(ho:aX X (j8 op) r)(ha:PE X a ta)(hb:PE X b tb)(hm:Ja op b=false):PE X (.Compare a [op] [b] pos) (Ft r ta tb):=by intro pins s σ H Q I h;exact wpAny_Compare1 (Q4 ha hb I h λv u s2 x y H2 I2 rx ry q=>ho pins s2 σ H2 x y v u Q I2 rx ry q) hm
def ZvU(t:TE):TT:=λσ H Q=>t σ H λx H'=>∃k,x= .bl k/\Q k H'
theorem Zrl{op:CmpOp}{r:R2}(ho:aX X (j8 op) r)(ha:PE X a ta)(hb:PE X b tb)(hm:Ja op b=false):PT X (.Compare a [op] [b] pos) (ZvU (Ft r ta tb)):=by intro pins s σ H Q I h;refine wpAny_isTrue_Compare1 (aH (ha pins s σ H _ I h) λv s1 ⟨x,H1,I1,r1,q1⟩=>aH (hb pins s1 σ H1 _ I1 q1) λu s2 ⟨y,H2,I2,r2,q2⟩=>aH (ho pins s2 σ H2 x y v u _ I2 r1 r2 q2) λc s3 ⟨z,H3,I3,r3,k,e,q3⟩=>?_) hm;subst e;cases r3;exact Ox ⟨H3,I3,q3⟩
theorem J6:(Y8:Nat)<2^63:=by rw[rK];decide
theorem ZlT:aX X (gO .Add) (λx y H Q=>∃i j,x= .str i/\y= .str j/\i.length+j.length<=Y8/\Q (.str (i++j)) H):=by intro pins s σ H x y v u Q I rx ry h;obtain⟨i,j,rfl,rfl,hz,q⟩:=h;obtain⟨t,rfl⟩:=rx;obtain⟨t',rfl⟩:=ry;exact add_str (λt' tk=>⟨.str (i++j),H,I.tok _,⟨_,rfl⟩,q⟩) hz
theorem vals1{x:V}{us:List Yd}(r:Vals [x] us):∃u,us=[u]/\RelV x u:=by
 cases r with
 |cons r1 r2=>cases r2;exact⟨_,rfl,r1⟩
theorem vals2{x y:V}{us:List Yd}(r:Vals [x,y] us):∃u w',us=[u,w']/\RelV x u/\RelV y w':=by
 cases r with
 |cons r1 r2=>
  cases r2 with
  |cons r3 r4=>cases r4;exact⟨_,_,rfl,r1,r3⟩
theorem Zn9(hc:X.calm=true):aZ X (.builtin "max") (λxs H Q=>∃i j,xs=[.int i,.int j]/\Q (.int (if j>i then j else i)) H):=by
 intro pins s σ H xs us Q I r h;obtain⟨i,j,rfl,q⟩:=h;obtain⟨u,w',rfl,⟨t,rfl⟩,⟨t',rfl⟩⟩:=vals2 r;refine max_two_ints (I.ok.hd hc) λh' tk k=>⟨_,H,I.kept k,?_,q⟩;by_cases hj:j>i
 .rw[if_pos hj,if_pos hj];exact⟨_,rfl⟩
 .rw[if_neg hj,if_neg hj];exact⟨_,rfl⟩
theorem Zoc:aZ X (.type "int") (λxs H Q=>(∃i,xs=[.int i]/\Q (.int i) H)\/∃k,xs=[.bl k]/\Q (.int (if k then 1 else 0)) H):=by
 intro pins s σ H xs us Q I r h;rcases h with⟨i,rfl,q⟩|⟨k,rfl,q⟩
 .obtain⟨u,rfl,t,rfl⟩:=vals1 r;exact call_int_int ⟨.int i,H,I,⟨_,rfl⟩,q⟩
 .obtain⟨u,rfl,r1⟩:=vals1 r;cases r1;exact call_int_bool ⟨.int (if k then 1 else 0),H,I.tok _,⟨_,rfl⟩,q⟩
def Zxp(K:Yb)(x:V)(H:Hp)(n:Nat):Prop:=
 match x with
 | .str y=>y.length<=Y8/\n=y.length|.z9 y=>y.size<=Y8/\n=y.size|.ref p=>(∃xs,cB K H p xs/\n=xs.length)\/∃xs,cP K H p xs/\n=xs.length|_=>False
theorem Zqa:aZ X (.builtin "len") (λxs H Q=>∃x n,xs=[x]/\Zxp X.K x H n/\Q (.int n) H):=by
 intro pins s σ H xs us Q I r h;obtain⟨x,n,rfl,e,q⟩:=h;obtain⟨u,rfl,rx⟩:=vals1 r;have hl:=J6;have hs:Y8=16777216:=rK;cases x with
 |str y=>obtain⟨t,rfl⟩:=rx;obtain⟨hy,e'⟩:y.length<=Y8/\n=y.length:=e;subst e';exact len_str (by omega) ⟨.int _,H,I.tok _,⟨_,rfl⟩,q⟩|z9 y=>obtain⟨t,rfl⟩:=rx;obtain⟨hy,e'⟩:y.size<=Y8/\n=y.size:=e;subst e';exact PySem.W.len_bytes (by omega) ⟨.int _,H,I.tok _,⟨_,rfl⟩,q⟩|ref p=>
  cases rx
  have e':(∃xs,cB X.K H p xs/\n=xs.length)\/∃xs,cP X.K H p xs/\n=xs.length:=e;rcases e' with⟨xs,hx,e'⟩|⟨xs,hx,e'⟩
  .subst e';obtain⟨its,r',pl,hz⟩:=I.list hx;have hlen:=r'.length;exact Calls.call_len_list pl.isList (by simp only[Ys];omega) ⟨.int xs.length,H,I.tok _,⟨_,by simp only[Ys];rw[hlen]⟩,q⟩
  .subst e';obtain⟨its,r',pl,hz⟩:=I.tuple hx;have hlen:=r'.length;exact len_tuple pl (by simp only[Ys];omega) ⟨.int xs.length,H,I.tok _,⟨_,by simp only[Ys];rw[hlen]⟩,q⟩
 |_=>exact(show False from e).elim
end
end L2
namespace L2
open PySem PySem.Spec PyProof.Rows
structure xH(h:au)(x dx C:Ym)(mA:aj->Option Yd):Prop where
 obj:h.get? x=Ya (uq C dx)
 ns:h.Ns1 dx mA
 ne:dx≠x
theorem Zol{h:au}{dx:Ym}{mA:aj->Option Yd}(n:h.Ns1 dx mA):∃od,h.get? dx=Ya od/\∀name,Iz name od=Ya (mA name):=by
 obtain⟨o,es,ep,ho,hd,hk,_,hm⟩:=n;refine⟨o,ho,λname=>?_⟩;have e:=hm name;unfold Ef findBy at e;rw[←Array.find?_toList]at e;unfold Iz;rw[hd];dsimp only;split
 .rename_i y q;rw[q]at e;exact congrArg Ya e
 .rename_i q;rw[q]at e;have a:es.toList.any (·.refKey)=false:=by
   rw[List.any_eq_false];intro y hy;obtain⟨z,t,hkey⟩:=hk y (Yib.mp hy);simp[DictEntry.refKey,hkey]
  have a':¬es.toList.any (·.refKey)=true:=by rw[a];exact uK
  rw[if_neg a'];exact congrArg Ya e
theorem xH.look{h:au}{x dx C:Ym}{mA:aj->Option Yd}(I:xH h x dx C mA):∃od,PySem.W.InstAt h x (uq C dx) C (Ya od)/\∀name,Iz name od=Ya (mA name):=
 let⟨od,ho,hl⟩:=Zol I.ns
 ⟨od,⟨I.obj,rfl,rfl,ho⟩,hl⟩
variable{Q:Yd->Yg->Prop}
section
variable {prog:Y5} {w:aK} {A:bj} {E:Yd->Yg->Prop} {s:Yg} {K:Yb} {x dx C f:Ym} {mA:aj->Option Yd} {name:aj} {v:Yd}
theorem Zrb{expr:Bool}(X:K.In s.heap)(I:xH s.heap x dx C mA)(hg:DR K C name=true)(hh:Yes K C=true)(ha:Y0 K (.ref C) name=Ya Yh)(hv:mA name=Ya v)(hv':Xp v=true)(h:Q v {s with toks:=s.toks+1}):
  Yz (Y4 prog w) A (getAttr (.ref x) name expr) Q E s:=by
 obtain⟨od,J,hl⟩:=I.look;exact PySem.W.get_value X J (Oh hg).1 (PySem.W.findObj_own hh ha rfl (by rw[hl,hv])) hv' h
theorem Zpi{pl:kh Bool}{Q:Yd×List Yd->Yg->Prop}(X:K.In s.heap)(I:xH s.heap x dx C mA)(hg:DR K C name=true)(hf:Y0 K (.ref C) name=Ya (Ya (.ref f)))(ht:mJ K (.ref f)=true)(hv:mA name=Yh)(h:Q (.ref f,[.ref x]) s):
  Yz (Y4 prog w) A (Pn (.ref x) name pl) Q E s:=by
 obtain⟨od,J,hl⟩:=I.look;exact PySem.W.method_fn X J (Oh hg).1 (Oh hg).2 hf (beq_iff_eq.mp ht) (by show(Iz name od).map (·.isSome)=Ya false;rw[hl,hv];rfl) h
theorem ZrF{ns:List aj}{Q:Unit->Yg->Prop}(X:K.In s.heap)(I:xH s.heap x dx C mA)(hs:Y0 K (.ref C) "__setattr__" =Ya (Ya (.builtin "object.__setattr__")))(hp:Oj K C=true)(ht:Om K C name=Ya Yh)(hh:Yes K C=true)(hw:O7 mA ns)(hsz:ns.length<=Y8)(h:∀h',xH h' x dx C (λy=>if y=name then Ya v else mA y)->xr dx s.heap h'->Q () {s with heap:=h',toks:=s.toks+2}):
  Yz (Y4 prog w) A (setAttr (.ref x) name v) Q E s:=by
 obtain⟨od,J,hl⟩:=I.look;refine PySem.W.set_plain X J hs (PySem.W.osa_open (s:={s with toks:=s.toks+1}) (r:=Yh) X J hp ht λb=>?_);obtain⟨cd,hc,hd'⟩:=PySem.W.any_some hh;have hx:s.heap.get? x=Ya ⟨.ref C,Ya dx,.plain,#[]⟩:=I.obj;refine Yc (Yk (Yc (Yc (wpAny_loadPart hx (Yc (PySem.W.Looks.here (s:={s with toks:=s.toks+1}) (PySem.W.looks_clsIn X hc) ?_))))));rw[hd'];refine Yk (a:=Ya dx) (Yc (Yk (Yc ?_)));refine wpAny_nsSet1 (s:={s with toks:=s.toks+1}) I.ns λh' hn2 hs2=>?_;obtain⟨oD,esD,epD,hoD,hdD,hcD⟩:=hn2.count (PySem.Within.cons name v hw);refine Yc (wpAny_lookBehind hoD (by rw[hdD];exact pastItsLine_dict (Yv hcD (by rw[Yo];exact lB 1 0xa1ca0c01001 T1 hsz))) ?_);exact Yk (h _ ⟨(hs2.2 _ (bW I.ne)).trans I.obj,hn2,I.ne⟩ hs2)
theorem Zqv{R:p_->Yg->Prop}{vs:List Yd}{kw:List (aj×Yd)}(X:K.In s.heap)(hm:Iw K C=true)(hi:Y0 K (.ref C) "__init__" =Ya (Ya (.ref f)))(hf:IK K (.ref f)=Ya (.type "function"))(h:j9 (Y4 prog w) (A.under (.builtin "type.__call__" ⟨.ref C::vs,kw⟩)) (.call (.ref f) ⟨.ref (s.heap.objs.size+1)::vs,kw⟩) (PySem.W.InitBack (s.heap.objs.size+1) R)
   {s with heap:=(s.heap.push rF).push (uq C s.heap.objs.size)}):
  j9 (Y4 prog w) A (.call (.ref C) ⟨vs,kw⟩) R s:=by
 obtain⟨hh,g,d,t,os⟩:=s;exact PySem.W.make_core (PySem.W.makes_of X hm) (PySem.W.looks_findIn X hi) (λself=>PySem.W.bind_fn X self hf) (.inl rfl) h
end
noncomputable def iQ(f:aj)(v:V):List (aj×V)->List (aj×V)
 |[]=>[(f,v)]|(g,x)::r=>if g=f then(g,v)::r else(g,x)::iQ f v r
theorem Zhe(f g:aj)(v:V):∀fs:List (aj×V),(iQ f v fs).lookup g=if g=f then Ya v else fs.lookup g
 | []=>by
  show ql g [(f,v)]=_;by_cases h:g=f
  .have hb:(g==f)=true:=beq_iff_eq.mpr h;simp only[ql,hb,if_pos h]
  .have hb:(g==f)=false:=beq_eq_false_iff_ne.mpr h;simp only[ql,hb,if_neg h]
 | (k,x)::r=>by
  have ih:=Zhe f g v r;rw[show iQ f v ((k,x)::r)=(if k=f then(k,v)::r else(k,x)::iQ f v r)from rfl];by_cases hk:k=f
  .rw[if_pos hk];by_cases h:g=k
   .have hb:(g==k)=true:=beq_iff_eq.mpr h;simp only[ql,hb,if_pos (h.trans hk)]
   .have hb:(g==k)=false:=beq_eq_false_iff_ne.mpr h;simp only[ql,hb,if_neg (λe:g=f=>h (e.trans hk.symm))]
  .rw[if_neg hk];by_cases h:g=k
   .have hb:(g==k)=true:=beq_iff_eq.mpr h;simp only[ql,hb,if_neg (λe:g=f=>hk (h.symm.trans e))]
   .have hb:(g==k)=false:=beq_eq_false_iff_ne.mpr h;simp only[ql,hb];exact ih
theorem Q9(f:aj)(v:V):∀fs:List (aj×V),f∈(iQ f v fs).map (·.1)/\∀g,g∈fs.map (·.1)->g∈(iQ f v fs).map (·.1)
 |[]=>⟨by simp[iQ],λg h=>by simp at h⟩|(k,x)::r=>by
  obtain⟨i1,i2⟩:=Q9 f v r;rw[show iQ f v ((k,x)::r)=(if k=f then(k,v)::r else(k,x)::iQ f v r)from rfl];by_cases hk:k=f
  .rw[if_pos hk];subst hk;exact⟨by simp,λg h=>by simpa using h⟩
  .rw[if_neg hk];refine⟨?_,λg h=>?_⟩
   .rw[Y9];exact Yp _ i1
   .rw[Y9]at h ⊢;rcases Y6.mp h with e|e
    .exact Y6.mpr (.inl e)
    .exact Yp _ (i2 g e)
theorem Zhj(f:aj)(v:V):∀fs:List (aj×V),(iQ f v fs).length<=fs.length+1
 |[]=>by simp[iQ]|(k,x)::r=>by
  have ih:=Zhj f v r;rw[show iQ f v ((k,x)::r)=(if k=f then(k,v)::r else(k,x)::iQ f v r)from rfl];by_cases hk:k=f
  .rw[if_pos hk,Yo,Yo];exact rY _ _
  .rw[if_neg hk,Yo,Yo];exact lB 1 0xaa1cca0c0a1c001 T1 ih
theorem jP.some_of{v:V}{o:Option Yd}(r:jP (Ya v) o):∃u,o=Ya u/\RelV v u:=by
 cases o with
 |none=>exact(show False from r).elim|some u=>exact⟨u,rfl,r⟩
theorem jP.none_of{o:Option Yd}(r:jP Yh o):o=Yh:=by
 cases o with
 |none=>rfl|some u=>exact(show False from r).elim
theorem Zoy{v:V}{u:Yd}(r:RelV v u):Xp u=true:=by
 cases v with
 |non=>cases(show u=Value.none from r);rfl|bl b=>cases(show u=Value.bool b from r);rfl|int i=>obtain⟨t,e⟩:=(show∃t,u=Value.int i t from r);cases e;rfl|str x=>obtain⟨t,e⟩:=(show∃t,u=Value.str x t from r);cases e;rfl
 |z9 b=>obtain⟨t,e⟩:=(show∃t,u=Value.bytes b t from r);cases e;rfl|flt b=>obtain⟨t,e⟩:=(show∃t,u=Value.float b t from r);cases e;rfl|ref a=>cases(show u=Value.ref a from r);rfl|ty n=>cases(show u=Value.type n from r);rfl
section
variable {P:Y5} {w:aK} {H H':Hp} {h h':au} {a C dx:Ym} {fs fs':List (aj×V)}
theorem J7(hok:dz P w H h)(e:H a=Ya (.ins C dx fs)):∃mA,xH h a dx C mA/\(∀f,jP (fs.lookup f) (mA f))/\O7 mA (fs.map (·.1))/\fs.length<=1000/\H dx=Ya (.own a):=by obtain⟨d,z,ne,ob,mA,n,r,q⟩:=(show eN P w H h a (.ins C dx fs)from hok a _ e);exact⟨mA,⟨ob,n,ne⟩,r,q,z,d⟩
end
structure sV(K:Yb)(C:Ym):Prop where
 pg:DR K C Str.empty=true
 hd:Yes K C=true
 po:Oj K C=true
 sa:Y0 K (.ref C) "__setattr__" =Ya (Ya (.builtin "object.__setattr__"))
theorem sV.get{K:Yb}{C:Ym}(c:sV K C)(f:aj):DR K C f=true:=c.pg
def mR(K:Yb)(C:Ym)(f:aj):Prop:=Y0 K (.ref C) f=Ya Yh
theorem mR.taker{K:Yb}{C:Ym}{f:aj}(n:mR K C f):Om K C f=Ya Yh:=by unfold Om;rw[show Y0 K (.ref C) f=Ya Yh from n];rfl
structure Meth(K:Yb)(C:Ym)(m:aj)(f:Ym):Prop where
 at_:Y0 K (.ref C) m=Ya (Ya (.ref f))
 fn:mJ K (.ref f)=true
 kp:mH K (.ref f)=true
section
variable {X:Cx} {pins:List (Ym×aD)} {σ:St} {H:Hp} {s:Yg} {a C dx:Ym} {fs:List (aj×V)} {f:aj} {v:V} {A:bj} {E:Yd->Yg->Prop}
theorem Zmu{b:Bool}(I:Inv X pins σ H s)(e:H a=Ya (.ins C dx fs))(c:sV X.K C)(n:mR X.K C f)(l:fs.lookup f=Ya v)(h:∀u s',Inv X pins σ H s'->RelV v u->Q u s'):Yz (Y4 X.prog X.w) A (getAttr (.ref a) f b) Q E s:=by obtain⟨mA,O,r,_,_,_⟩:=J7 I.hok e;obtain⟨u,hu,ru⟩:=jP.some_of (v:=v) (o:=mA f) (by rw[←l];exact r f);exact Zrb I.cL O (c.get f) c.hd n hu (Zoy ru) (h u _ (I.tok _) ru)
theorem ZlP{m:aj}{g:Ym}{pl:kh Bool}{Q:Yd×List Yd->Yg->Prop}(I:Inv X pins σ H s)(e:H a=Ya (.ins C dx fs))(c:sV X.K C)(k:Meth X.K C m g)(l:fs.lookup m=Yh)(h:Q (.ref g,[.ref a]) s):Yz (Y4 X.prog X.w) A (Pn (.ref a) m pl) Q E s:=by obtain⟨mA,O,r,_,_,_⟩:=J7 I.hok e;have hn:mA m=Yh:=jP.none_of (by rw[←l];exact r m);exact Zpi I.cL O (c.get m) k.at_ k.fn hn h
theorem Zmp{y:V}{u:Yd}{Q:Unit->Yg->Prop}(I:Inv X pins σ H s)(e:H a=Ya (.ins C dx fs))(c:sV X.K C)(n:mR X.K C f)(hl:fs.length<1000)(ry:RelV y u)(h:∀s',Inv X pins σ (upd H a (.ins C dx (iQ f y fs))) s'->Q () s'):Yz (Y4 X.prog X.w) A (setAttr (.ref a) f u) Q E s:=by
 obtain⟨mA,O,r,wi,_,ho⟩:=J7 I.hok e;have hz:(fs.map (·.1)).length<=Y8:=by rw[iz,rK];exact lA 1 0x10000007b003e83b011 T1 hl
 refine ZrF I.cL O c.sa c.po n.taker c.hd wi hz λh' O' sb=>h _ ?_;have hd:∃o,h'.get? dx=Ya o:=let⟨o,_,_,e',_⟩:=O'.ns;⟨o,e'⟩;refine I.write (x:=a) (e:=dx) (by rw[e];exact True.intro) (.inr ho) (λb q hb z=>(sb.2 b hb).trans z) hd ?_;refine⟨by rw[cW O.ne];exact ho,?_,O.ne,O'.obj,_,O'.ns,λg=>?_,λg hg=>?_⟩
 .have:=Zhj f y fs;exact lB 2 0x3e83b003e83b111a1c001 T1 this hl
 .show jP ((iQ f y fs).lookup g) (if g=f then Ya u else mA g);rw[Zhe];by_cases q:g=f
  .rw[if_pos q,if_pos q];exact ry
  .rw[if_neg q,if_neg q];exact r g
 .by_cases q:g=f
  .rw[q];exact(Q9 f y fs).1
  .refine(Q9 f y fs).2 g (wi g λz=>hg ?_);show(if g=f then Ya u else mA g)=Yh;rw[if_neg q];exact z
theorem Inv.made(I:Inv X pins σ H s):Inv X pins σ (upd (upd H s.heap.objs.size (.own (s.heap.objs.size+1))) (s.heap.objs.size+1) (.ins C s.heap.objs.size []))
  {s with heap:=(s.heap.push rF).push (uq C s.heap.objs.size)}:=by
 have e1:(s.heap.push rF).get? s.heap.objs.size=Ya rF:=Y1 s.heap rfl;have e2:((s.heap.push rF).push (uq C s.heap.objs.size)).get? (s.heap.objs.size+1)=Ya (uq C s.heap.objs.size):=by
  have:=Y1 (s.heap.push rF) (o:=uq C s.heap.objs.size) rfl
  rwa[uG]at this
 have e3:(s.heap.push rF).Ns s.heap.objs.size (λ_=>Yh):=⟨rF,#[],_,e1,rfl,(λe he=>absurd he (by simp)),λ_=>rfl⟩;have I1:=I.laid (a:=s.heap.objs.size) (o:=.own (s.heap.objs.size+1)) (h':=s.heap.push rF) (t':=s.toks) (λb u q=>Yi _ q) (Yl _) ⟨_,e1⟩;refine I1.laid (a:=s.heap.objs.size+1) (o:=.ins C s.heap.objs.size []) (t':=s.toks) (λb u q=>Yi _ q) (su (uG _ _)) ?_;have ne:s.heap.objs.size≠s.heap.objs.size+1:=eF (zQ _);refine⟨by rw[cW ne,mO],eG _,ne,e2,λ_=>Yh,(Heap.Ns1.of_empty e3).at λo q=>Yi _ q,λ_=>True.intro,λy hy=>absurd rfl hy⟩
theorem Zr3{prog:Y5}{w:aK}{env:cQ}{e:Expr}{f:aj}{pos:aM}{s:Yg}(hb:p7 e f env (aG e env)=aG e env)(h:Yz (Y4 prog w) A (aG e env) (λo s₁=>Yz (Y4 prog w) A (getAttr o f true) Q E s₁) E s):Yz (Y4 prog w) A (aG (.Attribute e f pos) env) Q E s:=Attribute_any_ h (by rw[arm_eval_Attribute,hb])
end
def Zw9(K:Yb)(ta:TE)(f:aj):TE:=λσ H Q=>ta σ H λx H1=>∃a C dx fs v,x= .ref a/\H1 a=Ya (.ins C dx fs)/\sV K C/\mR K C f/\fs.lookup f=Ya v/\Q v H1
def Zxh(K:Yb)(ta tv:TE)(f:aj):TS:=λD σ H=>tv σ H λy H1=>ta σ H1 λx H2=>∃a C dx fs,x= .ref a/\H2 a=Ya (.ins C dx fs)/\sV K C/\mR K C f/\fs.length<1000/\
 D.nx σ (upd H2 a (.ins C dx (iQ f y fs)))
section
variable {X:Cx} {o e value:Expr} {f:aj} {pos pos' tpos:aM} {ta tv:TE}
theorem Zt5(he:PE X e ta)(hb:p7 e f X.env (aG e X.env)=aG e X.env):PE X (.Attribute e f pos) (Zw9 X.K ta f):=by intro pins s σ H Q I h;refine Zr3 hb (aH (he pins s σ H _ I h) λu s1 ak=>?_);obtain⟨x,H1,I1,rx,a,C,dx,fs,v,ex,ea,c,n,l,q⟩:=ak;subst ex;obtain rfl:u=Value.ref a:=rx;exact Zmu I1 ea c n l λu' s2 I2 ru=>⟨v,H1,I2,ru,q⟩
theorem Ztb(ha:PE X o ta)(hv:PE X value tv)(hs:nO value (Ya (.Attribute o f pos')) pos.line X.env=pure false):PS X (.Assign [.Attribute o f pos'] value pos) (Zxh X.K ta tv f):=by intro pins s σ H D I h;refine plainObj_wpAny_Assign_Attribute (aH (hv pins s σ H _ I h) λu s1 ⟨y,H1,I1,ry,q⟩=>aH (ha pins s1 σ H1 _ I1 q) λov s2 ak=>?_) hs;obtain⟨x,H2,I2,rx,a,C,dx,fs,ex,ea,c,n,l,q2⟩:=ak;subst ex;obtain rfl:ov=Value.ref a:=rx;exact Zmp I2 ea c n l ry λs3 I3=>⟨σ,_,I3,q2⟩
end
section
variable {X:Cx} {pins:List (Ym×aD)} {σ:St} {H:Hp} {s:Yg} {A:bj} {E:Yd->Yg->Prop} {Q:Yd->Yg->Prop} {c:Yd} {b:Bool}
inductive n8(K:Yb)(H:Hp):V->Yd->Prop where
 |non:n8 K H .non (.type "NoneType")
 |bl (x:Bool):n8 K H (.bl x) (.type "bool")
 |int (i:Int):n8 K H (.int i) (.type "int")
 |str (x:aj):n8 K H (.str x) (.type "str")
 |flt (x:UInt64):n8 K H (.flt x) (.type "float")
 |lst {a:Ym} {xs:List V} (e:H a=Ya (.lst xs)):n8 K H (.ref a) (.type "list")
 |fB {a:Ym} {o:aD} {xs:List V} (e:H a=Ya (.fB o (.lst xs))):n8 K H (.ref a) (.type "list")
 |tup {a:Ym} {xs:List V} (e:H a=Ya (.tup xs)):n8 K H (.ref a) (.type "tuple")
 |dK {a:Ym} {kvs:List (Key×V)} (e:H a=Ya (.dK kvs)):n8 K H (.ref a) (.type "dict")
 |dT {a:Ym} {kvs:List (List Key×V)} (e:H a=Ya (.dT kvs)):n8 K H (.ref a) (.type "dict")
 | ins {a C dx:Ym} {fs:List (aj×V)} (e:H a=Ya (.ins C dx fs)) (cl:sV K C) (ha:Y0 K (.ref C) "__class__" =Ya (Ya (.builtin "object.__class__")))
   (hn:Ol K (.builtin "object.__class__") "__get__" =Ya (Ya (.builtin "getset_descriptor.__get__"))) (htk:Oo K (.builtin "object.__class__")=Ya true)
   (hm:wI K C (.type "object")=Ya true):n8 K H (.ref a) (.ref C)
theorem Ac{x:V}{u t:Yd}(I:Inv X pins σ H s)(rx:RelV x u)(ty:n8 X.K H x t)(e:Oq X.K t c=Ya b)(h:∀tk,Q (.bool b) {s with toks:=tk}):
  Yz (Y4 X.prog X.w) A (call (.builtin "isinstance") [u,c]) Q E s:=by
 cases ty with
 |non=>cases(show u=Value.none from rx);exact mG Xm I.cL True.intro e (λz=>nomatch z) h|bl y=>cases(show u=Value.bool y from rx);exact mG PySem.W.kitx_bool I.cL True.intro e (λz=>nomatch z) h|int i=>obtain⟨t,q⟩:=(show∃t,u=Value.int i t from rx);cases q;exact mG PySem.W.kitx_int I.cL True.intro e (λz=>nomatch z) h|str y=>obtain⟨t,q⟩:=(show∃t,u=Value.str y t from rx);cases q;exact mG PySem.W.kitx_str I.cL True.intro e (λz=>nomatch z) h
 |flt y=>obtain⟨t,q⟩:=(show∃t,u=Value.float y t from rx);cases q;exact mG PySem.W.kitx_float I.cL True.intro e (λz=>nomatch z) h|@lst a xs ea=>
  cases(show u=Value.ref a from rx)
  obtain⟨_,_,n,_,h1⟩:=(show eN X.prog X.w H s.heap a (.lst xs)from I.hok a _ ea);exact mG Xn I.cL ⟨_,h1,rfl⟩ e (λz=>nomatch z) h
 | @fB a ob xs ea=>
  cases(show u=Value.ref a from rx)
  obtain⟨_,_,_,n,_,h1⟩:=(show eN X.prog X.w H s.heap a (.fB ob (.lst xs))from I.hok a _ ea);exact mG Xn I.cL ⟨_,h1,rfl⟩ e (λz=>nomatch z) h
 | @tup a xs ea=>
  cases(show u=Value.ref a from rx)
  obtain⟨_,_,_,p⟩:=(show eN X.prog X.w H s.heap a (.tup xs)from I.hok a _ ea);obtain⟨o,h1,h2,_⟩:=p;exact mG Xl I.cL ⟨o,h1,h2.1⟩ e (λz=>nomatch z) h
 | @dK a kvs ea=>
  cases(show u=Value.ref a from rx)
  obtain⟨_,_,vs,_,p⟩:=(show eN X.prog X.w H s.heap a (.dK kvs)from I.hok a _ ea);obtain⟨o,es,ep,h1,h2,_⟩:=p;exact mG Xo I.cL ⟨o,h1,h2.1⟩ e (λz=>nomatch z) h
 | @dT a kvs ea=>
  cases(show u=Value.ref a from rx)
  obtain⟨_,_,xs,_,o,es,ep,h1,h2,_⟩:=(show eN X.prog X.w H s.heap a (.dT kvs)from I.hok a _ ea);exact mG Xo I.cL ⟨o,h1,h2.1⟩ e (λz=>nomatch z) h
 | @ins a C dx fs ea cl ha hn htk hm=>
  cases(show u=Value.ref a from rx)
  obtain⟨mA,O,_⟩:=J7 I.hok ea;obtain⟨od,J,_⟩:=O.look;exact mG (PySem.W.kitx_own (cl.get _) cl.hd ha hn htk hm) I.cL J e (λz=>nomatch z) h
end
end L2
namespace L2
open PySem PySem.Spec PyProof.Rows
structure b_(k:Nat)(A:bj):Prop where
 hd:A.handled=Yh
 dp:A.depth+3*k+5<recursionLimit
 un:A.units+16*k+200<fP
variable{A:bj}
theorem b_.mono{j k:Nat}(r:b_ k A)(h:j<=k):b_ j A:=⟨r.hd,by have:=r.dp;exact lD 2 0x251b303d0cc11303251b103d0cc11 T1 this h,by have:=r.un;omega⟩
theorem b_.deeper{k:Nat}(r:b_ (k+1) A)(env:cQ):b_ k (A.deeper env):=⟨r.hd,by have:=r.dp;show A.depth+1+3*k+5<_;exact lC 1 0x251b103da0ccc1251ba1c03d0cc11 T1 this,by have:=r.un;show A.units+3+16*k+200<_;exact lC 1 0x2c82b110d31b0ccc12c82ba1c10d0cc11 T1 this⟩
theorem b_.in1{k:Nat}(r:b_ (k+1) A):b_ k A.in1:=⟨r.hd,by have:=r.dp;show A.depth+3*k+5<_;exact lC 1 0x251b103d0cc1251ba1c03d0cc11 T1 this,by have:=r.un;show A.units+1+16*k+200<_;exact lC 1 0x2c82b110da0ccc12c82ba1c10d0cc11 T1 this⟩
variable{us:List Yd}
theorem ZmB{C:Ym}{kw:List (aj×Yd)}:(A.under (.builtin "type.__call__" ⟨.ref C::us,kw⟩)).depth=A.depth+1:=by first|rfl|simp[Qz,Code.weight,Code.isCreation,Code.isGuard,Code.isCaller,Code.frames,QD,guardIds]
theorem Zmy{C:Ym}{kw:List (aj×Yd)}:(A.under (.builtin "type.__call__" ⟨.ref C::us,kw⟩)).units=A.units+1:=by first|rfl|simp[Qz,Code.cUnits,Code.frames,QD]
theorem b_.make{k:Nat}(r:b_ (k+1) A)(C:Ym)(us:List Yd)(kw:List (aj×Yd)):b_ k (A.under (.builtin "type.__call__" ⟨.ref C::us,kw⟩)):=⟨r.hd,by have:=r.dp;rw[ZmB];exact lC 1 0x251b103da0ccc1251ba1c03d0cc11 T1 this,by have:=r.un;rw[Zmy];exact lC 1 0x2c82b110da0ccc12c82ba1c10d0cc11 T1 this⟩
theorem b_.depth{k:Nat}(r:b_ k A):A.depth<recursionLimit:=by have:=r.dp;exact lC 1 0x201251b103d0cc11 T1 this
theorem b_.units{k:Nat}(r:b_ k A):A.units+64<fP:=by have:=r.un;exact lC 1 0x2402b0c12c82b110d0cc11 T1 this
def Q_:TA:=λ_ H Q=>Q [] H
def Ra(ta:TE)(tr:TA):TA:=λσ H Q=>ta σ H λx H1=>tr σ H1 λxs H2=>Q (x::xs) H2
section
variable {X:Cx} {e:Expr} {es:List Expr} {te:TE} {t:TA} {pos:aM}
theorem J8:PA X [] Q_:=λ_ _ _ _ H Q I h=>JH ⟨[],H,I,.nil,h⟩
theorem Ad(ha:PE X e te)(hr:PA X es t)(hs:Yq (e::es) X.env=(false,aG e X.env)::Yq es X.env:=by rfl):PA X (e::es) (Ra te t):=by intro pos pins s σ H Q I h;rw[hs];show Yz _ _ (spliced ((false,aG e X.env)::dm pos (Yq es X.env))) _ _ s;refine zZ (aH (ha pins s σ H _ I h) λu s1 ak=>?_);obtain⟨x,H1,I1,r1,q1⟩:=ak;exact aH (hr pos pins s1 σ H1 _ I1 q1) λus s2 ⟨xs,H2,I2,r2,q2⟩=>⟨x::xs,H2,I2,.cons r1 r2,q2⟩
def ZxF(t:TA):TE:=λσ H Q=>t σ H λxs H1=>xs.length<=Y8/\∀p,H1 p=Yh->Q (.ref p) (upd H1 p (.tup xs))
def Zxb(t:TA):TE:=λσ H Q=>t σ H λxs H1=>xs.length<=Y8/\∀p,H1 p=Yh->Q (.ref p) (upd H1 p (.lst xs))
theorem Zth{x1}(h:PA X es t):PE X (.Tuple es x1 pos) (ZxF t):=by intro pins s σ H Q I hq;refine wpAny_Tuple_spliced (aH (h pos pins s σ H _ I hq) λus s1 ⟨xs,H1,I1,r,z,q⟩=>⟨by rw[←r.length];exact z,?_⟩);have hf:H1 s1.heap.objs.size=Yh:=I1.hok.fresh (Yl _);refine⟨.ref s1.heap.objs.size,upd H1 s1.heap.objs.size (.tup xs),I1.laid (t':=s1.toks) (λb u e=>Yi _ e) (Yl _) ?_,rfl,q _ hf⟩;exact⟨z,us,r,⟨_,Y1 _ rfl,⟨rfl,rfl⟩,_,rfl⟩⟩
theorem ZuE(h:PA X es t):PE X (.List es pos) (Zxb t):=by intro pins s σ H Q I hq;refine wpAny_List_spliced (aH (h pos pins s σ H _ I hq) λus s1 ⟨xs,H1,I1,r,z,q⟩=>⟨by rw[←r.length];exact z,?_⟩);have hf:H1 s1.heap.objs.size=Yh:=I1.hok.fresh (Yl _);refine⟨.ref s1.heap.objs.size,upd H1 s1.heap.objs.size (.lst xs),I1.laid (t':=s1.toks) (λb u e=>Yi _ e) (Yl _) ?_,rfl,q _ hf⟩;exact⟨z,us,0,r,Y1 _ rfl⟩
end
noncomputable abbrev Sp:=List V->Hp->VK->XK->Prop
noncomputable abbrev pK:=List cQ->Hp->Yg->XK->Yd->Yg->Prop
structure qC(P:Y5)(w:aK)(K:Yb)(mg:aj->Option Yd)(base:au)(A:bj)(outer:List cQ)(s:Yg)(H:Hp):Prop where
 frames:A.frames=Ya outer
 mod:Mod K mg base
 bs:∀b o,base.get? b=Ya o->s.heap.get? b=Ya o/\H b=Yh
 mQ:base.objs.size<=s.heap.objs.size
 jJ:s.heap.FunFrames base outer
 pI:∀b∈frs outer,H b=Yh
 hok:dz P w H s.heap
 bare:qp s.gens
def CE(outer:List cQ)(P:Y5)(w:aK)(H:Hp)(s:Yg)(Q:VK)(u:Yd)(s':Yg):Prop:=∃v H',s'.os=s.os/\qp s'.gens/\Un (frs outer) [] H H' s.heap s'.heap/\dz P w H' s'.heap/\RelV v u/\Q v H'
def CR(CX:pK)(outer:List cQ)(P:Y5)(w:aK)(H:Hp)(s:Yg)(Q:VK)(E:XK)(r:p_)(s':Yg):Prop:=
 match r with
 | .ok (.ret u)=>CE outer P w H s Q u s'|.ok _=>False|.error e=>CX outer H s E e s'
structure eQ(P:Y5)(w:aK)(K:Yb)(mg:aj->Option Yd)(base:au)(CX:pK)(k:Nat)(f:Ym)(fd:iJ)(ps:List aj)(sp:Sp):Prop where
 len:∀vs H Q E,sp vs H Q E->vs.length=ps.length
 run:∀(A:bj) (outer:List cQ) (s:Yg) (H:Hp) (args:Args) (us:List Yd) (vs:List V) (Q:VK) (E:XK),b_ k A->qC P w K mg base A outer s H->rP s fd args (ps.zip us)->Vals vs us->sp vs H Q E ->
  j9 (Y4 P w) A (.call (.ref f) args) (CR CX outer P w H s Q E) s
variable{P:Y5}{base:au}{K:Yb}{CX:pK}{w:aK}{ps:List aj}{mg:aj->Option Yd}
theorem eQ.mono{j k:Nat}{f:Ym}{fd:iJ}{sp:Sp}(F:eQ P w K mg base CX j f fd ps sp)(h:j<=k):
  eQ P w K mg base CX k f fd ps sp:=⟨F.len,λA outer s H args us vs Q E hr=>F.run A outer s H args us vs Q E (hr.mono h)⟩
theorem eQ.imp{k:Nat}{f:Ym}{fd:iJ}{sp sp':Sp}(F:eQ P w K mg base CX k f fd ps sp)(h:∀vs H Q E,sp' vs H Q E->sp vs H Q E):eQ P w K mg base CX k f fd ps sp':=⟨λvs H Q E q=>F.len vs H Q E (h _ _ _ _ q),λA outer s H args us vs Q E hr he hb hv hs=>F.run A outer s H args us vs Q E hr he hb hv (h _ _ _ _ hs)⟩
variable{outer:List cQ}{H:Hp}{s:Yg}
theorem qC.make(e:qC P w K mg base A outer s H)(C:Ym)(us:List Yd)(kw:List (aj×Yd)):
  qC P w K mg base (A.under (.builtin "type.__call__" ⟨.ref C::us,kw⟩)) outer s H:=⟨by first|exact e.frames|(simpa[Qz,Code.envs,QD,pushEnvs]using e.frames),e.mod,e.bs,e.mQ,e.jJ,e.pI,e.hok,e.bare⟩
theorem qC.in1(e:qC P w K mg base A outer s H):
  qC P w K mg base A.in1 outer s H:=⟨e.frames,e.mod,e.bs,e.mQ,e.jJ,e.pI,e.hok,e.bare⟩
section
variable {X:Cx} {pins:List (Ym×aD)} {σ:St} {H:Hp} {s s':Yg}
theorem Inv.env0(I:Inv X pins σ H s):qC X.prog X.w X.K X.mg X.base X.A X.stack s H:=⟨I.ok.frames,I.ok.mod,I.bs,Yv I.ok.mQ I.sz,I.stack,I.NP,I.hok,I.bare⟩
theorem Inv.after{Q:VK}{u:Yd}(I:Inv X pins σ H s)(h:CE X.stack X.prog X.w H s Q u s'):EP X pins σ Q u s':=by obtain⟨v,H',os,bare,un,hok,r,q⟩:=h;obtain⟨hh,g,d,t,os'⟩:=s';obtain rfl:os'=s.os:=os;exact⟨v,H',I.call (h':=hh) (g':=g) (d':=d) (t':=t) (ch:=[]) un hok bare (λb z=>absurd z (by simp)),r,q⟩
end
def ZvA(sp:Sp)(gw:List V)(E:XK)(t:TA):TE:=λσ H Q=>t σ H λvs H1=>sp (vs++gw) H1 Q E
def Zwg(C:Ym)(sp:Sp)(gw:List V)(E:XK)(t:TA):TE:=λσ H Q=>t σ H λvs H1=>∀x dx,H1 x=Yh->H1 dx=Yh->dx≠x ->
 sp (.ref x::(vs++gw)) (upd (upd H1 dx (.own x)) x (.ins C dx [])) (λv H2=>v= .non/\Q (.ref x) H2) E
def Binds(K:Yb)(fd:iJ)(ps:List aj)(ds:List Yd):Prop:=∀(s:Yg) (us:List Yd),K.In s.heap->(us++ds).length=ps.length->rP s fd ⟨us,[]⟩ (ps.zip (us++ds))
theorem Binds.all{fd:iJ}(h:∀us:List Yd,us.length=ps.length->bindArgs fd ⟨us,[]⟩=pure (ps.zip us)):Binds K fd ps []:=λs us _ hl=>by rw[qd]at hl ⊢;exact .of_eq (h us hl)
def Fv(CX:pK)(X:Cx)(E:XK):Prop:=∀(pins:List (Ym×aD)) (σ:St) (H:Hp) (s:Yg) (e:Yd) (s':Yg),Inv X pins σ H s->CX X.stack H s E e s'->X.xe e s'
variable{vs:List V}
section
variable {X:Cx} {CX:pK} {k:Nat} {f C:Ym} {fd:iJ} {ps:List aj} {sp:Sp} {gw:List V} {ds:List Yd} {E:XK} {x m:aj} {p pos apos:aM} {e o:Expr} {es:List Expr} {ta:TE} {t:TA}
theorem ZuS{pins:List (Ym×aD)}{σ:St}{Q:VK}(F:eQ X.prog X.w X.K X.mg X.base CX k f fd ps sp)(hr:b_ k X.A)(hb:Binds X.K fd ps ds)(hd:Vals gw ds)(hx:Fv CX X E)(I:Inv X pins σ H s)(r:Vals vs us)(h:sp (vs++gw) H Q E):Yz (Y4 X.prog X.w) X.A (call (.ref f) us) (EP X pins σ Q) X.xe s:=by
 have r2:Vals (vs++gw) (us++ds):=r.append hd;have hl:(us++ds).length=ps.length:=by rw[←r2.length];exact F.len _ _ _ _ h
 refine Ec (wU (F.run X.A X.stack s H ⟨us,[]⟩ (us++ds) (vs++gw) Q E hr I.env0 (hb s us I.cL hl) r2 h) λr s' hq=>?_);cases r with
 |error e=>exact hx pins σ H s e s' I hq|ok fl=>
  cases fl with
  |ret u=>exact I.after hq|next=>exact dw hq|brk=>exact dw hq|cont=>exact dw hq
theorem Zrh(F:eQ X.prog X.w X.K X.mg X.base CX k f fd ps sp)(hr:b_ k X.A)(hg:Gl X x)(hm:X.mg x=Ya (.ref f))(hk:mH X.K (.ref f)=true)(hb:Binds X.K fd ps ds)(hd:Vals gw ds)(hx:Fv CX X E)(ha:PA X (e::es) t)(hdb:(x==("__debug__":aj))=false:=by decide)(he:Yq (e::es) X.env=(false,aG e X.env)::Yq es X.env:=by rfl)(hpl:(dm pos (Yq es X.env)).any (·.1)=false:=by rfl):
  PE X (.Call (.Name x p) (e::es) [] pos) (ZvA sp gw E t):=by
 intro pins s σ H Q I h;refine wL (sO I hg hm ?_ hdb);refine DQ (h₀:=X.base) I.ok.mod.pH hk (aH (ha pos pins s σ H _ I h) λus s1 ⟨vs,H1,I1,r,q⟩=>⟨I1.cL,?_⟩) he hpl;exact ZuS F hr hb hd hx I1 r q
structure Mk(K:Yb)(C f:Ym):Prop where
 makes:Iw K C=true
 init:Y0 K (.ref C) "__init__" =Ya (Ya (.ref f))
 fn:mJ K (.ref f)=true
 kp:mH K (.ref C)=true
theorem ZoR{pins:List (Ym×aD)}{σ:St}{Q:VK}(M:Mk X.K C f)(F:eQ X.prog X.w X.K X.mg X.base CX k f fd ps sp)(hr:b_ (k+1) X.A)(hb:Binds X.K fd ps ds)(hd:Vals gw ds)(hx:Fv CX X E)(I:Inv X pins σ H s)(r:Vals vs us)(h:∀x dx,H x=Yh->H dx=Yh->dx≠x->sp (.ref x::(vs++gw)) (upd (upd H dx (.own x)) x (.ins C dx [])) (λv H2=>v= .non/\Q (.ref x) H2) E):
  Yz (Y4 X.prog X.w) X.A (call (.ref C) us) (EP X pins σ Q) X.xe s:=by
 have hq:=h (s.heap.objs.size+1) s.heap.objs.size (I.hok.fresh (Nat.le_succ _)) (I.hok.fresh (Yl _)) (eF (zQ _));have I2:=Inv.made (C:=C) I;have r2:Vals (V.ref (s.heap.objs.size+1)::(vs++gw)) (Value.ref (s.heap.objs.size+1)::(us++ds)):=.cons rfl (r.append hd);have hl:(Value.ref (s.heap.objs.size+1)::us++ds).length=ps.length:=by have e:=r2.length;rw[F.len _ _ _ _ hq]at e;exact e.symm
 refine Ec (Zqv (f:=f) I.cL M.makes M.init (beq_iff_eq.mp M.fn) (wU (F.run _ X.stack _ _ ⟨Value.ref (s.heap.objs.size+1)::us,[]⟩ (Value.ref (s.heap.objs.size+1)::(us++ds)) _ _ E (hr.make C us [])
  (I2.env0.make C us []) (hb _ (Value.ref (s.heap.objs.size+1)::us) I2.cL hl) r2 hq) λr s' hq'=>?_))
 cases r with
 |error e=>exact hx pins σ _ _ e s' I2 hq'|ok fl=>
  cases fl with
  |ret u=>obtain⟨v,H',I3,rv,ev,q3⟩:=I2.after hq';subst ev;exact⟨rv,⟨V.ref (s.heap.objs.size+1),H',I3,rfl,q3⟩⟩|next=>exact dw hq'|brk=>exact dw hq'
  |cont=>exact dw hq'
theorem Zrt(M:Mk X.K C f)(F:eQ X.prog X.w X.K X.mg X.base CX k f fd ps sp)(hr:b_ (k+1) X.A)(hg:Gl X x)(hm:X.mg x=Ya (.ref C))(hb:Binds X.K fd ps ds)(hd:Vals gw ds)(hx:Fv CX X E)(ha:PA X (e::es) t)(hdb:(x==("__debug__":aj))=false:=by decide)(he:Yq (e::es) X.env=(false,aG e X.env)::Yq es X.env:=by rfl)(hpl:(dm pos (Yq es X.env)).any (·.1)=false:=by rfl):
  PE X (.Call (.Name x p) (e::es) [] pos) (Zwg C sp gw E t):=by
 intro pins s σ H Q I h;refine wL (sO I hg hm ?_ hdb);refine DQ (h₀:=X.base) I.ok.mod.pH M.kp (aH (ha pos pins s σ H _ I h) λus s1 ⟨vs,H1,I1,r,q⟩=>⟨I1.cL,?_⟩) he hpl;exact ZoR M F hr hb hd hx I1 r q
end
def PK(X:Cx)(kws:List Keyword)(t:TA):Prop:=∀(pos:aM) (pins:List (Ym×aD)) (s:Yg) (σ:St) (H:Hp) (Q:List V->Hp->Prop),Inv X pins σ H s->t σ H Q->Yz (Y4 X.prog X.w) X.A (evalAll ((pA pos (pq kws X.env)).map (·.2))) (AP X pins σ Q) X.xe s
section
variable {X:Cx} {CX:pK} {k:Nat} {f C:Ym} {fd:iJ} {ps ks:List aj} {sp:Sp} {E:XK} {x m:aj} {p pos apos kpos:aM} {e o:Expr} {es:List Expr} {kws:List Keyword} {te ta:TE} {t tk:TA} {nm:Option aj}
theorem Zt4:PK X [] Q_:=λ_ _ _ _ H Q I h=>wpAny_evalAll_nil ⟨[],H,I,.nil,h⟩
theorem ZrC(ha:PE X e te)(hr:PK X kws t):PK X (⟨nm,e,kpos⟩::kws) (Ra te t):=by intro pos pins s σ H Q I h;show Yz _ _ (evalAll ((do let v ←aG e X.env;zu pos;pure v)::(pA pos (pq kws X.env)).map (·.2))) _ _ s;refine wpAny_evalAll_cons (Yc (aH (ha pins s σ H _ I h) λu s1 ⟨x,H1,I1,r1,q1⟩=>Yc (DY (Yk ?_))));exact aH (hr pos pins s1 σ H1 _ I1 q1) λus s2 ⟨xs,H2,I2,r2,q2⟩=>⟨x::xs,H2,I2,.cons r1 r2,q2⟩
structure J9(K:Yb)(fd:iJ)(ps ks:List aj)(g:List Yd->List Yd->List Yd)(gV:List V->List V->List V):Prop where
 to:∀(s:Yg) (us ws:List Yd),K.In s.heap->(g us ws).length=ps.length->rP s fd ⟨us,ks.zip ws⟩ (ps.zip (g us ws))
 rel:∀{vs:List V} {us:List Yd} {zs:List V} {ws:List Yd},Vals vs us->Vals zs ws->Vals (gV vs zs) (g us ws)
variable {g:List Yd->List Yd->List Yd} {gV:List V->List V->List V}
end
structure cX(N P:List aj)(sc:Scope):Prop where
 kind:sc.kind= .function
 co:sc.isCoroutine=false
 gen:sc.isGenerator=false
 nd:N.Nodup
 pre:N.take P.length=P
 par:∀x∈P,sc.names.lookup x=Ya .local\/sc.names.lookup x=Ya .cell
 AcG:∀y∈sc.names,y.2≠ .free
theorem Zjd{lR:aj->Option NameKind}{x:aj}:∀{binds:List (aj×Yd)} {m:aj->Option Yd},(∀v,(x,v)∉binds)->uD lR binds m x=m x
 |[],_,_=>rfl|(n,v)::r,m,h=>by
  unfold uD;rw[Zjd λw hw=>h w (Yp _ hw)];split
  .have:x≠n:=by rintro rfl;exact h v Yw
   simp[this]
  .rfl
theorem Zjr{lR:aj->Option NameKind}{x:aj}:∀{binds:List (aj×Yd)} {m:aj->Option Yd},(∀v,(x,v)∉binds)->uE lR binds m x=m x
 |[],_,_=>rfl|(n,v)::r,m,h=>by
  unfold uE;rw[Zjr λw hw=>h w (Yp _ hw)];split
  .rfl
  .have:x≠n:=by rintro rfl;exact h v Yw
   simp[this]
theorem Zi1{lR:aj->Option NameKind}{x:aj}{v:Yd}:∀{P:List aj} {vs:List Yd} {i:Nat} {m:aj->Option Yd},P.Nodup->P[i]?=Ya x->vs[i]?=Ya v->lR x=Ya .local ->
  uD lR (P.zip vs) m x=Ya v
 |[],_,_,_,_,h,_,_=>by simp at h|_::_,[],_,_,_,_,h,_=>by simp at h|p::P,w::vs,0,m,nd,h1,h2,hk=>by simp at h1 h2;subst h1;subst h2;show uD lR ((p,w)::P.zip vs) m p=_;unfold uD;rw[Zjd λv hv=>(qe.mp nd).1 (PL hv).1,if_pos hk];simp|p::P,w::vs,i+1,m,nd,h1,h2,hk=>by show uD lR ((p,w)::P.zip vs) m x=_;unfold uD;exact Zi1 (i:=i) (qe.mp nd).2 (by simpa using h1) (by simpa using h2) hk
theorem Zjq{lR:aj->Option NameKind}{x:aj}{v:Yd}:∀{P:List aj} {vs:List Yd} {i:Nat} {m:aj->Option Yd},P.Nodup->P[i]?=Ya x->vs[i]?=Ya v->lR x≠Ya .local ->
  uE lR (P.zip vs) m x=Ya v
 |[],_,_,_,_,h,_,_=>by simp at h|_::_,[],_,_,_,_,h,_=>by simp at h|p::P,w::vs,0,m,nd,h1,h2,hk=>by simp at h1 h2;subst h1;subst h2;show uE lR ((p,w)::P.zip vs) m p=_;unfold uE;rw[Zjr λv hv=>(qe.mp nd).1 (PL hv).1,if_neg hk];simp|p::P,w::vs,i+1,m,nd,h1,h2,hk=>by show uE lR ((p,w)::P.zip vs) m x=_;unfold uE;exact Zjq (i:=i) (qe.mp nd).2 (by simpa using h1) (by simpa using h2) hk
noncomputable def start(N:List aj)(vs:List V):St:=vs.map Ya++Ye (N.length-vs.length) Yh
noncomputable def lU(CX:pK)(P:Y5)(w:aK)(K:Yb)(mg:aj->Option Yd)(base:au)(N:List aj)(qual:aj)(scope:Scope)(f:Ym)(cd:Yd)(A:bj)(outer:List cQ)(s:Yg)(H:Hp)(E:XK):Cx where
 prog:=P
 w:=w
 K:=K
 mg:=mg
 base:=base
 A:=A.deeper (jN qual scope s.heap.objs.size f cd)
 N:=N
 s₀:=s
 H₀:=H
 env:=jN qual scope s.heap.objs.size f cd
 outer:=outer
 stack:=jN qual scope s.heap.objs.size f cd::outer
 ex:=[]
 calm:=true
 fn:=λ_=>true
 pn:=[]
 xe:=λe s'=>Yz (Y4 P w) (A.deeper (jN qual scope s.heap.objs.size f cd)) (Jg (jN qual scope s.heap.objs.size f cd) e) (λ_ s''=>CX outer H s E e s'') (λe' s''=>CX outer H s E e' s'') s'
theorem ZkD{sc:Scope}{n:Nat}{x:aj}(h:sc.names.lookup x=Ya .cell):∃c,(Pq n sc.names []).lookup x=Ya c:=by have q:=Xj sc.names n [] (.inl h);exact Iu.mp q
theorem Zn4{N:List aj}{qual:aj}{scope:Scope}{f:Ym}{cd:Yd}{s1:Yg}{E:XK}(S:cX N ps scope)(hd:A.handled=Yh)(e0:qC P w K mg base A outer s H)(hl:vs.length=ps.length)(r:Vals vs us)(x:InCallC s s.heap.objs.size (uD (jN qual scope s.heap.objs.size f cd).kindOf (ps.zip us) λ_=>Yh) (Pq (s.heap.objs.size+1) scope.names []) (uE (jN qual scope s.heap.objs.size f cd).kindOf (ps.zip us) λ_=>Yh) s1):
  Inv (lU CX P w K mg base N qual scope f cd A outer s H E) [] (start N vs) H s1:=by
 have hpl:ps.length<=N.length:=by have:=congrArg Eo S.pre;rw[Ei]at this;omega
 obtain⟨h1,tk,rfl,hk⟩:=x.done;have Fw:∀b:Ym,b∉(lU CX P w K mg base N qual scope f cd A outer s H E).ex:=λb z=>absurd (show b∈([]:List Ym)from z) (by simp);refine⟨⟨e0.mod,S.kind,rfl,rfl,Yl _,λy z c h1 h2=>?_,λy hy=>?_,λy c _ h=>?_,λ_=>hd,Around.frames_deeper e0.frames,.inr ⟨rfl,rfl⟩,λb z=>absurd z (Fw b),e0.bs,e0.mQ,λb _ _=>Fw b,λb z=>absurd z (Fw b),e0.jJ,e0.pI⟩,
  rfl,e0.bare,Un.kept hk,⟨_,x.toInCall.ns,λi y v h1 h2 h3=>?_⟩,λy c h=>⟨_,x.cell y c h⟩,e0.hok.fresh (Yl _),λy c h=>?_,λp hp=>absurd (show p∈([]:List (Ym×aD))from hp) (by simp),e0.hok.kept hk,?_⟩
 .exact name_of_addr x.apart (rH h1) (rH h2)
 .have hy:scope.names.lookup y=Ya .cell\/scope.names.lookup y=Ya .free:=hy;rcases hy with hy|hy
  .exact ZkD hy
  .exact absurd rfl (S.AcG _ (rH hy))
 .exact zT (x.above y c (rH h))
 .have hi:i<vs.length:=by
   unfold start at h2;by_cases hi:i<vs.length
   .exact hi
   .rw[wY (by simpa using hi)]at h2;rw[Ji]at h2;split at h2<;>cases h2
  have ha:vs[i]?=Ya v:=by
   unfold start at h2;rw[Yx (by simpa using hi),mL]at h2;cases e:vs[i]? with
   |none=>rw[e]at h2;cases h2|some a=>rw[e]at h2;cases h2;rfl
  obtain⟨u,hu,rv⟩:=r.get ha;have hp:ps[i]?=Ya y:=by rw[←S.pre,zH (by exact lC 2 2203874037777 T1 hi hl)];exact h1
  have ndP:ps.Nodup:=by rw[←S.pre];exact S.nd.sublist (PB _ _)
  refine⟨u,rv,?_⟩;rcases S.par y (rQ hp)with k|k
  .exact .inl ⟨k,Zi1 ndP hp hu k⟩
  .obtain⟨c,e⟩:=ZkD (n:=s.heap.objs.size+1) k;refine .inr ⟨.inl k,c,e,?_⟩;have q:=x.cell y c e;rw[Zjq ndP hp hu (by show scope.names.lookup y≠_;rw[k];decide)]at q;exact q
 .exact e0.hok.fresh (zT (x.above y c (rH h)))
 .unfold start;show _=N.length;rw[Yt,iz,lM];exact iK (lC 1 2206541614113 T1 (pC (lC 2 1236986302465 T1 hpl hl))) (lC 1 1288492400641 T1 (pG _ _))
theorem Zsj{k:Nat}{f:Ym}{name qual:aj}{params:Arguments}{body:List Yc6}{scope:Scope}{dV kV doc pm cdv ct oc:Yd}{an od:Option Ym}{osl:Array (Option Yd)}{N:List aj}{sp:Sp}(lk:K.lookup f=Ya ⟨oc,od,.func (jL name qual params body scope dV kV doc pm an cdv ct),osl⟩)(hcd:wG K cdv qual=true)(S:cX N ps scope)(len:∀vs H Q E,sp vs H Q E->vs.length=ps.length)(hbody:∀(A:bj) (outer:List cQ) (s:Yg) (H:Hp) (vs:List V) (Q:VK) (E:XK),b_ k (A.deeper (jN qual scope s.heap.objs.size f cdv))->sp vs H Q E ->
   ∃t,ji (lU CX P w K mg base N qual scope f cdv A outer s H E) body t/\t {nx:=λ_ H'=>Q .non H',rt:=Q} (start N vs) H):
  eQ P w K mg base CX (k+1) f (jL name qual params body scope dV kV doc pm an cdv ct) ps sp:=by
 refine⟨len,λA outer s H args us vs Q E hr e0 hb r hsp=>?_⟩;have hl:=len _ _ _ _ hsp;have KX:K.In s.heap:=e0.mod.pH.keeps λb o e=>(e0.bs b o e).1;have lim:s.heap.NoLimit:=e0.mod.nolimit.keeps λb o e=>(e0.bs b o e).1;have hkind:∀y∈ps.zip us,scope.names.lookup y.1=Ya .local\/(scope.names.lookup y.1=Ya .cell/\((Pq (s.heap.objs.size+1) scope.names []).lookup y.1).isSome=true):=λ⟨n,v⟩ hy=>by
  rcases S.par n (PL hy).1 with q|q
  .exact .inl q
  .exact .inr ⟨q,Xj _ _ _ (.inl q)⟩
 refine codeAny_call_function hr.depth (KX _ _ lk) rfl S.co S.gen rfl (PySem.W.codeRec_of KX hcd) (hb _ _ _ _ ?_);refine wpAny_newFunctionEnv_cells S.kind hkind λenv he s1 x=>?_;subst he;refine⟨lim.keeps x.toInCall.keep,codeAny_func ?_⟩;obtain⟨t,ht,hq⟩:=hbody A outer s H vs Q E (hr.deeper _) hsp;have I:Inv (lU CX P w K mg base N qual scope f cdv A outer s H E) [] (start N vs) H s1:=Zn4 S hr.hd e0 hl r x;refine eE (ht [] s1 (start N vs) H _ I hq) (λfl s' hs=>?_) λe s' hs=>hs;have fin:∀{σ':St} {H':Hp} {v:V} {u:Yd},Inv (lU CX P w K mg base N qual scope f cdv A outer s H E) [] σ' H' s'->RelV v u->Q v H'->CE outer P w H s Q u s':=λ{σ' H' v u} J rv q=>⟨v,H',J.os,J.bare,J.base,J.hok,rv,q⟩;cases fl with
 |ret u=>obtain⟨v,σ',H',J,rv,q⟩:=hs;exact fin J rv q|next=>obtain⟨σ',H',J,q⟩:=hs;exact fin (v:=V.non) (u:=Value.none) J rfl q|brk=>obtain⟨_,_,_,q⟩:=hs;exact dw q|cont=>obtain⟨_,_,_,q⟩:=hs;exact dw q
end L2
namespace L2
open PySem PySem.Spec PyProof.Rows
section
variable {X:Cx} {x:aj} {p pos:aM} {e:Expr} {es:List Expr} {t:TA} {id T:String} {r:List V->Hp->VK->Prop}
def Rb(r:List V->Hp->VK->Prop)(t:TA):TE:=λσ H Q=>t σ H λvs H1=>r vs H1 Q
theorem Rc(hc:aZ X (.builtin id) r)(hg:Gl X x)(hm:X.mg x=Yh)(hv:i_ x=Ya (.builtin id))(ha:PA X (e::es) t)(hn:x≠ "__name__":=by decide)(hdb:(x==("__debug__":aj))=false:=by decide)(he:Yq (e::es) X.env=(false,aG e X.env)::Yq es X.env:=by rfl)(hpl:(dm pos (Yq es X.env)).any (·.1)=false:=by rfl):PE X (.Call (.Name x p) (e::es) [] pos) (Rb r t):=by intro pins s σ H Q I h;refine wL (xF I hg hm hv ?_ hn hdb);exact PyProof.Rows.callWith_builtin1 (aH (ha pos pins s σ H _ I h) λus s1 ⟨vs,H1,I1,r1,q1⟩=>hc pins s1 σ H1 vs us Q I1 r1 q1) he hpl
theorem Zop(hc:aZ X (.type T) r)(hg:Gl X x)(hm:X.mg x=Yh)(hv:i_ x=Ya (.type T))(ha:PA X (e::es) t)(hn:x≠ "__name__":=by decide)(hdb:(x==("__debug__":aj))=false:=by decide)(he:Yq (e::es) X.env=(false,aG e X.env)::Yq es X.env:=by rfl)(hpl:(dm pos (Yq es X.env)).any (·.1)=false:=by rfl):PE X (.Call (.Name x p) (e::es) [] pos) (Rb r t):=by intro pins s σ H Q I h;refine wL (xF I hg hm hv ?_ hn hdb);exact Ez (aH (ha pos pins s σ H _ I h) λus s1 ⟨vs,H1,I1,r1,q1⟩=>hc pins s1 σ H1 vs us Q I1 r1 q1) he hpl
end
end L2
namespace HT
open PySem PyProof.Rows
section
variable {prog:Y5} {w:aK} {A:bj} {E:Yd->Yg->Prop} {s:Yg}
theorem Acw{t b:Ym}{vs ws:List Yd}{Q:Yd->Yg->Prop}(ht:IsTup s.heap t vs.toArray)(hb:IsTup s.heap b ws.toArray)(hv:vs≠[])(h1:ws=[]->Q (.ref t) s)(h2:ws≠[]->Q (.ref s.heap.objs.size) {s with heap:=s.heap.push {cls:=.type "tuple",data:=.seq (vs++ws).toArray}})(hsz:vs.length+ws.length<=Y8):Yz (Y4 prog w) A (gO .Add (.ref t) (.ref b)) Q E s:=by
 obtain⟨⟨cls,dd,data,sl⟩,ho,hc,n,hd⟩:=id ht;obtain⟨⟨cls2,dd2,data2,sl2⟩,ho2,hc2,n2,hd2⟩:=id hb;simp only at hc hd hc2 hd2;subst hc hd hc2 hd2;have e:vs.toArray++ws.toArray=(vs++ws).toArray:=by simp
 by_cases hw:ws=[]
 .exact O8 ⟨_,ho,rfl⟩ ⟨_,ho2,rfl⟩ OD O6 Qo Qm (Ql _ _)
   (tuple_addW1 t b vs.toArray ws.toArray n n2 dd dd2 sl sl2 (by simpa using hv) (by simp[hw])) ⟨ho,ho2,h1 hw⟩
 .refine O8 ⟨_,ho,rfl⟩ ⟨_,ho2,rfl⟩ OD O6 Qo Qm (Ql _ _)
   (tuple_addW2 t b vs.toArray ws.toArray n n2 dd dd2 sl sl2 (by simpa using hv) (by simpa using hw) (by rw[Ys,Ys];exact hsz)) ⟨ho,ho2,?_⟩
  rw[e];exact h2 hw
noncomputable def aB(n d:Nat):Option Int->Nat
 |none=>d|some v=>if v<0 then(v+(n:Int)).toNat else iM v.toNat n
theorem Rf(n d:Nat):aB n d Yh=d:=rfl
theorem Rg(n d k:Nat):aB n d (Ya (k:Int))=iM k n:=by show(if(k:Int)<0 then((k:Int)+(n:Int)).toNat else iM (k:Int).toNat n)=iM k n;rw[if_neg (Qk.2 (Et _)),qm]
theorem J_(n d:Nat)(hd:d<=n)(o:Option Int):aB n d o<=n:=by
 cases o with
 |none=>exact hd|some v=>
  show(if v<0 then(v+(n:Int)).toNat else iM v.toNat n)<=n;by_cases hv:v<0
  .rw[if_pos hv];omega
  .rw[if_neg hv];exact P0 _ _
theorem ZmR(v:Int)(n d:Nat):(if v<0 then gQ (v+(n:Int)) 0 else iM v (n:Int))=((aB n d (Ya v):Nat):Int):=by
 show(if v<0 then gQ (v+(n:Int)) 0 else iM v (n:Int))=(((if v<0 then(v+(n:Int)).toNat else iM v.toNat n):Nat):Int);by_cases hv:v<0
 .simp only[if_pos hv];exact clA _
 .simp only[if_neg hv];exact clB _ _ hv
theorem ZlW(lo hi:Option Int)(n:Nat):Qt lo hi 1 (n:Int)=(((aB n 0 lo:Nat):Int),((aB n n hi:Nat):Int)):=by
 have h1:¬((1:Int)<0):=by decide
 unfold Qt;simp only[h1,if_false];refine Prod.ext ?_ ?_
 .cases lo with
  |none=>rfl|some v=>exact ZmR v n 0
 .cases hi with
  |none=>rfl|some v=>exact ZmR v n n
theorem Zmn(i j:Nat):JK (i:Int) (j:Int) 1=j-i:=by
 unfold JK;have h1:(1:Int)>0:=by decide
 simp only[h1,if_true,Int.ediv_one];split <;>omega
theorem Ziv{v:Yd}{o:Option Int}{Q:Option Int->Yg->Prop}(p:IsPart v o)(h:Q o s):Yz (Y4 prog w) A (Builtin.Slice.slicePartIndex v) Q E s:=by
 cases p with
 |none=>exact slicePart_none h|int i t=>exact slicePart_int h
theorem VN{sl:Ym}{vl vu:Yd}{lo hi:Option Int}{n:Nat}{Q:Int×Int×Nat->Yg->Prop}(hs:s.heap.IsSliceOf sl vl vu .none)(pl:IsPart vl lo)(pu:IsPart vu hi)(h:Q (((aB n 0 lo:Nat):Int),1,aB n n hi-aB n 0 lo) s):Yz (Y4 prog w) A (Yfr (.ref sl) (pure (n:Int))) Q E s:=by obtain⟨os,hos,hcs,hds⟩:=id hs;unfold Yfr Builtin.Slice.sliceFields;refine Yc (Yc (fO hos hds (x:=vl) rfl (Yc (fO hos hds (x:=vu) rfl (Yc (fO hos hds (x:=.none) rfl (Yk ?_)))))));refine Yc (slicePart_none ?_);show Yz _ _ (if((1:Int)==0)=true then _ else _) _ _ s;rw[if_neg (by decide)];refine Yc (Ziv pl (Yc (Ziv pu (Yc (Yk ?_)))));show Yz _ _ (match Qt lo hi 1 (n:Int)with|(lo,hi)=>pure (lo,(1:Int),JK lo hi 1)) _ _ s;rw[ZlW lo hi n];show Yz _ _ (pure (((aB n 0 lo:Nat):Int),(1:Int),JK ((aB n 0 lo:Nat):Int) ((aB n n hi:Nat):Int) 1)) _ _ s;rw[Zmn];exact Yk h
theorem ZpV(xs:Array Yd)(i k:Nat):((dX k).filterMap λ(m:Nat)=>xs[((i:Int)+(m:Int)*1).toNat]?).toArray=((xs.toList.drop i).take k).toArray:=by
 have e:(λ(m:Nat)=>xs[((i:Int)+(m:Int)*1).toNat]?)=λm=>xs[i+m]?:=by
  funext m;have:((i:Int)+(m:Int)*1).toNat=i+m:=by omega
  rw[this]
 rw[e];have:=pick_run xs i k;rw[List.filterMap_map]at this;have e2:((λx=>xs[x]?) ∘ λx=>i+x)=λm=>xs[i+m]?:=rfl;rw[e2]at this;rw[this]
theorem Aaj{t sl:Ym}{items:Array Yd}{vl vu:Yd}{lo hi:Option Int}{Q:Yd->Yg->Prop}(ht:IsTup s.heap t items)(hs:s.heap.IsSliceOf sl vl vu .none)(pl:IsPart vl lo)(pu:IsPart vu hi)(hw:¬(aB items.size 0 lo=0/\aB items.size items.size hi=items.size))(h:Q (.ref s.heap.objs.size) {s with heap:=s.heap.push {cls:=.type "tuple",data:=.seq ((items.toList.drop (aB items.size 0 lo)).take (aB items.size items.size hi-aB items.size 0 lo)).toArray}})(hsz:items.size<=Y8):Yz (Y4 prog w) A (wX (.ref t) (.ref sl)) Q E s:=by
 have Ij:sizeOk (.seq ((items.toList.drop (aB items.size 0 lo)).take (aB items.size items.size hi-aB items.size 0 lo)).toArray):=by show((items.toList.drop (aB items.size 0 lo)).take (aB items.size items.size hi-aB items.size 0 lo)).toArray.size<=Y8;rw[Ys,Ei,Ej,Qs];exact lD 3 85606880155602945 T1 hsz (Er _ _) (P0 _ _)
 have hj:aB items.size items.size hi<=items.size:=J_ _ _ (Yl _) hi;obtain⟨os,hos,hcs,hds⟩:=id hs;have hTs:s.TypeIs (.ref sl) "slice":=⟨os,hos,hcs⟩;unfold wX
 try with_reducible refine mK ?_
 first|refine Yc (Yk ?_)|skip
 refine Yc (X4 ht.typeIs (by decide) ?_);refine Yc (rG (name:=nY "__getitem__") ht.typeIs Ju
  (rJ Ju ht.typeIs Yin ?_ (Yi2 _ _)))
 show Yz _ _ (Yfs (.ref t)>>=_) _ _ s;refine Yc (tupleItemsOf_ ht ?_);refine Yc (Ea hTs ?_);rw[if_pos (by decide)];refine Yc (VN hs pl pu ?_);have hno:¬((((aB items.size 0 lo:Nat):Int)==0&&(1:Int)==1&&(aB items.size items.size hi-aB items.size 0 lo)==items.size)=true):=by intro q;rw[jb,jb]at q;have q1:((aB items.size 0 lo:Nat):Int)=0:=eq_of_beq q.1.1;have q2:aB items.size items.size hi-aB items.size 0 lo=items.size:=eq_of_beq q.2;exact hw ⟨by exact iK (iN [_] [] 1 3759016097 T1 q1) (eG _),by exact iK hj (lC 2 2268279672881 T1 q2 (Er _ _))⟩
 show Yz _ _ (if(((aB items.size 0 lo:Nat):Int)==0&&(1:Int)==1&&(aB items.size items.size hi-aB items.size 0 lo)==items.size)=true then _ else _) _ _ s;rw[if_neg hno,ZpV]
 first
  |exact Yc (m:=JL _) (ur (Yk ⟨_,rfl,Yk h⟩) Ij)
  |exact Yc (m:=JL _) (ur (Yc (Yk (Yk ⟨_,rfl,Yk h⟩))) Ij)
  |exact Yc (Yc (m:=JL _) (ur (Yk (Yk ⟨_,rfl,Yk h⟩)) Ij))
  |exact Yc (Yc (m:=JL _) (ur (Yk ⟨_,rfl,Yk h⟩) Ij))
end
end HT
namespace L2
open PySem PySem.Spec PyProof.Rows
noncomputable abbrev TO:=St->Hp->(Option Int->Hp->Prop)->Prop
def PO(X:Cx)(e:Option Expr)(t:TO):Prop:=
 ∀(pins:List (Ym×aD)) (s:Yg) (σ:St) (H:Hp) (Q:Option Int->Hp->Prop),Inv X pins σ H s->t σ H Q ->
  Yz (Y4 X.prog X.w) X.A (evalPart e X.env) (λu s'=>∃o H',Inv X pins σ H' s'/\IsPart u o/\Q o H') X.xe s
def Zr0:TO:=λ_ H Q=>Q Yh H
def ZvB(t:TE):TO:=λσ H Q=>t σ H λx H1=>∃i,x= .int i/\Q (Ya i) H1
section
variable {X:Cx} {e:Expr} {te:TE} {lo hi:Option Expr} {tl th:TO} {pos p2:aM}
theorem Zrn:PO X Yh Zr0:=by intro pins s σ H Q I h;rw[evalPart_none];exact Yk ⟨Yh,H,I,.none,h⟩
theorem ZrD(h:PE X e te):PO X (Ya e) (ZvB te):=by intro pins s σ H Q I hw;rw[evalPart_some];refine aH (h pins s σ H _ I hw) λu s1 ak=>?_;obtain⟨x,H1,I1,r1,q1⟩:=ak;obtain⟨i,rfl,q⟩:=q1;obtain⟨t,rfl⟩:=r1;exact⟨Ya i,H1,I1,.int i t,q⟩
def jj(X:Cx)(r:V->Option Int->Option Int->Hp->VK->Prop):Prop:=
 ∀(pins:List (Ym×aD)) (s:Yg) (σ:St) (H:Hp) (x:V) (v vl vu:Yd) (lo hi:Option Int) (sl:Ym) (Q:VK),Inv X pins σ H s->RelV x v->s.heap.IsSliceOf sl vl vu .none->IsPart vl lo->IsPart vu hi->r x lo hi H Q ->
  ∃T id,Jc (.type T) "__getitem__" =pure (Ya (.builtin id))/\s.TypeIs v T/\Yz (Y4 X.prog X.w) X.A (wX v (.ref sl)) (EP X pins σ Q) X.xe s
theorem jj.or{r r':V->Option Int->Option Int->Hp->VK->Prop}(h:jj X r)(h':jj X r'):jj X (λx lo hi H Q=>r x lo hi H Q\/r' x lo hi H Q):=by
 intro pins s σ H x v vl vu lo hi sl Q I rx hs pl pu q;rcases q with q|q
 .exact h pins s σ H x v vl vu lo hi sl Q I rx hs pl pu q
 .exact h' pins s σ H x v vl vu lo hi sl Q I rx hs pl pu q
def tSl(r:V->Option Int->Option Int->Hp->VK->Prop)(te:TE)(tl th:TO):TE:=λσ H Q=>te σ H λx H1=>tl σ H1 λl H2=>th σ H2 λu H3=>r x l u H3 Q
theorem ZpH{r:V->Option Int->Option Int->Hp->VK->Prop}(hr:jj X r)(he:PE X e te)(hl:PO X lo tl)(hu:PO X hi th):PE X (.Subscript e (.Slice lo hi Yh p2) pos) (tSl r te tl th):=by intro pins s σ H Q I h;refine Subscript_ (aH (he pins s σ H _ I h) λv s1 ak=>?_);obtain⟨x,H1,I1,r1,q1⟩:=ak;refine wpAny_Slice (aH (hl pins s1 σ H1 _ I1 q1) λvl s2 ⟨l,H2,I2,pl,q2⟩=>aH (hu pins s2 σ H2 _ I2 q2) λvu s3 ak=>?_);obtain⟨u,H3,I3,pu,q3⟩:=ak;rw[evalPart_none];refine Yk ?_;have I4:Inv X pins σ H3 {s3 with heap:=s3.heap.push {cls:=.type "slice",data:=.fields #[vl,vu,.none]}}:=I3.kept (t':=s3.toks) λb ob q=>Yi _ q;obtain⟨T,id,hT,ht,hg⟩:=hr pins {s3 with heap:=s3.heap.push {cls:=.type "slice",data:=.fields #[vl,vu,.none]}} σ H3 x v vl vu l u s3.heap.objs.size Q I4 r1 (Heap.IsSliceOf.new ..) pl pu q3;show Yz (Y4 X.prog X.w) X.A (subscriptTail e (.Slice lo hi Yh p2) v (.ref s3.heap.objs.size)) (EP X pins σ Q) X.xe {s3 with heap:=s3.heap.push {cls:=.type "slice",data:=.fields #[vl,vu,.none]}};exact tail_any (ops:=[.ref s3.heap.objs.size,v]) ht hT hg (by with_unfolding_all rfl)
noncomputable def uX(xs:List V)(lo hi:Option Int):List V:=(xs.drop (HT.aB xs.length 0 lo)).take (HT.aB xs.length xs.length hi-HT.aB xs.length 0 lo)
theorem Zhf(xs:List V)(lo hi:Option Int):(uX xs lo hi).length<=xs.length:=by unfold uX;rw[Ei,Ej];exact Yv (P0 _ _) (Er _ _)
noncomputable def ZxN(K:Yb):V->Option Int->Option Int->Hp->VK->Prop:=λx lo hi H Q=>∃a xs,x= .ref a/\cP K H a xs/\
 ¬(HT.aB xs.length 0 lo=0/\HT.aB xs.length xs.length hi=xs.length)/\∀p,H p=Yh->Q (.ref p) (upd H p (.tup (uX xs lo hi)))
theorem ZtF:jj X (ZxN X.K):=by
 intro pins s σ H x v vl vu lo hi sl Q I rx hs pl pu h;obtain⟨a,xs,rfl,hx,hw,q⟩:=h;cases rx;obtain⟨its,r,ht,hz⟩:=I.tuple hx;have hlen:its.toArray.size=xs.length:=by rw[Ys];exact r.length.symm
 refine⟨"tuple",_,PyProof.Rows.slot_tuple_getitem.lookup,ht.typeIs,?_⟩;refine HT.Aaj ht hs pl pu (by rw[hlen];exact hw) ?_ (by rw[hlen];exact hz);rw[hlen];refine⟨.ref s.heap.objs.size,_,I.laid (t':=s.toks) (o:=.tup (uX xs lo hi)) (λb ob q=>Yi _ q) (Yl _) ?_,rfl,q _ (I.hok.fresh (Yl _))⟩;exact⟨Yv (Zhf xs lo hi) hz,_,(r.drop (HT.aB xs.length 0 lo)).take (HT.aB xs.length xs.length hi-HT.aB xs.length 0 lo),qy.new _ _⟩
def ZvC(K:Yb):R2:=λx y H Q=>∃a b xs ys,x= .ref a/\y= .ref b/\cP K H a xs/\cP K H b ys/\xs≠[]/\xs.length+ys.length<=Y8/\
 (ys=[]->Q (.ref a) H)/\(ys≠[]->∀p,H p=Yh->Q (.ref p) (upd H p (.tup (xs++ys))))
theorem Vals.NQ{xs:List V}{us:List Yd}(r:Vals xs us):us=[]↔xs=[]:=by
 cases r with
 |nil=>simp|cons _ _=>simp
theorem Zrk:aX X (gO .Add) (ZvC X.K):=by intro pins s σ H x y v u Q I rx ry h;obtain⟨a,b,xs,ys,rfl,rfl,ha,hb,hx,hz,q1,q2⟩:=h;cases rx;cases ry;obtain⟨its,r1,p1,_⟩:=I.tuple ha;obtain⟨its2,r2,p2,_⟩:=I.tuple hb;refine HT.Acw p1 p2 (λz=>hx (r1.NQ.mp z)) (λz=>⟨.ref a,H,I,rfl,q1 (r2.NQ.mp z)⟩) (λz=>?_) (by rw[←r1.length,←r2.length];exact hz);refine⟨.ref s.heap.objs.size,_,I.laid (t':=s.toks) (o:=.tup (xs++ys)) (λb ob q=>Yi _ q) (Yl _) ?_,rfl,q2 (λw=>z (r2.NQ.mpr w)) _ (I.hok.fresh (Yl _))⟩;exact⟨by rw[Yt];exact hz,_,r1.append r2,qy.new _ _⟩
end
end L2
namespace L2
open PySem PySem.Spec PyProof.Rows
noncomputable def Fx(n:Nat)(i:Int):Option Nat:=if 0<=i then(if i<n then Ya i.toNat else Yh)else if -(n:Int)<=i then Ya (i+n).toNat else Yh
noncomputable def xJ{α:Type}(xs:List α)(i:Int):Option α:=(Fx xs.length i).bind λj=>xs[j]?
theorem ZmX{n:Nat}{i:Int}{j:Nat}(h:Fx n i=Ya j):Pr i n=Ya j/\j<n/\ -(n:Int)<=i/\i<n:=by
 unfold Fx at h;by_cases h0:0<=i
 .rw[if_pos h0]at h;by_cases h1:i<n
  .rw[if_pos h1]at h;have e:i.toNat=j:=gP h;exact⟨by rw[seqIndex_of h0 h1,e],by exact iN [_,_,_] [_] 3 0x211008a1280911031 T1 e h1 (sE h0),by exact iN [_] [_] 1 144182913 T1 h0,h1⟩
  .rw[if_neg h1]at h;cases h
 .rw[if_neg h0]at h;by_cases h1:-(n:Int)<=i
  .rw[if_pos h1]at h;have e:(i+n).toNat=j:=gP h;exact⟨by rw[seqIndex_neg (by exact Jt.1 h0) h1,e],by exact iN [_,_,_] [_] 3 0x211280c08a10ec11031 T1 e h0 (sE (iN [_] [_] 1 8851524979073 T1 h1)),h1,by exact iN [_] [_] 1 134811329 T1 h0⟩
  .rw[if_neg h1]at h;cases h
theorem Rh{α:Type}{xs:List α}{i:Int}{v:α}(h:xJ xs i=Ya v):∃j,Pr i xs.length=Ya j/\xs[j]?=Ya v/\j<xs.length/\ -(xs.length:Int)<=i/\i<xs.length:=by
 unfold xJ at h;cases e:Fx xs.length i with
 |none=>rw[e]at h;cases h|some j=>rw[e]at h;obtain⟨h1,h2,h3,h4⟩:=ZmX e;exact⟨j,h1,h,h2,h3,h4⟩
def Zm9(b:Expr):Prop:=∀o i,subscripted b false o i=operate [o,i] (wX o i)
def kE(X:Cx)(r:R2):Prop:=
 ∀(value slice:Expr) (pins:List (Ym×aD)) (s:Yg) (σ:St) (H:Hp) (x y:V) (v u:Yd) (Q:VK),Inv X pins σ H s->RelV x v->RelV y u->r x y H Q ->
  subscripted slice false v u=operate [v,u] (wX v u)->Yz (Y4 X.prog X.w) X.A (subscriptTail value slice v u) (EP X pins σ Q) X.xe s
def qD(X:Cx)(id:String)(r:V->List V->Hp->VK->Prop):Prop:=
 ∀(pins:List (Ym×aD)) (s:Yg) (σ:St) (H:Hp) (x:V) (xs:List V) (v:Yd) (us:List Yd) (Q:VK),Inv X pins σ H s->RelV x v->Vals xs us->r x xs H Q ->
  Yz (Y4 X.prog X.w) X.A (call (.builtin id) (v::us)) (EP X pins σ Q) X.xe s
section
variable {X:Cx} {a b:Expr} {ta tb:TE} {pos:aM}
theorem kE.or{r r':R2}(h:kE X r)(h':kE X r'):kE X (λx y H Q=>r x y H Q\/r' x y H Q):=by
 intro value slice pins s σ H x y v u Q I rx ry q hs;rcases q with q|q
 .exact h value slice pins s σ H x y v u Q I rx ry q hs
 .exact h' value slice pins s σ H x y v u Q I rx ry q hs
theorem ZvS{r:R2}(hr:kE X r)(ha:PE X a ta)(hb:PE X b tb)(hs:Zm9 b):PE X (.Subscript a b pos) (Ft r ta tb):=by intro pins s σ H Q I h;exact Subscript_ (Q4 ha hb I h λv u s2 x y H2 I2 rx ry q=>hr a b pins s2 σ H2 x y v u Q I2 rx ry q (hs _ _))
def Zwb(K:Yb):R2:=λx y H Q=>∃p xs i v,x= .ref p/\y= .int i/\cB K H p xs/\xJ xs i=Ya v/\Q v H
def Zvf(K:Yb):R2:=λx y H Q=>∃p xs i v,x= .ref p/\y= .int i/\cP K H p xs/\xJ xs i=Ya v/\Q v H
def Zvk:R2:=λx y H Q=>∃z i c,x= .str z/\y= .int i/\z.length<=Y8/\xJ z.cps.toList i=Ya c/\Q (.str ⟨#[c]⟩) H
theorem Zro:kE X (Zwb X.K):=by
 intro value slice pins s σ H x y v u Q I rx ry h hs;obtain⟨p,xs,i,z,rfl,rfl,hq,he,q⟩:=h;cases rx;obtain⟨t,rfl⟩:=ry;obtain⟨its,r,pl,hz⟩:=I.list hq;obtain⟨j,h1,h2,h3,h4,h5⟩:=Rh he;obtain⟨w,ew,mU⟩:=r.get h2;have hl:=r.length;have hn:=J6;have fin:EP X pins σ Q w s:=⟨z,H,I,mU,q⟩;by_cases h0:0<=i
 .have hj:i.toNat=j:=by
   rw[seqIndex_of h0 h5]at h1;exact gP h1
  exact item_listR pl.isList h0 (by omega) (by rw[hj];simpa using ew) fin hs
 .have hj:(i+(its.toArray.size:Int)).toNat=j:=by
   rw[seqIndex_neg (by exact Jt.1 h0) h4]at h1;rw[Ys,←hl];exact gP h1
  exact Z9 (x:=w) pl.isList.typeIs slot_list_getitem.lookup
   (wpAny_getItem_list_neg (Q:=λr s'=>r=w/\EP X pins σ Q r s') pl.isList (by exact Jt.1 h0) (by rw[Ys]<;>exact iN [_,_] [_] 2 6922527515414561 T1 hl h4) (by omega) (by rw[hj];simpa using ew) ⟨rfl,fin⟩) hs
theorem Zt0:kE X (Zvf X.K):=by
 intro value slice pins s σ H x y v u Q I rx ry h hs;obtain⟨p,xs,i,z,rfl,rfl,hq,he,q⟩:=h;cases rx;obtain⟨t,rfl⟩:=ry;obtain⟨its,r,pl,hz⟩:=I.tuple hq;obtain⟨j,h1,h2,h3,h4,h5⟩:=Rh he;obtain⟨w,ew,mU⟩:=r.get h2;have hl:=r.length;have hn:=J6;have fin:EP X pins σ Q w s:=⟨z,H,I,mU,q⟩;exact Z9 (x:=w) pl.typeIs slot_tuple_getitem.lookup
  (getItem_tuple (j:=j) (Q:=λr s'=>r=w/\EP X pins σ Q r s') pl (by omega) (by omega) (by rw[Ys,←hl];exact h1) (by simpa using ew) ⟨rfl,fin⟩) hs
theorem ZtU:kE X Zvk:=by
 intro value slice pins s σ H x y v u Q I rx ry h hs;obtain⟨z,i,c,rfl,rfl,hz,he,q⟩:=h;obtain⟨t,rfl⟩:=rx;obtain⟨t',rfl⟩:=ry;obtain⟨j,h1,h2,h3,h4,h5⟩:=Rh he;have hl:z.cps.toList.length=z.length:=by simp[qt]
 rw[hl]at h1 h4 h5;have hn:=J6;exact tail_any (Pj s z t) slot_str_getitem.lookup (getItem_str (c:=c) (by have e1:decide (i< -(2^63:Int))=false:=decide_eq_false (by omega);have e2:decide (i>=2^63)=false:=decide_eq_false (by omega);rw[e1,e2,Qe]) (by rw[h1];simpa using h2) ⟨.str ⟨#[c]⟩,H,I.tok _,⟨_,rfl⟩,q⟩) hs
def rIx(K:Yb):R2:=λx y H Q=>Zwb K x y H Q\/Zvf K x y H Q\/Zvk x y H Q
theorem Zuy:kE X (rIx X.K):=Zro.or (Zt0.or ZtU)
theorem Inv.lst{pins:List (Ym×aD)}{σ:St}{H:Hp}{s:Yg}{p:Ym}{xs:List V}(I:Inv X pins σ H s)(h:H p=Ya (.lst xs)):
  ∃(its:List Yd) (n:Nat),Vals xs its/\s.heap.get? p=Ya {cls:=.type "list",data:=.seq its.toArray n}/\xs.length<=Y8:=by
 obtain⟨z,its,n,r,e⟩:=I.hok p _ h;exact⟨its,n,r,e,z⟩
theorem ZjU(lo hi:Option Int)(n:Nat):(wV lo hi Yh n).1=((HT.aB n 0 lo:Nat):Int)/\(wV lo hi Yh n).2.1=((HT.aB n n hi:Nat):Int)/\(wV lo hi Yh n).2.2=1:=by
 refine⟨?_,?_,rfl⟩
 .cases lo with
  |none=>simp[wV,HT.aB]|some i=>
   simp only[wV,HT.aB,Xg,show(1:Int)>0 by decide,if_true];by_cases h:i<0
   .simp only[h,if_true]<;>exact QH _ _ h
   .simp only[h,if_false]<;>exact QJ _ _ h
 .cases hi with
  |none=>simp[wV,HT.aB]|some i=>
   simp only[wV,HT.aB,Xg,show(1:Int)>0 by decide,if_true];by_cases h:i<0
   .simp only[h,if_true]<;>exact QH _ _ h
   .simp only[h,if_false]<;>exact QJ _ _ h
theorem ZiH(its:List Yd)(lo hi:Option Int):slicePick its.toArray lo hi Yh=((its.drop (HT.aB its.length 0 lo)).take (HT.aB its.length its.length hi-HT.aB its.length 0 lo)).toArray:=by obtain⟨h1,h2,h3⟩:=ZjU lo hi its.toArray.size;unfold slicePick;rw[h1,h2,h3];simp only[sliceRange_one,pick_run,Ys]<;>rfl
noncomputable def Zxx(K:Yb):V->Option Int->Option Int->Hp->VK->Prop:=λx lo hi H Q=>∃a xs,x= .ref a/\cB K H a xs/\∀p,H p=Yh->Q (.ref p) (upd H p (.lst (uX xs lo hi)))
theorem Zq3:jj X (Zxx X.K):=by intro pins s σ H x v vl vu lo hi sl Q I rx hs pl pu h;obtain⟨a,xs,rfl,hx,q⟩:=h;cases rx;obtain⟨its,r,ht,hz⟩:=I.list hx;have hlen:=r.length;refine⟨"list",_,slot_list_getitem.lookup,ht.isList.typeIs,?_⟩;refine wpAny_getItem_list_slice ht.isList hs pl pu .none (by simp) ?_ (by rw[Ys]<;>exact lC 2 2268279672881 T1 hlen hz);rw[ZiH,←hlen];refine⟨.ref s.heap.objs.size,_,I.laid (t':=s.toks) (o:=.lst (uX xs lo hi)) (λb ob q=>Yi _ q) (Yl _) ?_,rfl,q _ (I.hok.fresh (Yl _))⟩;exact⟨Yv (Zhf xs lo hi) hz,_,0,(r.drop (HT.aB xs.length 0 lo)).take (HT.aB xs.length xs.length hi-HT.aB xs.length 0 lo),Y1 _ rfl⟩
theorem aZ.or{f:Yd}{r r':List V->Hp->VK->Prop}(h:aZ X f r)(h':aZ X f r'):aZ X f (λxs H Q=>r xs H Q\/r' xs H Q):=by
 intro pins s σ H xs us Q I rs q;rcases q with q|q
 .exact h pins s σ H xs us Q I rs q
 .exact h' pins s σ H xs us Q I rs q
theorem ZiS:aZ X (.type "tuple") (λxs H Q=>∃p ys,xs=[.ref p]/\((cB X.K H p ys/\∀l,H l=Yh->Q (.ref l) (upd H l (.tup ys)))\/(cP X.K H p ys/\Q (.ref p) H))):=by
 intro pins s σ H xs us Q I r h;obtain⟨p,ys,rfl,h⟩:=h;obtain⟨u,rfl,rx⟩:=vals1 r;cases rx;rcases h with⟨hq,q⟩|⟨hq,q⟩
 .obtain⟨its,r',pl,hz⟩:=I.list hq;have hlen:=r'.length;refine call_tuple_list pl.isList (λh' kp=>?_) (by simp only[Ys]<;>exact lC 2 2268279672881 T1 hlen hz);have I1:Inv X pins σ H {s with heap:=h'}:=I.kept (t':=s.toks) kp;have I2:Inv X pins σ (upd H h'.objs.size (.tup ys)) {s with heap:=h'.push {cls:=.type "tuple",data:=.seq its.toArray}}:=
   I1.laid (t':=s.toks) (λb o e=>Yi _ e) (Yl _) (show eN X.prog X.w _ _ _ (.tup ys)from⟨hz,its,r',qy.new _ _⟩)
  exact⟨.ref h'.objs.size,_,I2,rfl,q _ (I1.hok.fresh (Yl _))⟩
 .obtain⟨its,r',pl,hz⟩:=I.tuple hq;exact call_tuple_same pl ⟨.ref p,H,I,rfl,q⟩
def Ae(K:Yb)(T:String)(x:V)(H:Hp):Prop:=match x with
 | .str _=>T= "str"|.int _=>T= "int"|.ref p=>(T= "list" /\∃xs,cB K H p xs)\/(T= "tuple" /\∃o,K.lookup p=Ya o/\o.cls= .type "tuple" /\o.dict=Yh)\/
   (T= "dict" /\((∃kvs,H p=Ya (.dK kvs))\/∃kvs,H p=Ya (.dT kvs)))\/(T= "set" /\∃S n,H p=Ya (.set S n))
 |_=>False
theorem Zpa{pins:List (Ym×aD)}{σ:St}{H:Hp}{s:Yg}{T:String}{x:V}{v:Yd}(I:Inv X pins σ H s)(r:RelV x v)(ty:Ae X.K T x H):
  s.TypeIs v T/\∀a,v= .ref a->∃ob,s.heap.get? a=Ya ob/\ob.dict=Yh:=by
 cases x with
 |str z=>obtain⟨t,rfl⟩:=r;cases(show T= "str" from ty);exact⟨Pj s z t,λ_ e=>nomatch e⟩|int i=>obtain⟨t,rfl⟩:=r;cases(show T= "int" from ty);exact⟨Ed s i t,λ_ e=>nomatch e⟩|ref p=>
  cases r
  rcases ty with⟨rfl,xs,hq⟩|⟨rfl,o,hk,hc,hd⟩|⟨rfl,hk⟩|⟨rfl,S,n,hk⟩
  .obtain⟨its,_,pl,_⟩:=I.list hq;refine⟨pl.isList.typeIs,λa e=>?_⟩;cases e;obtain⟨o,n,e,c,hd,_⟩:=pl;exact⟨o,e,hd⟩
  .refine⟨⟨o,I.cL p o hk,hc⟩,λa e=>?_⟩;cases e;exact⟨o,I.cL _ o hk,hd⟩
  .have z:∃o,s.heap.get? p=Ya o/\o.ExactDict:=by
    rcases hk with⟨kvs,hk⟩|⟨kvs,hk⟩
    .obtain⟨_,_,_,_,o,_,_,e,ex,_⟩:=I.hok p _ hk;exact⟨o,e,ex⟩
    .obtain⟨_,_,_,_,o,_,_,e,ex,_⟩:=I.hok p _ hk;exact⟨o,e,ex⟩
   obtain⟨o,e,ex⟩:=z;refine⟨⟨o,e,ex.1⟩,λa e2=>?_⟩;cases e2;exact⟨o,e,ex.2.1⟩
  .obtain⟨o,_,_,_,e,ex,_⟩:=I.hok p _ hk;refine⟨⟨o,e,ex.1⟩,λa e2=>?_⟩;cases e2;exact⟨o,e,ex.2.1⟩
 |_=>exact dw ty
def Zwj(K:Yb)(T:String)(r:V->List V->Hp->VK->Prop)(to:TE):TE:=λσ H Q=>to σ H λx H1=>Ae K T x H1/\r x [] H1 Q
def tBM(K:Yb)(T:String)(r:V->List V->Hp->VK->Prop)(to:TE)(t:TA):TE:=λσ H Q=>to σ H λx H1=>Ae K T x H1/\t σ H1 λxs H2=>r x xs H2 Q
variable {o e:Expr} {es:List Expr} {to:TE} {t:TA} {name:aj} {apos cpos:aM} {T id:String} {r:V->List V->Hp->VK->Prop}
theorem Ztu(pa:PlainAttrs T)(slot:Slot T name id)(hty:Eg (.builtin id)=pure (.type "method_descriptor"))(hm:qD X id r)(ho:PE X o to)(hbase:p7 o name X.env (aG o X.env)=aG o X.env:=by rfl)(hline:(apos.endLine==cpos.line)=true:=by rfl):PE X (.Call (.Attribute o name apos) [] [] cpos) (Zwj X.K T r to):=by intro pins s σ H Q I h;refine wpAny_Call_method0_late hbase hline (aH (ho pins s σ H _ I h) λv s1 ak=>?_);obtain⟨x,H1,I1,r1,ty,q1⟩:=ak;obtain⟨h1,h2⟩:=Zpa I1 r1 ty;exact⟨T,id,pa,slot,hty,h1,h2,JF rfl (PySem.evalArgs_none (hm pins s1 σ H1 x [] v [] Q I1 r1 .nil q1))⟩
theorem ZsN(pa:PlainAttrs T)(slot:Slot T name id)(hty:Eg (.builtin id)=pure (.type "method_descriptor"))(hm:qD X id r)(ho:PE X o to)(ha:PA X (e::es) t)(hbase:p7 o name X.env (aG o X.env)=aG o X.env:=by rfl)(hfew:((dm cpos (Yq (e::es) X.env)).all (λx=>!x.1)&&(pA cpos (pq [] X.env)).all (λx=>x.1.isSome)
   &&decide ((e::es).length+([]:List Keyword).length+(if([]:List Keyword).isEmpty then 0 else 1)<30))=true:=by rfl)(hline:(apos.endLine==cpos.line)=true:=by rfl)(hs:Yq (e::es) X.env=(false,aG e X.env)::Yq es X.env:=by rfl)(hplain:(dm cpos (Yq es X.env)).any (·.1)=false:=by rfl):
  PE X (.Call (.Attribute o name apos) (e::es) [] cpos) (tBM X.K T r to t):=by
 intro pins s σ H Q I h;refine wpAny_Call_method_late hbase hfew hline rfl (aH (ho pins s σ H _ I h) λv s1 ak=>?_);obtain⟨x,H1,I1,r1,ty,q1⟩:=ak;obtain⟨h1,h2⟩:=Zpa I1 r1 ty;refine⟨T,id,pa,slot,hty,h1,h2,?_⟩;have hA:=ha cpos pins s1 σ H1 _ I1 q1;rw[hs]at hA ⊢;refine JF (by show(false|| (dm cpos (Yq es X.env)).any (·.1))=false;rw[hplain]<;>rfl) (JG ?_);exact aH hA λus s2 ⟨vs,H2,I2,r2,q2⟩=>hm pins s2 σ H2 x vs v us Q I2 r1 r2 q2
/-xs.append(e),list.index on a module's tuple .. are qD facts of 06m -/
end
end L2
namespace L2
open PySem PySem.Spec PyProof.Rows
def Ri(X:Cx)(id:String)(r:V->List V->Hp->VK->Prop):Prop:=
 ∀(pins:List (Ym×aD)) (s:Yg) (σ:St) (H:Hp) (x:V) (xs:List V) (v:Yd) (us:List Yd) (Q:VK),Inv X pins σ H s->RelV x v->Vals xs us->r x xs H Q ->
  Yz (Y4 X.prog X.w) X.A (call (.builtin id) (v::us)) (EP X pins σ Q) X.xe s
theorem Vals.one:∀{x:V} {us:List Yd},Vals [x] us->∃u,us=[u]/\RelV x u
 |_,_,.cons r .nil=>⟨_,rfl,r⟩
theorem Vals.zero:∀{us:List Yd},Vals [] us->us=[]
 |_,.nil=>rfl
variable{xs:List V}{us:List Yd}
theorem Vals.dropLast(h:Vals xs us):Vals xs.dropLast us.dropLast:=by
 induction h with
 |nil=>exact .nil|cons r t ih=>
  cases t with
  |nil=>exact .nil|cons q t'=>exact .cons r ih
theorem Vals.eraseIdx:∀{xs:List V} {us:List Yd} (i:Nat),Vals xs us->Vals (xs.eraseIdx i) (us.eraseIdx i)
 |_,_,_,.nil=>.nil|_,_,0,.cons _ t=>t|_,_,i+1,.cons r t=>.cons r (Vals.eraseIdx i t)
theorem Vals.reverse(h:Vals xs us):Vals xs.reverse us.reverse:=by
 induction h with
 |nil=>exact .nil|cons r t ih=>rw[Y_,Y_];exact Vals.append ih (.cons r .nil)
theorem Vals.rep(h:Vals xs us):∀k:Nat,Vals (Ye k xs).flatten (Ye k us).flatten
 |0=>.nil|k+1=>by rw[ju,ju,qb,qb];exact Vals.append h (Vals.rep h k)
theorem ZlR{α:Type}(l:List α):l.eraseIdx (l.length-1)=l.dropLast:=by
 induction l with
 |nil=>rfl|cons a r ih=>
  cases r with
  |nil=>rfl|cons b r=>
   have e:(a::b::r).length-1=((b::r).length-1)+1:=by have h1:(a::b::r).length=r.length+2:=rfl;have h2:(b::r).length=r.length+1:=rfl;exact iK (lE 4 0xa4c30a4c0012a3c2121b1c221a1c031 T1 h2 h1 (pC (lB 1 687760064561 T1 h1)) (pG _ _)) (lE 4 0x3a4c00a4c21a3c20121b1c231a1c021 T1 h2 h1 (pG _ _) (pC (lB 1 2694955057 T1 h2)))
   rw[e,List.eraseIdx_cons_succ,ih]
   all_goals rfl
theorem ZiX{α:Type}:∀(l:List α) (i:Nat),(l.eraseIdx i).length<=l.length
 |[],_=>Yl _|_::_,0=>Nat.le_succ _|_::r,i+1=>ZZ (ZiX r i)
theorem foldl_rep(its:List Yd):∀(k:Nat) (acc:List Yd),
  xq (λx1 x2=>x1++x2) acc.toArray (Ye k its.toArray)=(acc++(Ye k its).flatten).toArray
 |0,acc=>by simp|k+1,acc=>by
  have e:acc.toArray++its.toArray=(acc++its).toArray:=by simp
  have e2:(acc++its)++(Ye k its).flatten=acc++(Ye (k+1) its).flatten:=by rw[ju,qb,kj]
  rw[←e2,←foldl_rep its k (acc++its),←e,ju,qi]
section
variable {X:Cx} {pins:List (Ym×aD)} {σ:St} {H:Hp} {s:Yg} {l b:Ym} {xs ys zs:List V}
theorem Inv.Oa{its its':List Yd}{n:Nat}{f:Array Yd->Array Yd}{t':Nat}(I:Inv X pins σ H s)(hH:H l=Ya (.lst xs))(e:s.heap.get? l=Ya {cls:=.type "list",data:=.seq its.toArray n})(hf:f its.toArray=its'.toArray)(hv:Vals ys its')(hz:ys.length<=Y8):
  Inv X pins σ (upd H l (.lst ys)) {s with heap:=s.heap.update l (Obj.mapSeq f),toks:=t'}:=by
 have q:=PySem.IsL.update e f;rw[hf]at q;refine I.write (x:=l) (e:=l) (by rw[hH];exact trivial) (.inl rfl) (λb' u hb hu=>(PQ s.heap (Obj.mapSeq f) (bW hb)).trans hu) ⟨_,q⟩ ?_;exact⟨hz,its',_,hv,q⟩
theorem Inv.Wy{its:List Yd}{t':Nat}(I:Inv X pins σ H s)(hv:Vals ys its)(hz:ys.length<=Y8):
  Inv X pins σ (upd H s.heap.objs.size (.lst ys)) {s with heap:=s.heap.push {cls:=.type "list",data:=.seq its.toArray},toks:=t'}:=
 I.laid (λ_ _ q=>Yi _ q) (Yl _) ⟨hz,its,0,hv,Y1 _ rfl⟩
theorem Inv.fresh(I:Inv X pins σ H s):H s.heap.objs.size=Yh:=I.hok.fresh (Yl _)
theorem Inv.zb(I:Inv X pins σ H s)(hH:H l=Ya (.lst xs)):xs.length<=Y8/\∃(its:List Yd) (n:Nat),Vals xs its/\xs.length=its.length/\s.heap.get? l=Ya {cls:=.type "list",data:=.seq its.toArray n}:=by obtain⟨z,its,n,r,e⟩:=I.hok l _ hH;exact⟨z,its,n,r,r.length,e⟩
theorem Zqd{n:Nat}(h:n<=Y8):Qu n=false:=by unfold Qu;exact decide_eq_false (by omega)
end
section
variable {X:Cx}
noncomputable def Zm8:V->List V->Hp->VK->Prop:=λx vs H Q=>∃l xs y,x= .ref l/\vs=[y]/\H l=Ya (.lst xs)/\xs.length<Y8/\Q .non (upd H l (.lst (xs++[y])))
theorem Rj:Ri X "list.append" Zm8:=by intro pins s σ H x vs v us Q I rx rv h;obtain⟨l,xs,y,rfl,rfl,hH,hz,q⟩:=h;cases rx;obtain⟨u,rfl,ru⟩:=rv.one;obtain⟨z,its,n,r,hl,e⟩:=I.zb hH;refine ut F.slot_list_append ⟨_,e,rfl⟩ F.entry_list_append (F.args_list_append_2 _ _) (PySem.list_append l its.toArray n u (by rw[Ys];exact lC 2 2268279672881 T1 hl z)) ⟨e,?_⟩;refine⟨.non,_,I.Oa (its':=its++[u]) hH e (by simp) (r.append (.cons ru .nil)) ?_,rfl,q⟩;rw[Yt,w5];exact lB 1 6991908881 T1 hz
noncomputable def Zwa:V->List V->Hp->VK->Prop:=λx vs H Q=>∃l xs y,x= .ref l/\vs=[]/\H l=Ya (.lst xs)/\xs[xs.length-1]?=Ya y/\Q y (upd H l (.lst xs.dropLast))
theorem ZtN:Ri X "list.pop" Zwa:=by
 intro pins s σ H x vs v us Q I rx rv h;obtain⟨l,xs,y,rfl,rfl,hH,hy,q⟩:=h;cases rx;have hus:=rv.zero;subst hus;obtain⟨z,its,n,r,hl,e⟩:=I.zb hH;obtain⟨u,hu,ru⟩:=r.get hy;have hy':its.toArray[its.toArray.size-1]?=Ya u:=by show its.toArray[its.length-1]?=Ya u;rw[←Qq,←hl];exact hu
 refine ut Ykr ⟨_,e,rfl⟩ Ykc (F.args_list_pop_1 _) (MeetsSeq.list_pop_last l its.toArray n u hy' (by rw[Ys];exact lC 2 2268279672881 T1 hl z)) ⟨e,?_⟩;refine⟨y,_,I.Oa (its':=its.dropLast) hH e ?_ r.dropLast ?_,ru,q⟩
 .show its.toArray.eraseIdxIfInBounds (its.toArray.size-1)=its.dropLast.toArray;rw[Ys,YK,ZlR]
 .rw[List.length_dropLast];exact Yv (Er _ _) z
noncomputable def ZpX:V->List V->Hp->VK->Prop:=λx vs H Q=>∃l xs i k y,x= .ref l/\vs=[.int i]/\H l=Ya (.lst xs)/\ -(2^63)<=i/\i<2^63/\Pr i xs.length=Ya k/\xs[k]?=Ya y/\Q y (upd H l (.lst (xs.eraseIdx k)))
theorem Zpc:Ri X "list.pop" ZpX:=by
 intro pins s σ H x vs v us Q I rx rv h;obtain⟨l,xs,i,k,y,rfl,rfl,hH,h1,h2,hk,hy,q⟩:=h;cases rx;obtain⟨u,rfl,ru⟩:=rv.one;obtain⟨t,rfl⟩:=ru;obtain⟨z,its,n,r,hl,e⟩:=I.zb hH;obtain⟨w,hw,mU⟩:=r.get hy;refine ut Ykr ⟨_,e,rfl⟩ Ykc (F.args_list_pop_2 _ _)
  (MeetsSeq.list_pop_at l its.toArray n i t k w (fitsIndex_both h1 h2) (by rw[Ys,←hl];exact hk) (by rw[←Qq];exact hw) (by rw[Ys];exact lC 2 2268279672881 T1 hl z)) ⟨e,?_⟩
 refine⟨y,_,I.Oa (its':=its.eraseIdx k) hH e ?_ (r.eraseIdx k) ?_,mU,q⟩
 .show its.toArray.eraseIdxIfInBounds k=(its.eraseIdx k).toArray;rw[YK]
 .have:=ZiX xs k;exact Yv this z
def ZxO:R2:=λx y H Q=>∃l b xs zs,x= .ref l/\y= .ref b/\H l=Ya (.lst xs)/\H b=Ya (.lst zs)/\xs.length+zs.length<=Y8/\∀p,H p=Yh->Q (.ref p) (upd H p (.lst (xs++zs)))
theorem ZtS:aX X (gO .Add) ZxO:=by
 intro pins s σ H x y v u Q I rx ry h;obtain⟨l,b,xs,zs,rfl,rfl,hH,hB,hz,q⟩:=h;cases rx;cases ry;obtain⟨z,its,n,r,hl,e⟩:=I.zb hH;obtain⟨z2,its2,n2,r2,hl2,e2⟩:=I.zb hB;refine PySem.P.add_list e e2 ?_ (by rw[Ys,Ys];exact lE 3 0x413c0402c0132311031 T1 hl2 hl hz);have ea:its.toArray++its2.toArray=(its++its2).toArray:=by simp
 rw[ea];exact⟨.ref _,_,I.Wy (t':=s.toks) (r.append r2) (by rw[Yt];exact hz),rfl,q _ I.fresh⟩
def Zxr:R2:=λx y H Q=>∃l k xs,x= .ref l/\y= .int k/\H l=Ya (.lst xs)/\ -(2^63)<=k/\k<2^63/\xs.length*k.toNat<=Y8/\
 ∀p,H p=Yh->Q (.ref p) (upd H p (.lst (Ye k.toNat xs).flatten))
theorem len_rep{α:Type}(xs:List α)(k:Nat):(Ye k xs).flatten.length=k*xs.length:=by
 induction k with
 |zero=>simp|succ k ih=>rw[ju,qb,Yt,ih,Nat.succ_mul,Ep]
theorem Ztq:aX X (gO .Mult) Zxr:=by
 intro pins s σ H x y v u Q I rx ry h;obtain⟨l,k,xs,rfl,rfl,hH,h1,h2,hz,q⟩:=h;cases rx;obtain⟨t,rfl⟩:=ry;obtain⟨z,its,n,r,hl,e⟩:=I.zb hH;have hlen:its.toArray.size*k.toNat<=Y8:=by rw[Ys,←hl];exact hz
 have Ac8:¬its.toArray.size*k.toNat>(2^63-1) / 8:=by
  have:(Y8:Nat)<=(2^63-1) / 8:=by decide
  omega
 have hfit:¬(!Builtin.List.listFitsIndex k)=true:=by rw[fitsIndex_both h1 h2];exact uK
 have AcO:¬Qu (its.toArray.size*k.toNat)=true:=by rw[Zqd hlen];exact uK
 have hnew:xq (λx1 x2=>x1++x2) #[] (Ye (if its.toArray.isEmpty=true then 0 else k.toNat) its.toArray)=(Ye k.toNat its).flatten.toArray:=by
  have f0:∀m:Nat,xq (λx1 x2=>x1++x2) #[] (Ye m its.toArray)=(Ye m its).flatten.toArray:=λm=>by have:=foldl_rep its m [];rw[qj]at this;exact this
  rw[f0];cases its with
  |nil=>simp|cons a r'=>rw[if_neg (by simp)]
 refine Xw (T:="list") (U:="int") (by decide) ⟨_,e,rfl⟩ (λs'=>Ed s' k t) noFill_list_mul F.fills_int_mul Yks repeat_list F.slot_int_index.lookup
  (ut Yks (Ed s k t) F.entry_int_rmul (F.args_int_rmul_2 _ _) (int___rmul___int_list k t l its.toArray n)
   ⟨e,rfl,⟨_,e,rfl⟩,ut F.slot_list_mul ⟨_,e,rfl⟩ F.entry_list_mul (F.args_list_mul_2 _ _) (AutoListH.list___mul___list_int_3 l its.toArray n k t hfit Ac8 AcO) ⟨e,?_⟩⟩)
 rw[hnew];exact⟨.ref _,_,I.Wy (t':=s.toks) (r.rep k.toNat) (by rw[len_rep,Nat.mul_comm];exact hz),rfl,q _ I.fresh⟩
end
end L2
namespace Att
open PySem PySem.W PySem.Calls PyProof.Rows
theorem Zhv{P:Params}{h:au}:∀(ns:List Int) (vs:List Yd),WellAll P h vs (ns.map WData.int)->IntsAre vs ns:=by
 intro ns
 induction ns with
 |nil=>intro vs w;rw[xj]at w;cases w;exact .nil|cons n ns ih=>
  intro vs w;rw[Y9]at w;cases w with
  |cons a b=>
   cases a
   exact .cons _ _ (ih _ b)
theorem Zoz{l:OpenLaw}{n:Nat}(hn:l.most=Ya n){P:Params}{h:au}{args:List WData}{vals:List Yd}(hpre:l.row.toRowW.claim.pre args=true)(hwl:WellAll P h vals args):
  ∃a vs ns,vals=[Value.ref a]/\args=[WData.list (ns.map WData.int)]/\h.get? a=Ya {cls:=.type "list",data:=.seq vs.toArray}/\IntsAre vs ns/\ns.length<=n:=by
 have hsh:WShape.hasAll [] args [.list .int]=true:=(pre_splitW hpre).1;have hc:l.pre.holds [] {args:=args}=true:=(pre_splitW hpre).2;obtain⟨d,r,rfl,h1,h2⟩:=hasAllW_cons hsh;obtain rfl:=hasAllW_nil h2;obtain⟨xs,rfl,h3⟩:=hasW_list h1;obtain⟨ns,rfl⟩:=items_int h3;have hlen:ns.length<=n:=by
  unfold OpenLaw.pre at hc;have h4:(WTm.not (.lt (.lit (.int (n:Int))) (.len (.arg 0)))).holds [] {args:=[.list (ns.map .int)]}=true:=by have h4:=(holds_andW hc).1;rw[hn]at h4;exact h4
  have h5:=condW_of h4 (w_not (w_lt w_lit (w_len_list (w_arg rfl))));rw[iz]at h5;refine pD λq=>?_;have q':(n:Int)<((ns.length:Nat):Int):=by exact Js.2 q
  first
   |(rw[decide_eq_true q']at h5;exact absurd h5 (by decide))
   |(simp at h5;omega)
 cases hwl with
 |cons w1 w2=>
  cases w2
  cases w1 with
  |list ho hall=>exact⟨_,_,ns,rfl,rfl,ho,Zhv ns _ hall,hlen⟩
theorem Zob(l:OpenLaw)(args:List WData):l.row.toRowW.claim.post args (.bool true) args=true:=
 postW_of (r:=l.row.toRowW) (X:=(true==true))
  (show WShape.has [] (.bool true) .bool=true by first|rfl|decide|simp[WShape.has,WShape.arms,WShape.armsAll])
  (show(WTm.eq .res (.lit (.bool true))).value [] {args:=args,res:=Ya (.bool true),after:=args}=Ya (.bool (true==true))from w_eq_bool (w_res rfl) w_lit) rfl
theorem Abn{l:OpenLaw}{n:Nat}{q:Y5}{loose:List aj}{XP:(aj->Option Yd)->au->Prop}{YP:aK->au->Prop}{d:DefRec}(hn:l.most=Ya n)(hdf:d.params.defaults=[])(call:∀(w:aK) (s₀ s₁:Yg) (mg mb:aj->Option Yd) (fa:Ym) (o:aD) (pm cd doc:Yd) (a:Ym) (vs:List Yd) (ns:List Int),
   Ground q loose [] XP w s₀ mg mb s₁.heap->YP w s₁.heap ->
   s₁.heap.get? fa=Ya o->o.data= .func (docDef d.name d.params d.body d.scope pm cd doc)->s₁.heap.CodeRec cd d.name->mg d.name=Ya (.ref fa) ->
   s₁.heap.get? a=Ya {cls:=.type "list",data:=.seq vs.toArray}->IntsAre vs ns->ns.length<=n->s₁.gens= #[] ->
   j9 (Y4 l.prog w) uw (.call (.ref fa) ⟨[.ref a],[]⟩) (λr s'=>r= .ok (.ret (.bool true))/\OldK s₁.heap s'.heap/\s'.os=s₁.os/\qp s'.gens) s₁):
  WalkO q loose XP YP l.row.toRowW d [] (λf vs=>Pk f vs):=by
 intro w s₀ s₁ mg mb G Y fa o pm cd doc dV kV ho hd hcd hD hmg hg args vals as hpre hlay hrd hwl hlo;obtain rfl:dV= .none:=Dflts.none hD hdf;obtain rfl:kV= .none:=Dflts.noKw hD;obtain⟨a,vs,ns,rfl,rfl,hobj,hints,hlen⟩:=Zoz hn hpre hwl;refine enter_call (wU (call w s₀ s₁ mg mb fa o pm cd doc a vs ns G Y ho (fd_plain hd) hcd hmg hobj hints hlen hg) λr s' hq=>?_);obtain⟨rfl,h2,h3,h4⟩:=hq;exact⟨.inl ⟨.bool true,.bool true,[],rfl,λ_=>rfl,.bool true,Zob l _,λ_=>⟨List.Pairwise.nil,λ_ hm=>(nomatch hm)⟩⟩,h2,h3,h4⟩
end Att
namespace L2
open PySem PySem.Spec PyProof.Rows
theorem ZiV:∀{vs:List Yd} {ns:List Int},IntsAre vs ns->Vals (ns.map V.int) vs
 |_,_,.nil=>.nil|_,_,.cons n t h=>.cons ⟨t,rfl⟩ (ZiV h)
def Only(H:Hp):Prop:=∀b,H b=Yh\/∃o xs,H b=Ya (.fB o (.lst xs))
theorem ZpS{P:Y5}{w:aK}{K:Yb}{mg mb:aj->Option Yd}{CX:pK}{k:Nat}{fa a:Ym}{fd:iJ}{x:aj}{sp:Sp}{s₁:Yg}{vs:List Yd}{ns:List Int}(KX:K.In s₁.heap)(hns:s₁.heap.Ns Yy mg)(hb:s₁.heap.Ns Pg mb)(hbb:∀x:aj,x≠ "__name__" ->mb x=i_ x)(hlim:s₁.heap.NoLimit)(hg:s₁.gens= #[])(ha:s₁.heap.get? a=Ya {cls:=.type "list",data:=.seq vs.toArray})(hi:IntsAre vs ns)(hl:ns.length<=Y8)(hr:b_ k uw)(F:∀base:au,K.In base->base.Ns Yy mg->eQ P w K mg base CX k fa fd [x] sp)(hbind:∀(s:Yg) (u:Yd),rP s fd ⟨[u],[]⟩ [(x,u)])(hsp:∀H:Hp,Only H->cB K H a (ns.map V.int)->sp [.ref a] H (λv _=>v= .bl true) λ_ _ _=>False)(Rk:∀H e s',CX [] H s₁ (λ_ _ _=>False) e s'->False):
  j9 (Y4 P w) uw (.call (.ref fa) ⟨[.ref a],[]⟩) (λr s'=>r= .ok (.ret (.bool true))/\OldK s₁.heap s'.heap/\s'.os=s₁.os/\qp s'.gens) s₁:=by
 have rv:=ZiV hi;have lenV:=hi.length;have core:∀H:Hp,Only H->cB K H a (ns.map V.int)->dz P w H s₁.heap->(∀b,H b≠Yh->b=a)->(H a≠Yh->K.lookup a=Yh) ->
   j9 (Y4 P w) uw (.call (.ref fa) ⟨[.ref a],[]⟩) (λr s'=>r= .ok (.ret (.bool true))/\OldK s₁.heap s'.heap/\s'.os=s₁.os/\qp s'.gens) s₁:=by
  intro H hO hS hok hA hK;have Wi:∀{b:Ym} {o:aD},s₁.heap.get? b=Ya o->H b=Yh->(sJ s₁.heap H).get? b=Ya o:=λe n=>Zpz e n;have Fw:∀{b:Ym} {o:aD} {es:Array DictEntry} {ep:Nat},s₁.heap.get? b=Ya o->o.data= .dict es ep->H b=Yh:=λ{b o es ep} e d=>by
   cases q:H b with
   |none=>rfl|some u=>have e':b=a:=hA b (by rw[q];simp);subst e';rw[ha]at e;cases e;have d':Data.seq vs.toArray _=Data.dict es ep:=d;cases d'
  have Ka:∀{b:Ym} {m:aj->Option Yd},s₁.heap.Ns b m->(sJ s₁.heap H).Ns b m:=λ{b m} ⟨o,es,ep,e,d,r⟩=>⟨o,es,ep,Wi e (Fw e d),d,r⟩;have hKb:K.In (sJ s₁.heap H):=λb o e=>Wi (KX b o e) (by
   cases q:H b with
   |none=>rfl|some u=>have e':b=a:=hA b (by rw[q];simp);subst e';rw[hK (by rw[q];simp)]at e;cases e)
  have hM:Mod K mg (sJ s₁.heap H):=⟨hKb,Ka hns,⟨mb,Ka hb,hbb⟩,let⟨mc,h1,h2⟩:=hlim;⟨mc,Ka h1,h2⟩⟩;have e0:qC P w K mg (sJ s₁.heap H) uw [] s₁ H:=⟨rfl,hM,λb o e=>Zsg e,su (Znz _ _),trivial,λb hb=>absurd (show b∈([]:List Ym)from hb) (by simp),hok,.of_eq hg⟩;refine wU ((F _ hKb (Ka hns)).run uw [] s₁ H ⟨[.ref a],[]⟩ [.ref a] [.ref a] _ _ hr e0 (hbind s₁ (.ref a)) (.cons rfl .nil) (hsp H hO hS)) λr s' h=>?_;cases r with
  |error e=>exact(Rk H e s' h).elim|ok fl=>
   cases fl with
   |next=>exact dw h|brk=>exact dw h|cont=>exact dw h|ret u=>
    obtain⟨v,H',os,bare,un,hok',r',q⟩:=h;have q':v= .bl true:=q;subst q';obtain rfl:u=Value.bool true:=r';refine⟨rfl,OldK.of_keep λb o e=>?_,os,bare⟩;cases q:H b with
    |none=>exact un.keep b o e q (by intro z;exact absurd (show b∈([]:List Ym)from z) (by simp)) (by simp)|some u=>
     rcases hO b with z|⟨ob,xs,z⟩
     .rw[q]at z;cases z
     .have z2:=un.j7 b ob _ z;obtain⟨e1,_⟩:=hok b _ z;obtain⟨e2,_⟩:=hok' b _ z2;rw[e]at e1;cases e1;exact e2
 cases hk:K.lookup a with
 |some o=>have e:=KX a o hk;rw[ha]at e;cases e;refine core (λ_=>Yh) (λ_=>.inl rfl) (.inr ⟨_,vs.toArray,_,hk,rfl,rfl,rfl,by rw[Ys,lenV];exact hl,by simpa using rv⟩) (λb u z=>by have z':(Yh:Option HO)=Ya u:=z;cases z') (λb z=>absurd rfl z) λz=>absurd rfl z|none=>
  refine core (λb=>if b=a then Ya (.fB {cls:=.type "list",data:=.seq vs.toArray} (.lst (ns.map V.int)))else Yh) (λb=>?_) (.inl (.inr ⟨{cls:=.type "list",data:=.seq vs.toArray},if_pos rfl⟩)) (λb u z=>?_) (λb z=>?_) λ_=>hk
  .by_cases hb:b=a
   .exact .inr ⟨_,_,if_pos hb⟩
   .exact .inl (if_neg hb)
  .by_cases hb:b=a
   .have z':=(if_pos hb).symm.trans z;cases z';subst hb;exact⟨ha,by rw[iz];exact hl,vs,_,rv,ha⟩
   .have z':=(if_neg hb).symm.trans z;cases z'
  .by_cases hb:b=a
   .exact hb
   .exact absurd (if_neg hb) z
end L2
namespace L2
open PySem PySem.Spec PyProof.Rows
theorem Znp{l:PySem.W.OpenLaw}{n k:Nat}{q:Y5}{loose:List aj}{XP:(aj->Option Yd)->au->Prop}{YP:aK->au->Prop}{d:DefRec}{K:Params->Yb}{CX:aK->pK}{sp:aK->Sp}{x:aj}(hn:l.most=Ya n)(hn2:n<=Y8)(hdf:d.params.defaults=[])(hr:b_ k uw)(hY:∀(w:aK) (h:au),YP w h->(K w.params).In h)(F:∀(w:aK) (mg:aj->Option Yd) (fa:Ym) (h:au),(K w.params).In h->h.Ns Yy mg->mg d.name=Ya (.ref fa) ->
   ∃fd:iJ,(∀(s:Yg) (u:Yd),rP s fd ⟨[u],[]⟩ [(x,u)])/\
    ∀base:au,(K w.params).In base->base.Ns Yy mg->eQ l.prog w (K w.params) mg base (CX w) k fa fd [x] (sp w))(hsp:∀(w:aK) (H:Hp) (a:Ym) (ns:List Int),ns.length<=n->Only H->cB (K w.params) H a (ns.map V.int)->sp w [.ref a] H (λv _=>v= .bl true) λ_ _ _=>False)(Rk:∀(w:aK) (H:Hp) (s:Yg) (e:Yd) (s':Yg),CX w [] H s (λ_ _ _=>False) e s'->False):
  Xr q loose XP YP l.row.toRowW d [] (λf vs=>Pk f vs):=by
 refine Att.Abn hn hdf λw s₀ s₁ mg mb fa o pm cd doc a vs ns G Y ho hd hcd hmg hobj hints hlen hg=>?_;have KX:=hY w _ Y;obtain⟨fd,hb,hF⟩:=F w mg fa _ KX G.T.g hmg;exact ZpS KX G.T.g G.T.b G.T.builtins G.T.nolimit hg hobj hints (Yv hlen hn2) hr hF hb (λH hO hS=>hsp w H a ns hlen hO hS) λH e s'=>Rk w H s₁ e s'
end L2
/-THE LAST THEOREM (shape;LID,My.*are AfD):
  My.Adr:a structure of the addresses that your layer names (classes,functions);My.Txt K t:a structure (Prop) of the equations over K;
  My.AcH:{K} {implicit addresses ..} (e1:nsIn K Yy "law" =Ya (Ya (.ref f))) (e2:K.lookup f=Ya ⟨oc,od,.func (fnOf "law" "law" params body scope dV kV doc pm an cdv ct),sl⟩) (e3:codeIn K cdv "law" =true) ..:∃t,My.Txt K t
set_option maxRecDepth 100000 in
set_option maxHeartbeats 0 in
theorem PySem.Challenge.cw_LID_holds : PySem.Challenge.rw_LID.Holds := by
 w_on;o_law;k_head;(case hw=>w_witness2)
 k_fill
 refine L2.Znp (l:=PySem.Challenge.rw_LID) (n:=63) (k:=40) (x:="script") (CX:=λw=>..) (sp:=λ_=>My.sp_law) rfl (by decide) rfl ⟨rfl,by decide,by decide⟩ (λw h Y=>PySem.W.kIn_of Y) ?F ?S ?C
 case F=>
  intro w mg fa h KX G hmg;have T:∃t,My.Txt (L2.KOf KX) t:=by
   dsimp only[L2.KOf]                          --K must stand as «<heap const>w.params» for k_is;refine' My.AcH ?e1 ?e2 ?e3 ..
   (case e1=>PySem.W.k_is)                    --in the order:a name->its address->its object->its parts
   (case e2=>PySem.W.k_is)
   ..
  obtain⟨t,T⟩:=T;have e0:=hmg.symm.trans (Ot KX G T.law);cases e0                                       --fa is the law's own address;exact⟨_,λs u=>.of_eq rfl,λbase kb nb=>My.AcI T kb nb⟩     --if «.of_eq rfl» comes too early:refine'⟨_,?b,λbase kb nb=>My.AcI T kb nb⟩;exactλs u=>.of_eq rfl
 case S=>exactλw H a ns hl hO hS=>..
 case C=>exact ..
(the tactic k_is has no namespace:write k_is) -/
namespace L2
open PySem PySem.Spec PyProof.Rows
noncomputable def cC(s:Yc6):Arguments:=match s with
 | .FunctionDef _ a _ _ _ _ _ _ _ _=>a|_=>{posonlyargs:=[],args:=[],vararg:=Yh,kwonlyargs:=[],kw_defaults:=[],kwarg:=Yh,defaults:=[]}
noncomputable def bJ(s:Yc6):List Yc6:=match s with
 | .FunctionDef _ _ b _ _ _ _ _ _ _=>b|_=>[]
noncomputable def Zj(s:Yc6):Scope:=match s with
 | .FunctionDef _ _ _ _ _ _ sc _ _ _=>sc|_=>{kind:=.function,names:=[],isGenerator:=false,isCoroutine:=false}
noncomputable abbrev jQ:pK:=λ_ _ _ _ _ _=>False
noncomputable abbrev E0:XK:=λ_ _ _=>False
theorem ZsF{X:Cx}:Fv jQ X E0:=λ_ _ _ _ _ _ _ h=>h.elim
structure n_(K:Yb)(x qual:aj)(st:Yc6)(f:Ym)(fd:iJ):Prop where
 ex:∃(oc:Yd) (od:Option Ym) (dV kV doc pm:Yd) (an:Option Ym) (cdv ct:Yd) (osl:Array (Option Yd)),
  fd=jL x qual (cC st) (bJ st) (Zj st) dV kV doc pm an cdv ct/\K.lookup f=Ya ⟨oc,od,.func fd,osl⟩/\wG K cdv qual=true
 kp:mH K (.ref f)=true
section
variable {P:Y5} {w:aK} {K:Yb} {mg:aj->Option Yd} {base:au}
theorem n_.ok{x qual:aj}{st:Yc6}{f:Ym}{fd:iJ}{N ps:List aj}{k:Nat}{sp:Sp}(F:n_ K x qual st f fd)(S:cX N ps (Zj st))(len:∀vs H Q E,sp vs H Q E->vs.length=ps.length)(hbody:∀(cdv:Yd) (A:bj) (outer:List cQ) (s:Yg) (H:Hp) (vs:List V) (Q:VK) (E:XK),b_ k (A.deeper (jN qual (Zj st) s.heap.objs.size f cdv))->sp vs H Q E ->
   ∃t,ji (lU jQ P w K mg base N qual (Zj st) f cdv A outer s H E).eO (bJ st) t/\t {nx:=λ_ H'=>Q .non H',rt:=Q} (start N vs) H):eQ P w K mg base jQ (k+1) f fd ps sp:=by
 obtain⟨oc,od,dV,kV,doc,pm,an,cdv,ct,osl,rfl,lk,hcd⟩:=F.ex;refine Zsj lk hcd S len λA outer s H vs Q E hr hsp=>?_;obtain⟨t,h,q⟩:=hbody cdv A outer s H vs Q E hr hsp;exact⟨t,h.eO,q⟩
theorem n_.binds{x qual:aj}{st:Yc6}{f:Ym}{fd:iJ}{ps:List aj}(F:n_ K x qual st f fd)(h:∀(dV kV doc pm:Yd) (an:Option Ym) (cdv ct:Yd) (us:List Yd),us.length=ps.length->bindArgs (jL x qual (cC st) (bJ st) (Zj st) dV kV doc pm an cdv ct) ⟨us,[]⟩=pure (ps.zip us)):Binds K fd ps []:=by obtain⟨oc,od,dV,kV,doc,pm,an,cdv,ct,osl,rfl,lk,hcd⟩:=F.ex;exact .all (h dV kV doc pm an cdv ct)
theorem Rm{x qual:aj}{st:Yc6}{f:Ym}{oc:Yd}{od an:Option Ym}{osl:Array (Option Yd)}{dV kV doc pm cdv ct:Yd}(l:K.lookup f=Ya ⟨oc,od,.func (jL x qual (cC st) (bJ st) (Zj st) dV kV doc pm an cdv ct),osl⟩)(c:wG K cdv qual=true)(k:mH K (.ref f)=true):n_ K x qual st f (jL x qual (cC st) (bJ st) (Zj st) dV kV doc pm an cdv ct):=⟨⟨oc,od,dV,kV,doc,pm,an,cdv,ct,osl,rfl,l,c⟩,k⟩
end
def qF(H H':Hp):Prop:=∀b o,H b=Ya o->H' b=Ya o
theorem qF.refl(H:Hp):qF H H:=λ_ _ h=>h
theorem qF.trans{H H1 H2:Hp}(a:qF H H1)(b:qF H1 H2):qF H H2:=λc o h=>b c o (a c o h)
theorem qF.free{H H':Hp}(e:qF H H'){l:Ym}(h:H' l=Option.none):H l=Option.none:=by
 cases q:H l with
 |none=>rfl|some o=>rw[e l o q]at h;cases h
theorem qF.seq{K:Yb}{H H':Hp}{a:Ym}{xs:List V}(e:qF H H')(h:cB K H a xs):cB K H' a xs:=by
 rcases h with(h|⟨o,h⟩)|h
 .exact .inl (.inl (e _ _ h))
 .exact .inl (.inr ⟨o,e _ _ h⟩)
 .exact .inr h
end L2
namespace L2
open PySem PySem.Spec PyProof.Rows
variable{u:Yd}
section
variable {κ:Type} [DecidableEq κ]
noncomputable def jx(kvs:List (κ×V))(k:κ):Option V:=(kvs.find? λkv=>decide (kv.1=k)).map (·.2)
noncomputable def putK(kvs:List (κ×V))(k:κ)(v:V):List (κ×V):=if(kvs.any λkv=>decide (kv.1=k))=true then kvs.map (λkv=>if kv.1=k then(kv.1,v)else kv)else kvs++[(k,v)]
theorem Zpy{k:κ}:jx ([]:List (κ×V)) k=Yh:=rfl
theorem Kc{p:κ×V}{r:List (κ×V)}{k:κ}(e:p.1=k):jx (p::r) k=Ya p.2:=by simp[jx,zM,e]
theorem Kd{p:κ×V}{r:List (κ×V)}{k:κ}(e:¬p.1=k):jx (p::r) k=jx r k:=by simp[jx,zM,e]
theorem ZkL(k:κ):∀kvs:List (κ×V),(kvs.any λkv=>decide (kv.1=k))=(jx kvs k).isSome
 |[]=>rfl|p::r=>by
  rw[xg];by_cases e:p.1=k
  .simp only[Kc e,decide_eq_true e,Bool.true_or,Xf]
  .rw[Kd e,decide_eq_false e,Qf];exact ZkL k r
theorem Rn(kvs:List (κ×V))(k:κ)(v:V):(putK kvs k v).length<=kvs.length+1:=by
 unfold putK;split
 .rw[iz];exact rY _ _
 .rw[Yt,Yo,nW];exact lA 0 43162452160 T1
theorem jP.Ab0{o:Option V}{u:Option Yd}(r:jP o u):o.isSome=u.isSome:=by
 cases o with
 |none=>cases u with
  |none=>rfl|some _=>exact(show False from r).elim
 |some _=>cases u with
  |none=>exact(show False from r).elim|some _=>rfl
theorem jP.getD{o:Option V}{u:Option Yd}{d:V}{d':Yd}(r:jP o u)(rd:RelV d d'):RelV (o.getD d) (u.getD d'):=by
 cases o with
 |none=>cases u with
  |none=>exact rd|some _=>exact(show False from r).elim
 |some _=>cases u with
  |none=>exact(show False from r).elim|some _=>exact r
theorem KV.val{kvs:List (κ×V)}{vs:List (κ×Yd)}(r:KV kvs vs)(k:κ):jP (jx kvs k) (zy vs k):=by
 unfold KV at r
 induction r with
 |nil=>exact True.intro|@cons p q ps qs h t ih=>
  obtain⟨h1,h2⟩:=h;by_cases e:p.1=k
  .have e':q.1=k:=h1.symm.trans e;have b:zy (q::qs) k=Ya q.2:=by simp[zy,zM,e']
   rw[Kc e,b];exact h2
  .have e':¬q.1=k:=λz=>e (h1.trans z);have b:zy (q::qs) k=zy qs k:=by simp[zy,zM,e']
   rw[Kd e,b];exact ih
theorem KV.any{kvs:List (κ×V)}{vs:List (κ×Yd)}(r:KV kvs vs)(k:κ):(kvs.any λkv=>decide (kv.1=k))=vs.any λkv=>decide (kv.1=k):=by
 unfold KV at r
 induction r with
 |nil=>rfl|cons h t ih=>rw[xg,xg,ih,h.1]
theorem KV.repl{kvs:List (κ×V)}{vs:List (κ×Yd)}(r:KV kvs vs)(k:κ){y:V}(ry:RelV y u):
  KV (kvs.map λkv=>if kv.1=k then(kv.1,y)else kv) (vs.map λkv=>if kv.1=k then(kv.1,u)else kv):=by
 unfold KV at r ⊢
 induction r with
 |nil=>exact .nil|@cons p q ps qs h t ih=>
  rw[Y9,Y9];refine .cons ?_ ih;obtain⟨h1,h2⟩:=h;by_cases e:p.1=k
  .rw[if_pos e,if_pos (h1.symm.trans e)];exact⟨h1,ry⟩
  .rw[if_neg e,if_neg (λz=>e (h1.trans z))];exact⟨h1,h2⟩
theorem KV.put{kvs:List (κ×V)}{vs:List (κ×Yd)}(r:KV kvs vs)(k:κ){y:V}(ry:RelV y u):KV (putK kvs k y) (zF vs k u):=by
 unfold putK zF;rw[r.any k];by_cases e:(vs.any λkv=>decide (kv.1=k))=true
 .rw[if_pos e,if_pos e];exact r.repl k ry
 .rw[if_neg e,if_neg e];exact Paired.snoc r ⟨rfl,ry⟩
theorem KV.keys{kvs:List (κ×V)}{vs:List (κ×Yd)}(r:KV kvs vs):kvs.map (·.1)=vs.map (·.1):=by
 unfold KV at r
 induction r with
 |nil=>rfl|cons h t ih=>rw[Y9,Y9,ih,h.1]
theorem KV.length{kvs:List (κ×V)}{vs:List (κ×Yd)}(r:KV kvs vs):kvs.length=vs.length:=QB r
end
theorem Ke{P:Y5}{w:aK}{k:Key}(r:RelV (kV k) u):(gR P w).is k u=true:=by
 cases k with
 |inl i=>obtain⟨t,e⟩:=(show∃t,u=Value.int i t from r);subst e;exact Zkt P w i t|inr x=>obtain⟨t,e⟩:=(show∃t,u=Value.str x t from r);subst e;exact ZkO P w x t
theorem Zi0{P:Y5}{w:aK}:∀{ks:List Key} {us:List Yd},Vals (ks.map kV) us->ItemsAre (gR P w) ks us
 |[],_,r=>by rw[xj]at r;cases r;exact .nil|k::ks,_,r=>by
  rw[Y9]at r;cases r with
  |cons h t=>exact .cons (Ke h) (Zi0 t)
noncomputable abbrev KT(H:Hp):List (List Key×V)->List (List Key×Ym×Yd)->Prop:=Paired λp q=>p.1=q.1/\H q.2.1=Ya (.tup (p.1.map kV))/\RelV p.2 q.2.2
variable{kvs:List (List Key×V)}{xs:List (List Key×Ym×Yd)}{H:Hp}
theorem KT.val(r:KT H kvs xs)(k:List Key):jP (jx kvs k) ((uF xs k).map (·.2)):=by
 induction r with
 |nil=>exact True.intro|@cons p q ps qs h t ih=>
  obtain⟨h1,_,h2⟩:=h;by_cases e:p.1=k
  .have e':q.1=k:=h1.symm.trans e;have b:uF (q::qs) k=Ya q.2:=by simp[uF,zM,e']
   rw[Kc e,b];exact h2
  .have e':¬q.1=k:=λz=>e (h1.trans z);have b:uF (q::qs) k=uF qs k:=by simp[uF,zM,e']
   rw[Kd e,b];exact ih
theorem KT.repl(r:KT H kvs xs)(k:List Key){y:V}(ry:RelV y u):
  KT H (kvs.map λkv=>if kv.1=k then(kv.1,y)else kv) (xs.map (putAt k u)):=by
 induction r with
 |nil=>exact .nil|@cons p q ps qs h t ih=>
  rw[Y9,Y9];refine .cons ?_ ih;obtain⟨h1,h2,h3⟩:=h;unfold putAt;by_cases e:p.1=k
  .rw[if_pos e,if_pos (h1.symm.trans e)];exact⟨h1,h2,ry⟩
  .rw[if_neg e,if_neg (λz=>e (h1.trans z))];exact⟨h1,h2,h3⟩
theorem KT.put(r:KT H kvs xs)(k:List Key){b:Ym}{y:V}(hb:H b=Ya (.tup (k.map kV)))(ry:RelV y u):
  KT H (putK kvs k y) (storedH xs k b u):=by
 have e:(kvs.any λkv=>decide (kv.1=k))=(uF xs k).isSome:=by rw[ZkL,(r.val k).Ab0,Option.isSome_map]
 unfold putK storedH;rw[e];by_cases q:(uF xs k).isSome=true
 .rw[if_pos q,if_pos q];exact r.repl k ry
 .rw[if_neg q,if_neg q];exact Paired.snoc r ⟨rfl,hb,ry⟩
theorem KT.keeps{H':Hp}(r:KT H kvs xs)(ht:∀b ys,H b=Ya (.tup ys)->H' b=Ya (.tup ys)):KT H' kvs xs:=Paired.N_ r λ_ _ z=>⟨z.1,ht _ _ z.2.1,z.2.2⟩
section
variable {P:Y5} {w:aK} {H:Hp} {h:au} {a:Ym}
theorem ZsL{u:HO}(ok:dz P w H h)(e:Rd H a u):eN P w H h a u:=e.ok ok
theorem Ro{kvs:List (Key×V)}(ok:dz P w H h)(e:Rd H a (.dK kvs)):kvs.length<=Y8/\(a==p8)=false/\∃vs,KV kvs vs/\h.DictOf (gR P w) a vs:=show eN P w H h a (.dK kvs)from ZsL ok e
theorem Zwd{kvs:List (Key×V)}(ok:dz P w H h)(e:H a=Ya (.dK kvs)):kvs.length<=Y8/\(a==p8)=false/\∃vs,KV kvs vs/\h.DictOf (gR P w) a vs:=Ro ok (.inl e)
theorem Rp{ks:List Key}(ok:dz P w H h)(e:H a=Ya (.tup (ks.map kV))):(zr (gR P w)).is h ks a:=by obtain⟨_,its,r,o,h1,h2,n,h3⟩:=(show eN P w H h a (.tup (ks.map kV))from ok a _ e);exact⟨o,its.toArray,n,h1,h2.1,h3,by simpa using Zi0 r⟩
theorem Rq(ok:dz P w H h)(e:Rd H a (.dT kvs)):kvs.length<=Y8/\(a==p8)=false/\
  ∃xs,KT H kvs xs/\h.DictOfH (zr (gR P w)) a xs:=by
 obtain⟨z,y,xs,r,o,es,ep,h1,h2,h3,h4,h5⟩:=(show eN P w H h a (.dT kvs)from ZsL ok e);refine⟨z,y,xs,r,o,es,ep,h1,h2,h3,h4,λx hx=>?_,h5⟩;have all:∀{l:List (List Key×V)} {m:List (List Key×Ym×Yd)},KT H l m->∀x∈m,(zr (gR P w)).is h x.1 x.2.1:=by
  intro l m q
  induction q with
  |nil=>intro x hx;exact nomatch hx|@cons p q ps qs hq t ih=>
   intro x hx;rcases Y6.mp hx with e|hx
   .subst e;exact Rp ok (by rw[←hq.1];exact hq.2.1)
   .exact ih x hx
 exact all r x hx
theorem Zvn(ok:dz P w H h)(e:H a=Ya (.dT kvs)):kvs.length<=Y8/\(a==p8)=false/\
  ∃xs,KT H kvs xs/\h.DictOfH (zr (gR P w)) a xs:=Rq ok (.inl e)
end
def Af(H:Hp)(a:Ym)(y:V)(r:Option V):Prop:=(∃kvs k,Rd H a (.dK kvs)/\y=kV k/\r=jx kvs k)\/∃kvs k b,Rd H a (.dT kvs)/\y= .ref b/\H b=Ya (.tup (k.map kV))/\r=jx kvs k
def xK(H:Hp)(a:Ym)(y v:V)(H':Hp):Prop:=
 (∃kvs k,H a=Ya (.dK kvs)/\y=kV k/\kvs.length<Y8/\H'=upd H a (.dK (putK kvs k v)))\/
 ∃kvs k b,H a=Ya (.dT kvs)/\y= .ref b/\H b=Ya (.tup (k.map kV))/\kvs.length<Y8/\H'=upd H a (.dT (putK kvs k v))
theorem Af.k{H:Hp}{a:Ym}{kvs:List (Key×V)}{k:Key}(e:H a=Ya (.dK kvs)):Af H a (kV k) (jx kvs k):=.inl ⟨kvs,k,.inl e,rfl,rfl⟩
theorem Af.t{a b:Ym}{k:List Key}(e:H a=Ya (.dT kvs))(eb:H b=Ya (.tup (k.map kV))):Af H a (.ref b) (jx kvs k):=.inr ⟨kvs,k,b,.inl e,rfl,eb,rfl⟩
theorem xK.k{H:Hp}{a:Ym}{kvs:List (Key×V)}{k:Key}{v:V}(e:H a=Ya (.dK kvs))(hl:kvs.length<Y8):xK H a (kV k) v (upd H a (.dK (putK kvs k v))):=.inl ⟨kvs,k,e,rfl,hl,rfl⟩
theorem xK.t{a b:Ym}{k:List Key}{v:V}(e:H a=Ya (.dT kvs))(eb:H b=Ya (.tup (k.map kV)))(hl:kvs.length<Y8):
  xK H a (.ref b) v (upd H a (.dT (putK kvs k v))):=.inr ⟨kvs,k,b,e,rfl,eb,hl,rfl⟩
section
variable {X:Cx} {pins:List (Ym×aD)} {σ:St} {H:Hp} {s:Yg} {a:Ym} {y v:V} {u r:Yd} {o:Option V} {A:bj} {E:Yd->Yg->Prop}
theorem Inv.big(I:Inv X pins σ H s):p8<s.heap.objs.size:=by have h:Yy<s.heap.objs.size:=(I.mod.glob.keeps I.bk).lt;exact lQ (by decide) h
theorem ZmO{h':au}{t':Nat}{ob:HO}(I:Inv X pins σ H s)(mu:Fl (H a))(hs:xr a s.heap h')(he:∃q,h'.get? a=Ya q)(new:eN X.prog X.w (upd H a ob) h' a ob):
  Inv X pins σ (upd H a ob) {s with heap:=h',toks:=t'}:=
 I.write (x:=a) (e:=a) mu (.inl rfl) (λb q hb z=>(hs.2 b hb).trans z) he new
theorem ZoV{P:Y5}{w:aK}{H':Hp}{h':au}{kvs:List (Key×V)}{vs:List (Key×Yd)}(z:kvs.length<=Y8)(hd:(a==p8)=false)(rel:KV kvs vs)(dd:h'.DictOf (gR P w) a vs):
  eN P w H' h' a (.dK kvs):=⟨z,hd,vs,rel,dd⟩
theorem ZnT{H':Hp}{Q:Unit->Yg->Prop}(hu:A.units+1<fP)(I:Inv X pins σ H s)(g:xK H a y v H')(ry:RelV y u)(rv:RelV v r)(h:∀s',Inv X pins σ H' s'->Q () s'):
  Yz (Y4 X.prog X.w) A (setItem (.ref a) u r) Q E s:=by
 rcases g with⟨kvs,k,e,ey,l,eH⟩|⟨kvs,k,b,e,ey,eb,l,eH⟩
 .subst ey eH;obtain⟨z,hd,vs,rel,dd⟩:=Zwd I.hok e;have hz:vs.length<=Y8:=by rw[←rel.length];exact z
  have hl:(putK kvs k v).length<=Y8:=by have:=Rn kvs k v;exact lC 2 563091983155201 T1 this l
  refine wpAny_setItem_pairs (hsz:=hz) (Ke ry) dd λh' uY hs=>h _ ?_;have he:∃q,h'.get? a=Ya q:=let⟨q,_,_,hq,_⟩:=uY;⟨q,hq⟩;exact ZmO I (by rw[e];exact True.intro) hs he (ZoV hl hd (rel.put k rv) uY)
 .subst ey eH;cases(show u=Value.ref b from ry);obtain⟨z,hd,xs,rel,dd⟩:=Zvn I.hok e;have hz:xs.length<=Y8:=by rw[←QB rel];exact z
  have hl:(putK kvs k v).length<=Y8:=by have:=Rn kvs k v;exact lC 2 563091983155201 T1 this l
  refine wpAny_setItem_heap (hsz:=hz) (XQ hu) (Rp I.hok eb) dd λh' uY hs=>h _ ?_;obtain⟨q,es,ep,hq,h2,h3,h4,_,h5⟩:=uY;refine ZmO I (by rw[e];exact True.intro) hs ⟨q,hq⟩ ⟨hl,hd,_,(rel.put k eb rv).keeps λc ys ec=>?_,q,es,ep,hq,h2,h3,h4,h5⟩;rw[cW (Zvl ec e (λz=>nomatch z))];exact ec
end
def Zvz(td ty tv:TE):TS:=λD σ H=>tv σ H λv H1=>td σ H1 λx H2=>ty σ H2 λy H3=>∃a H4,x= .ref a/\xK H3 a y v H4/\D.nx σ H4
section
variable {X:Cx} {o i e value:Expr} {pos pos' tpos:aM} {td ty tv:TE}
theorem Zq8(hu:X.A.units+1<fP)(ho:PE X o td)(hi:PE X i ty)(hv:PE X value tv)(hs:nO value (Ya (.Subscript o i pos')) pos.line X.env=pure false):
  PS X (.Assign [.Subscript o i pos'] value pos) (Zvz td ty tv):=by
 intro pins s σ H D I h;refine wpAny_Assign_Subscript (aH (hv pins s σ H _ I h) λr s1 ⟨v,H1,I1,rv,q1⟩=>aH (ho pins s1 σ H1 _ I1 q1) λu s2 ⟨x,H2,I2,rx,q2⟩=>aH (hi pins s2 σ H2 _ I2 q2) λiv s3 ak=>?_) hs;obtain⟨y,H3,I3,ry,a,H4,ex,g,q3⟩:=ak;subst ex;obtain rfl:u=Value.ref a:=rx;exact ZnT hu I3 g ry rv λs4 I4=>⟨σ,H4,I4,q3⟩
end
theorem Zph{P:Y5}{w:aK}(h:au)(hb:p8<h.objs.size):eN P w H (h.push {cls:=.type "dict",data:=.dict #[]}) h.objs.size (.dK []):=⟨eG _,beq_eq_false_iff_ne.mpr (bW (eF hb)),[],.nil,Yku h⟩
def Zuf:TE:=λ_ H Q=>∀p,H p=Yh->Q (.ref p) (upd H p (.dK []))
section
variable {X:Cx} {pos:aM}
theorem Zpb:PE X (.Dict [] [] pos) Zuf:=λpins s σ H Q I h=>wpAny_Dict_empty ⟨.ref s.heap.objs.size,_,I.laid (a:=s.heap.objs.size) (o:=.dK []) (t':=s.toks) (λ_ _ q=>Yi _ q) (Yl _) (Zph s.heap I.big),rfl,h _ (I.hok.fresh (Yl _))⟩
end
noncomputable def Ag(kvs more:List (Key×V)):List (Key×V):=more.foldl (λacc kv=>putK acc kv.1 kv.2) kvs
theorem KV.merge:∀{more:List (Key×V)} {rs:List (Key×Yd)} {kvs:List (Key×V)} {vs:List (Key×Yd)},KV more rs->KV kvs vs->KV (Ag kvs more) (merged vs rs):=by
 intro more rs kvs vs r;unfold KV at r
 induction r generalizing kvs vs with
 |nil=>intro q;exact q|@cons p q ps qs h t ih=>
  intro r0;have e:KV (putK kvs p.1 p.2) (zF vs q.1 q.2):=by have:=r0.put p.1 h.2;rw[←h.1];exact this
  exact ih e
theorem ZfQ:∀(more kvs:List (Key×V)),(Ag kvs more).length<=kvs.length+more.length
 |[],kvs=>by show kvs.length<=kvs.length+0;exact rY _ _|p::r,kvs=>by have h1:=ZfQ r (putK kvs p.1 p.2);have h2:=Rn kvs p.1 p.2;show(Ag (putK kvs p.1 p.2) r).length<=_;rw[Yo];exact lD 2 0xa3c1c2030c201a1c001 T1 h2 h1
structure M1(X:Cx)(o:Expr)(m:aj)(apos:aM)(e:Expr)(cpos:aM):Prop where
 base:p7 o m X.env (aG o X.env)=aG o X.env
 few:((dm cpos (Yq [e] X.env)).all (λx=>!x.1)&&(pA cpos (pq [] X.env)).all (λx=>x.1.isSome)
  &&decide (([e]:List Expr).length+([]:List Keyword).length+(if([]:List Keyword).isEmpty then 0 else 1)<30))=true
 line:(apos.endLine==cpos.line)=true
 trees:dm cpos (Yq [e] X.env)=[(false,aG e X.env)]
structure M2(X:Cx)(o:Expr)(m:aj)(apos:aM)(e f:Expr)(cpos:aM):Prop where
 base:p7 o m X.env (aG o X.env)=aG o X.env
 few:((dm cpos (Yq [e,f] X.env)).all (λx=>!x.1)&&(pA cpos (pq [] X.env)).all (λx=>x.1.isSome)
  &&decide (([e,f]:List Expr).length+([]:List Keyword).length+(if([]:List Keyword).isEmpty then 0 else 1)<30))=true
 line:(apos.endLine==cpos.line)=true
 trees:dm cpos (Yq [e,f] X.env)=[(false,aG e X.env),(false,aG f X.env)]
def Rr(H:Hp)(a:Ym):Prop:=(∃kvs,Rd H a (.dK kvs))\/∃kvs,Rd H a (.dT kvs)
theorem Zt1{X:Cx}{pins:List (Ym×aD)}{σ:St}{s:Yg}{a:Ym}(I:Inv X pins σ H s)(d:Rr H a):
  s.TypeIs (.ref a) "dict" /\(∀b,Value.ref a= .ref b->∃ob,s.heap.get? b=Ya ob/\ob.dict=Yh)/\(a==p8)=false:=by
 rcases d with⟨kvs,e⟩|⟨kvs,e⟩
 .obtain⟨_,hd,vs,_,dd⟩:=Ro I.hok e;refine⟨dd.typeIs,λb q=>?_,hd⟩;cases q;obtain⟨ob,_,_,h1,h2,_⟩:=dd;exact⟨ob,h1,h2.2.1⟩
 .obtain⟨_,hd,xs,_,dd⟩:=Rq I.hok e;refine⟨dd.typeIs,λb q=>?_,hd⟩;cases q;obtain⟨ob,_,_,h1,h2,_⟩:=dd;exact⟨ob,h1,h2.2.1⟩
section
variable {X:Cx} {pins:List (Ym×aD)} {σ:St} {H:Hp} {s:Yg} {a:Ym} {y d:V} {u r:Yd} {o:Option V} {A:bj} {E:Yd->Yg->Prop}
theorem Ztk{Q:Yd->Yg->Prop}(hu:A.units+1<fP)(I:Inv X pins σ H s)(g:Af H a y o)(ry:RelV y u)(rd:RelV d r)(h:∀w' s',Inv X pins σ H s'->RelV (o.getD d) w'->Q w' s'):
  Yz (Y4 X.prog X.w) A (call (.builtin "dict.get") [.ref a,u,r]) Q E s:=by
 rcases g with⟨kvs,k,e,ey,l⟩|⟨kvs,k,b,e,ey,eb,l⟩
 .subst ey;obtain⟨z,hd,vs,rel,dd⟩:=Ro I.hok e;refine Jb zY dd.typeIs Jx (Jw _ _ _) (meets_dict_get_default (gR X.prog X.w) a (Ke ry) hd r) ⟨_,dd.mapOf,h _ _ (I.tok _) ?_⟩;rw[l];exact(rel.val k).getD rd
 .subst ey;cases(show u=Value.ref b from ry);obtain⟨z,hd,xs,rel,dd⟩:=Rq I.hok e;refine Jb zY dd.typeIs Jx (Jw _ _ _) (meetsH_dict_get_default (zr (gR X.prog X.w)) a b hd r) ⟨XQ hu,k,xs,Rp I.hok eb,dd,h _ _ (I.tok _) ?_⟩;rw[l];exact(rel.val k).getD rd
end
def Zuo(td ty tx:TE):TE:=λσ H Q=>td σ H λx H1=>∃a,x= .ref a/\Rr H1 a/\ty σ H1 λy H2=>tx σ H2 λz H3=>∃o,Af H3 a y o/\Q (o.getD z) H3
section
variable {X:Cx} {o e f:Expr} {apos cpos:aM} {td ty tx:TE}
theorem Zpd(hu:X.A.units+1<fP)(ho:PE X o td)(he:PE X e ty)(hf:PE X f tx)(m:M2 X o "get" apos e f cpos):PE X (.Call (.Attribute o "get" apos) [e,f] [] cpos) (Zuo td ty tx):=by intro pins s σ H Q I h;refine X5 m.base m.few m.line Ygu zY Yhr (aH (ho pins s σ H _ I h) λu s1 ak=>?_);obtain⟨x,H1,I1,rx,a,ex,d,q1⟩:=ak;subst ex;obtain rfl:u=Value.ref a:=rx;obtain⟨t1,t2,_⟩:=Zt1 I1 d;refine⟨t1,t2,?_⟩;rw[m.trees];refine JF rfl (JG (zZ (aH (he pins s1 σ H1 _ I1 q1) λiv s2 ⟨y,H2,I2,ry,q2⟩=>zZ (aH (hf pins s2 σ H2 _ I2 q2) λfv s3 ⟨z,H3,I3,rz,ov,g,q3⟩=>JH ?_))));exact Ztk hu I3 g ry rz λw' s4 I4 mU=>⟨_,H3,I4,mU,q3⟩
end
end L2
namespace L3
open PySem
variable{T:qG}{env:Zo}{it:gA}{hi lo:Option Int}{M:Store}
noncomputable section
inductive D where
 |non|bl (b:Bool)|int (i:Int)|str (x:List Nat)|tup (ds:List D)|bH (ds:List D)|ref (n:Nat)
 deriving Inhabited
noncomputable abbrev a_:=Sum Int (List Nat)
inductive MO where
 |lst (xs:List D)|dct (kvs:List (a_×D))|dJ (kvs:List (a_×D))|ins (c:List Nat) (fs:List (List Nat×D))
 deriving Inhabited
noncomputable abbrev Store:=List MO
structure X3 where
 cls:List Nat
 arg:D
inductive R3(α:Type)where
 |ok (a:α) (M:Store)|exc (x:X3) (M:Store)|bad
@[simp] noncomputable def R3.bind{α β:Type}(r:R3 α)(k:α->Store->R3 β):R3 β:=match r with
 | .ok a M=>k a M|.exc x M=>.exc x M|.bad=>.bad
theorem R3.jF{α β:Type}(a:α)(M:Store)(k:α->Store->R3 β):(R3.ok a M).bind k=k a M:=rfl
theorem ft{C:Prop}(h:false=true):C:=Bool.noConfusion h
theorem e_{α:Type}{C:Prop}{k:α}(h:Yh=Ya k):C:=by cases h
noncomputable def cD:Nat->D->Bool
 |_,.non=>true|_,.bl _=>true|_,.int _=>true|_,.str _=>true
 |n+1,.tup ds=>ds.all (cD n)|_,_=>false
noncomputable abbrev DEEP:Nat:=60
mutual
noncomputable def kI:D->D->Bool
 | .non,.non=>true|.bl a,.bl b=>a==b|.int a,.int b=>a==b|.str a,.str b=>a==b
 | .tup a,.tup b=>gj a b|.bl a,.int b=>(if a then 1 else 0)==b|.int a,.bl b=>a==(if b then 1 else 0)|_,_=>false
noncomputable def gj:List D->List D->Bool
 |[],[]=>true|a::x,b::y=>kI a b&&gj x y|_,_=>false
end
theorem ZsR(a b:List D):kI (.tup a) (.tup b)=gj a b:=rfl
theorem Zti:gj [] []=true:=rfl
theorem Ru(a b:D)(x y:List D):gj (a::x) (b::y)=(kI a b&&gj x y):=rfl
mutual
noncomputable def below(n:Nat):D->Bool
 | .tup ds=>bV n ds|.bH ds=>bV n ds|.ref k=>k<n|.non=>true| .bl _=>true| .int _=>true| .str _=>true
noncomputable def bV(n:Nat):List D->Bool
 |[]=>true|d::ds=>below n d&&bV n ds
end
mutual
noncomputable def same:D->D->Bool
 | .non,.non=>true|.bl a,.bl b=>a==b|.int a,.int b=>a==b|.str a,.str b=>a==b
 | .tup a,.tup b=>Ah a b|.bH a,.bH b=>Ah a b|.ref a,.ref b=>a==b|_,_=>false
noncomputable def Ah:List D->List D->Bool
 |[],[]=>true|a::x,b::y=>same a b&&Ah x y|_,_=>false
end
mutual
theorem Znf:∀{a b:D},same a b=true->a=b
 | .non,b,h=>by cases b<;>first|exact rfl|exact ft h
 | .bl a,b,h=>by cases b<;>first|exact congrArg D.bl (beq_iff_eq.mp h)|exact ft h
 | .int a,b,h=>by cases b<;>first|exact congrArg D.int (beq_iff_eq.mp h)|exact ft h
 | .str a,b,h=>by cases b<;>first|exact congrArg D.str (beq_iff_eq.mp h)|exact ft h
 | .tup a,b,h=>by cases b<;>first|exact congrArg D.tup (Rv h)|exact ft h
 | .bH a,b,h=>by cases b<;>first|exact congrArg D.bH (Rv h)|exact ft h
 | .ref a,b,h=>by cases b<;>first|exact congrArg D.ref (beq_iff_eq.mp h)|exact ft h
theorem Rv:∀{x y:List D},Ah x y=true->x=y
 |[],y,h=>by cases y<;>first|exact rfl|exact ft h
 |a::x,y,h=>by
  cases y with
  |nil=>exact ft h|cons b y=>exact have w:=uJ.mp (h:(same a b&&Ah x y)=true);congr (congrArg _ (Znf w.1)) (Rv w.2)
end
mutual
theorem ZmJ:∀(a:D),same a a=true
 | .non=>rfl|.bl a=>beq_self_eq_true a|.int a=>beq_self_eq_true a|.str a=>beq_self_eq_true a
 | .tup a=>Rw a|.bH a=>Rw a|.ref a=>beq_self_eq_true a
theorem Rw:∀(x:List D),Ah x x=true
 |[]=>rfl|a::x=>uJ.mpr ⟨ZmJ a,Rw x⟩
end
theorem same_iff{a b:D}:same a b=true↔a=b:=⟨Znf,λh=>h▸ZmJ a⟩
noncomputable instance:DecidableEq D:=λa b=>decidable_of_iff (same a b=true) same_iff
noncomputable instance:DecidableEq MO:=λa b=>match a,b with
 | .lst x,.lst y=>if h:x=y then isTrue (by rw[h])else isFalse (by intro e;cases e;exact h rfl)|.dct x,.dct y=>if h:x=y then isTrue (by rw[h])else isFalse (by intro e;cases e;exact h rfl)|.dJ x,.dJ y=>if h:x=y then isTrue (by rw[h])else isFalse (by intro e;cases e;exact h rfl)|.ins c x,.ins d y=>if h:c=d/\x=y then isTrue (by rw[h.1,h.2])else isFalse (by intro e;cases e;exact h ⟨rfl,rfl⟩)
 | .ins _ _,.lst _=>isFalse (by intro e;cases e)|.ins _ _,.dct _=>isFalse (by intro e;cases e)|.ins _ _,.dJ _=>isFalse (by intro e;cases e)|.lst _,.ins _ _=>isFalse (by intro e;cases e)
 | .dct _,.ins _ _=>isFalse (by intro e;cases e)|.dJ _,.ins _ _=>isFalse (by intro e;cases e)|.lst _,.dct _=>isFalse (by intro e;cases e)|.lst _,.dJ _=>isFalse (by intro e;cases e)
 | .dct _,.lst _=>isFalse (by intro e;cases e)|.dct _,.dJ _=>isFalse (by intro e;cases e)|.dJ _,.lst _=>isFalse (by intro e;cases e)|.dJ _,.dct _=>isFalse (by intro e;cases e)
@[simp] noncomputable abbrev SZ:Nat:=1000000
noncomputable abbrev Zo:=List (Option D)
noncomputable abbrev E3:=Zo->Store->R3 D
noncomputable abbrev bU:=Zo->Store->R3 (List D)
noncomputable abbrev F3:=List D->Store->R3 D
inductive O3 where
 |nx (env:Zo) (M:Store)|rt (d:D) (M:Store)|bk (env:Zo) (M:Store)|ct (env:Zo) (M:Store)|exc (x:X3) (M:Store)|bad
noncomputable abbrev S3:=Zo->Store->O3
@[simp] noncomputable def Zc(i:Nat):E3:=λenv M=>match env[i]? with
 |some (Ya d)=>.ok d M|_=>.bad
@[simp] noncomputable def eC(d:D):E3:=λ_ M=>.ok d M
@[simp] noncomputable def e1(op:D->Store->R3 D)(f:E3):E3:=λenv M=>(f env M).bind op
@[simp] noncomputable def e2(op:D->D->Store->R3 D)(f g:E3):E3:=λenv M=>(f env M).bind λa M1=>(g env M1).bind λb M2=>op a b M2
@[simp] noncomputable def Ze:bU:=λ_ M=>.ok [] M
@[simp] noncomputable def Za(f:E3)(g:bU):bU:=λenv M=>(f env M).bind λa M1=>(g env M1).bind λb M2=>.ok (a::b) M2
@[simp] noncomputable def alloc(o:MO)(M:Store):R3 D:=.ok (.ref M.length) (M++[o])
section
local instance (priority:=100000) AfJ (p:Prop):Decidable p:=Yr p
@[simp] noncomputable def bF(g:bU):E3:=λenv M=>(g env M).bind λds M1=>if ds.length<=SZ then .ok (.tup ds) M1 else .bad
end
section
local instance (priority:=100000) AfK (p:Prop):Decidable p:=Yr p
@[simp] noncomputable def cg(g:bU):E3:=λenv M=>(g env M).bind λds M1=>if ds.length<=SZ then alloc (.lst ds) M1 else .bad
end
@[simp] noncomputable def kJ(f g:E3):E3:=λenv M=>(f env M).bind λa M1=>match a with
 | .bl true=>g env M1|.bl false=>.ok (.bl false) M1|_=>.bad
@[simp] noncomputable def kO(f g:E3):E3:=λenv M=>(f env M).bind λa M1=>match a with
 | .bl false=>g env M1|.bl true=>.ok (.bl true) M1|_=>.bad
noncomputable def mV(a:D)(M:Store):R3 D:=match a with
 | .bl b=>.ok (.bl (!b)) M|_=>.bad
@[simp] theorem Zwt:∀b,mV (.bl b) M= .ok (.bl (!b)) M:=λ_=>rfl
@[simp] noncomputable def xM(c f g:E3):E3:=λenv M=>(c env M).bind λa M1=>match a with
 | .bl true=>f env M1|.bl false=>g env M1|_=>.bad
@[simp] noncomputable def Zu(F:F3)(g:bU):E3:=λenv M=>(g env M).bind λds M1=>F ds M1
section
local instance (priority:=100000) AfL (p:Prop):Decidable p:=Yr p
noncomputable def bf(a b:D)(M:Store):R3 D:=match a,b with
 | .int i,.int j=>.ok (.int (i+j)) M|.str x,.str y=>if x.length+y.length<=SZ then .ok (.str (x++y)) M else .bad|.tup x,.tup y=>if x.length+y.length<=SZ then .ok (.tup (x++y)) M else .bad|.ref n,.ref m=>match M[n]?,M[m]? with
  |some (.lst x),Ya (.lst y)=>if x.length+y.length<=SZ then alloc (.lst (x++y)) M else .bad|_,_=>.bad
 |_,_=>.bad
@[simp] theorem Kf:∀i j,bf (.int i) (.int j) M= .ok (.int (i+j)) M:=λ_ _=>rfl
@[simp] theorem ZqI:∀x y,bf (.str x) (.str y) M=(if x.length+y.length<=SZ then .ok (.str (x++y)) M else .bad):=λ_ _=>rfl
@[simp] theorem Kg:∀x y,bf (.tup x) (.tup y) M=(if x.length+y.length<=SZ then .ok (.tup (x++y)) M else .bad):=λ_ _=>rfl
@[simp] theorem ZqA:∀n m,bf (.ref n) (.ref m) M=(match M[n]?,M[m]? with
  |some (.lst x),Ya (.lst y)=>if x.length+y.length<=SZ then alloc (.lst (x++y)) M else .bad|_,_=>.bad):=λ_ _=>rfl
end
noncomputable def jR(a b:D)(M:Store):R3 D:=match a,b with
 | .int i,.int j=>.ok (.int (i-j)) M|_,_=>.bad
@[simp] theorem Rx:∀i j,jR (.int i) (.int j) M= .ok (.int (i-j)) M:=λ_ _=>rfl
section
local instance (priority:=100000) AfM (p:Prop):Decidable p:=Yr p
noncomputable def xN(i j:Int):Bool:=(decide (-(2^64)<i)&&decide (i<2^64))|| (decide (-(2^64)<j)&&decide (j<2^64))
end
section
local instance (priority:=100000) AfN (p:Prop):Decidable p:=Yr p
noncomputable def eU(a b:D)(M:Store):R3 D:=match a,b with
 | .int i,.int j=>if xN i j then .ok (.int (i*j)) M else .bad|.str x,.int k=>if x.length*k.toNat<=SZ/\k<1000000/\ -1000000<k then .ok (.str (Ye k.toNat x).flatten) M else .bad|.ref n,.int k=>match M[n]? with
  |some (.lst x)=>if x.length*k.toNat<=SZ/\k<1000000/\ -1000000<k then alloc (.lst (Ye k.toNat x).flatten) M else .bad|_=>.bad
 |_,_=>.bad
@[simp] theorem Ai:∀i j,eU (.int i) (.int j) M=(if xN i j then .ok (.int (i*j)) M else .bad):=λ_ _=>rfl
@[simp] theorem Zpo:∀x k,eU (.str x) (.int k) M=(if x.length*k.toNat<=SZ/\k<1000000/\ -1000000<k then .ok (.str (Ye k.toNat x).flatten) M else .bad):=λ_ _=>rfl
@[simp] theorem Zww:∀n k,eU (.ref n) (.int k) M=(match M[n]? with
  |some (.lst x)=>if x.length*k.toNat<=SZ/\k<1000000/\ -1000000<k then alloc (.lst (Ye k.toNat x).flatten) M else .bad|_=>.bad):=λ_ _=>rfl
end
noncomputable def aO(a b:D)(M:Store):R3 D:=match a,b with
 | .int i,.int j=>if 0<j then .ok (.int (i % j)) M else .bad|_,_=>.bad
@[simp] theorem Ry:∀i j,aO (.int i) (.int j) M=(if 0<j then .ok (.int (i % j)) M else .bad):=λ_ _=>rfl
section
local instance (priority:=100000) AfO (p:Prop):Decidable p:=Yr p
noncomputable def dN(a b:D)(M:Store):R3 D:=match a,b with
 | .int i,.int j=>if 0<j/\j<1073741824 then .ok (.int (i / j)) M else .bad|_,_=>.bad
@[simp] theorem Zjl:∀i j,dN (.int i) (.int j) M=(if 0<j/\j<1073741824 then .ok (.int (i / j)) M else .bad):=λ_ _=>rfl
end
noncomputable def Aj(a b:D)(M:Store):R3 D:=match a,b with
 | .int i,.int j=>if 0<=j/\j<=1000/\i.natAbs<1000 then .ok (.int (i^j.toNat)) M else .bad|_,_=>.bad
@[simp] theorem ZpB:∀i j,Aj (.int i) (.int j) M=(if 0<=j/\j<=1000/\i.natAbs<1000 then .ok (.int (i^j.toNat)) M else .bad):=λ_ _=>rfl
noncomputable def jk(a:D)(M:Store):R3 D:=match a with
 | .int i=>.ok (.int (-i)) M|_=>.bad
@[simp] theorem Kh:∀i,jk (.int i) M= .ok (.int (-i)) M:=λ_=>rfl
noncomputable def lV(a b:D)(M:Store):R3 D:=match a,b with
 | .int i,.int j=>.ok (.bl (decide (i<j))) M|_,_=>.bad
@[simp] theorem u5:∀i j,lV (.int i) (.int j) M= .ok (.bl (decide (i<j))) M:=λ_ _=>rfl
noncomputable def jc(a b:D)(M:Store):R3 D:=match a,b with
 | .int i,.int j=>.ok (.bl (decide (j<i))) M|_,_=>.bad
@[simp] theorem mW:∀i j,jc (.int i) (.int j) M= .ok (.bl (decide (j<i))) M:=λ_ _=>rfl
noncomputable def Fy(a b:D)(M:Store):R3 D:=match a,b with
 | .int i,.int j=>.ok (.bl (decide (j<=i))) M|_,_=>.bad
@[simp] theorem Znh:∀i j,Fy (.int i) (.int j) M= .ok (.bl (decide (j<=i))) M:=λ_ _=>rfl
noncomputable def mX(a b:D)(M:Store):Option Bool:=match a,b with
 | .ref n,.ref m=>match M[n]?,M[m]? with
  |some (.lst x),Ya (.lst y)=>if x.all (cD DEEP)&&y.all (cD DEEP)then Ya (gj x y)else Yh|_,_=>Yh
 | .int i,.int j=>Ya (decide (i=j))|.str x,.str y=>Ya (decide (x=y))|.bl x,.bl y=>Ya (decide (x=y))|.tup x,.tup y=>if x.all (cD DEEP)&&y.all (cD DEEP)then Ya (gj x y)else Yh
 |_,_=>Yh
@[simp] theorem Rz:∀n m,mX (.ref n) (.ref m) M=(match M[n]?,M[m]? with
  |some (.lst x),Ya (.lst y)=>if x.all (cD DEEP)&&y.all (cD DEEP)then Ya (gj x y)else Yh|_,_=>Yh):=λ_ _=>rfl
@[simp] theorem RB:∀i j,mX (.int i) (.int j) M=Ya (decide (i=j)):=λ_ _=>rfl
@[simp] theorem Fz:∀x y,mX (.str x) (.str y) M=Ya (decide (x=y)):=λ_ _=>rfl
@[simp] theorem RD:∀x y,mX (.bl x) (.bl y) M=Ya (decide (x=y)):=λ_ _=>rfl
@[simp] theorem Kl:∀x y,mX (.tup x) (.tup y) M=(if x.all (cD DEEP)&&y.all (cD DEEP)then Ya (gj x y)else Yh):=λ_ _=>rfl
@[simp] noncomputable def bL(a b:D)(M:Store):R3 D:=match mX a b M with
 |some r=>.ok (.bl r) M|none=>.bad
@[simp] noncomputable def sW(a b:D)(M:Store):R3 D:=match mX a b M with
 |some r=>.ok (.bl (!r)) M|none=>.bad
noncomputable def Km(a b:D)(M:Store):R3 D:=match b with
 | .non=>.ok (.bl (decide (a= .non))) M|_=>.bad
@[simp] theorem Znd{a:D}:Km a (.non) M= .ok (.bl (decide (a= .non))) M:=rfl
noncomputable def u6:D->Bool
 | .non=>true| .bl _=>true| .int _=>true| .str _=>true|_=>false
noncomputable def mY(n:Nat)(i:Int):Option Nat:=if 0<=i then(if i<n then Ya i.toNat else Yh)else if -(n:Int)<=i then Ya (i+n).toNat else Yh
noncomputable def fD{α:Type}(xs:List α)(i:Int):Option α:=(mY xs.length i).bind λj=>xs[j]?
noncomputable def gF:D->Option a_
 | .int i=>Ya (.inl i)|.str x=>Ya (.inr x)|_=>Yh
@[simp] theorem Zxi:gF .non=Yh:=rfl
@[simp] theorem ZxA(b:Bool):gF (.bl b)=Yh:=rfl
@[simp] theorem Zw5(x:List D):gF (.tup x)=Yh:=rfl
@[simp] theorem ZxQ(x:List D):gF (.bH x)=Yh:=rfl
@[simp] theorem Zx3(n:Nat):gF (.ref n)=Yh:=rfl
@[simp] theorem ZwW:∀i,gF (.int i)=Ya (.inl i):=λ_=>rfl
@[simp] theorem Zw4:∀x,gF (.str x)=Ya (.inr x):=λ_=>rfl
noncomputable def dD:List (a_×D)->a_->Option D
 |[],_=>Yh|(k,v)::r,x=>if k=x then Ya v else dD r x
section
local instance (priority:=100000) AfP (p:Prop):Decidable p:=Yr p
noncomputable def Zr(a b:D)(M:Store):R3 D:=match a,b with
 | .tup ds,.int i=>match fD ds i with
  |some d=>.ok d M|none=>.bad
 | .bH ds,.int i=>match fD ds i with
  |some d=>.ok d M|none=>.bad
 | .str x,.int i=>match fD x i with
  |some c=>if x.length<=SZ then .ok (.str [c]) M else .bad|none=>.bad
 | .ref n,.int i=>match M[n]? with
  |some (.lst ds)=>match fD ds i with
   |some d=>.ok d M|none=>.bad
  |_=>.bad
 |_,_=>.bad
@[simp] theorem ZkV:∀ds i,Zr (.tup ds) (.int i) M=(match fD ds i with
  |some d=>.ok d M|none=>.bad):=λ_ _=>rfl
@[simp] theorem RG:∀ds i,Zr (.bH ds) (.int i) M=(match fD ds i with
  |some d=>.ok d M|none=>.bad):=λ_ _=>rfl
@[simp] theorem RJ:∀x i,Zr (.str x) (.int i) M=(match fD x i with
  |some c=>if x.length<=SZ then .ok (.str [c]) M else .bad|none=>.bad):=λ_ _=>rfl
@[simp] theorem Zlh:∀n i,Zr (.ref n) (.int i) M=(match M[n]? with
  |some (.lst ds)=>match fD ds i with
   |some d=>.ok d M|none=>.bad
  |_=>.bad):=λ_ _=>rfl
end
noncomputable def jl:Option MO->Option (List (a_×D))
 |some (.dct kvs)=>Ya kvs|some (.dJ kvs)=>Ya kvs|_=>Yh
@[simp] theorem ZwJ:jl Yh=Yh:=rfl
@[simp] theorem ZwZ(x:List D):jl (Ya (.lst x))=Yh:=rfl
@[simp] theorem ZwF(c:List Nat)(f:List (List Nat×D)):jl (Ya (.ins c f))=Yh:=rfl
@[simp] theorem Zvd:∀kvs,jl (Ya (.dct kvs))=Ya kvs:=λ_=>rfl
@[simp] theorem Zvi:∀kvs,jl (Ya (.dJ kvs))=Ya kvs:=λ_=>rfl
noncomputable def ZuI(a b:D)(M:Store):R3 D:=match a with
 | .ref n=>match jl M[n]?,gF b with
  |some kvs,Ya x=>match dD kvs x with
   |some d=>.ok d M|none=>.bad
  |_,_=>.bad
 |_=>.bad
@[simp] theorem ZuV{b:D}:∀n,ZuI (.ref n) b M=(match jl M[n]?,gF b with
  |some kvs,Ya x=>match dD kvs x with
   |some d=>.ok d M|none=>.bad
  |_,_=>.bad):=λ_=>rfl
noncomputable def aB(n d:Nat):Option Int->Nat
 |none=>d|some v=>if v<0 then(v+(n:Int)).toNat else iM v.toNat n
noncomputable def cutD{α:Type}(xs:List α)(lo hi:Option Int):List α:=(xs.drop (aB xs.length 0 lo)).take (aB xs.length xs.length hi-aB xs.length 0 lo)
noncomputable abbrev Ak:=Zo->Store->R3 (Option Int)
@[simp] noncomputable def mZ:Ak:=λ_ M=>.ok Yh M
@[simp] noncomputable def m5(f:E3):Ak:=λenv M=>(f env M).bind λa M1=>match a with
 | .int i=>.ok (Ya i) M1|_=>.bad
section
local instance (priority:=100000) AfQ (p:Prop):Decidable p:=Yr p
noncomputable def Al(a:D)(lo hi:Option Int)(M:Store):R3 D:=match a with
 | .tup ds=>.ok (.tup (cutD ds lo hi)) M|.bH ds=>alloc (.lst (cutD ds lo hi)) M|.str x=>if x.length<=SZ then .ok (.str (cutD x lo hi)) M else .bad|.ref n=>match M[n]? with
  |some (.lst ds)=>alloc (.lst (cutD ds lo hi)) M|_=>.bad
 |_=>.bad
@[simp] theorem Ko:∀ds,Al (.tup ds) lo hi M= .ok (.tup (cutD ds lo hi)) M:=λ_=>rfl
@[simp] theorem Kp:∀ds,Al (.bH ds) lo hi M=alloc (.lst (cutD ds lo hi)) M:=λ_=>rfl
@[simp] theorem Kq:∀x,Al (.str x) lo hi M=(if x.length<=SZ then .ok (.str (cutD x lo hi)) M else .bad):=λ_=>rfl
@[simp] theorem FJ:∀n,Al (.ref n) lo hi M=(match M[n]? with
  |some (.lst ds)=>alloc (.lst (cutD ds lo hi)) M|_=>.bad):=λ_=>rfl
end
@[simp] noncomputable def m7(f:E3)(lo hi:Ak):E3:=λenv M=>(f env M).bind λa M1=>(lo env M1).bind λl M2=>(hi env M2).bind λh M3=>Al a l h M3
section
local instance (priority:=100000) AfR (p:Prop):Decidable p:=Yr p
noncomputable def bM(ds:List D)(M:Store):R3 D:=match ds with
 |[.tup x]=>.ok (.int x.length) M|[.bH x]=>.ok (.int x.length) M|[.str x]=>if x.length<=SZ then .ok (.int x.length) M else .bad|[.ref n]=>match M[n]? with
  |some (.lst x)=>.ok (.int x.length) M|_=>.bad
 |_=>.bad
@[simp] theorem FN:∀x,bM ([.tup x]) M= .ok (.int x.length) M:=λ_=>rfl
@[simp] theorem Kr:∀x,bM ([.bH x]) M= .ok (.int x.length) M:=λ_=>rfl
@[simp] theorem RK:∀x,bM ([.str x]) M=(if x.length<=SZ then .ok (.int x.length) M else .bad):=λ_=>rfl
@[simp] theorem xO:∀n,bM ([.ref n]) M=(match M[n]? with
  |some (.lst x)=>.ok (.int x.length) M|_=>.bad):=λ_=>rfl
end
noncomputable def kW(ds:List D)(M:Store):R3 D:=match ds with
 |[.tup x]=>.ok (.tup x) M|[.bH x]=>.ok (.tup x) M|[.ref n]=>match M[n]? with
  |some (.lst x)=>.ok (.tup x) M|_=>.bad
 |_=>.bad
@[simp] theorem Zi5:∀x,kW ([.tup x]) M= .ok (.tup x) M:=λ_=>rfl
@[simp] theorem ZiY:∀x,kW ([.bH x]) M= .ok (.tup x) M:=λ_=>rfl
@[simp] theorem Am:∀n,kW ([.ref n]) M=(match M[n]? with
  |some (.lst x)=>.ok (.tup x) M|_=>.bad):=λ_=>rfl
inductive qG where
 |int|bool|str|list|tuple
 deriving DecidableEq
noncomputable def qH(T:qG)(d:D)(M:Store):Option Bool:=match d with
 | .non=>Ya false|.bl _=>Ya (T== .bool|| T== .int)|.int _=>Ya (T== .int)|.str _=>Ya (T== .str)
 | .tup _=>Ya (T== .tuple)|.bH _=>Yh|.ref n=>match M[n]? with
  |some (.lst _)=>Ya (T== .list)|some (.dct _)=>Ya false|some (.dJ _)=>Yh|some (.ins _ _)=>Yh
  |none=>Yh
@[simp] theorem ZwN:qH T (.non) M=Ya false:=rfl
@[simp] theorem ZwY:∀w0,qH T (.bl w0) M=Ya (T== .bool|| T== .int):=λ_=>rfl
@[simp] theorem ZwG:∀w0,qH T (.int w0) M=Ya (T== .int):=λ_=>rfl
@[simp] theorem ZwT:∀w0,qH T (.str w0) M=Ya (T== .str):=λ_=>rfl
@[simp] theorem ZwI:∀w0,qH T (.tup w0) M=Ya (T== .tuple):=λ_=>rfl
@[simp] theorem ZwX:∀w0,qH T (.bH w0) M=Yh:=λ_=>rfl
@[simp] theorem ZwL:∀n,qH T (.ref n) M=(match M[n]? with
  |some (.lst _)=>Ya (T== .list)|some (.dct _)=>Ya false|some (.dJ _)=>Yh|some (.ins _ _)=>Yh
  |none=>Yh):=λ_=>rfl
@[simp] noncomputable def m8(T:qG)(d:D)(M:Store):R3 D:=match qH T d M with
 |some b=>.ok (.bl b) M|none=>.bad
section
local instance (priority:=100000) AfE (p:Prop):Decidable p:=Yr p
noncomputable def cj(o:D)(ds:List D)(M:Store):R3 D:=match o,ds with
 | .ref n,[d]=>match M[n]? with
  |some (.lst x)=>if x.length<SZ then .ok .non (M.set n (.lst (x++[d])))else .bad|_=>.bad
 |_,_=>.bad
@[simp] theorem Ks:∀n d,cj (.ref n) ([d]) M=(match M[n]? with
  |some (.lst x)=>if x.length<SZ then .ok .non (M.set n (.lst (x++[d])))else .bad|_=>.bad):=λ_ _=>rfl
end
section
local instance (priority:=100000) AfS (p:Prop):Decidable p:=Yr p
noncomputable def sX(o:D)(ds:List D)(M:Store):R3 D:=match o,ds with
 | .ref n,[.int i]=>match M[n]? with
  | some (.lst x)=>if -1000000<=i/\i<=1000000 then match mY x.length i with
   |some k=>match x[k]? with
    |some d=>.ok d (M.set n (.lst (x.eraseIdx k)))|none=>.bad
   |none=>.bad
   else .bad
  |_=>.bad
 | .ref n,[]=>match M[n]? with
  |some (.lst x)=>match x[x.length-1]? with
   |some d=>.ok d (M.set n (.lst x.dropLast))|none=>.bad
  |_=>.bad
 |_,_=>.bad
@[simp] theorem Zm1:∀n i,sX (.ref n) ([.int i]) M=(match M[n]? with
  | some (.lst x)=>if -1000000<=i/\i<=1000000 then match mY x.length i with
   |some k=>match x[k]? with
    |some d=>.ok d (M.set n (.lst (x.eraseIdx k)))|none=>.bad
   |none=>.bad
   else .bad
  |_=>.bad):=λ_ _=>rfl
@[simp] theorem RL:∀n,sX (.ref n) ([]) M=(match M[n]? with
  |some (.lst x)=>match x[x.length-1]? with
   |some d=>.ok d (M.set n (.lst x.dropLast))|none=>.bad
  |_=>.bad):=λ_=>rfl
end
noncomputable def bI(a:D)(M:Store):Bool:=match a with
 | .ref n=>match M[n]? with
  |some (.lst _)=>true|_=>false
 |_=>false
@[simp] theorem Ao:∀n,bI (.ref n) M=(match M[n]? with
  |some (.lst _)=>true|_=>false):=λ_=>rfl
noncomputable def Ku(a:D)(M:Store):Bool:=match a with
 | .ref n=>(jl M[n]?).isSome|_=>false
@[simp] theorem Kv:∀n,Ku (.ref n) M=(jl M[n]?).isSome:=λ_=>rfl
@[simp] noncomputable def bD(ty:D->Store->Bool)(m:D->List D->Store->R3 D)(o:E3)(g:bU):E3:=λenv M=>(o env M).bind λa M1=>if ty a M1 then(g env M1).bind λds M2=>m a ds M2 else .bad
@[simp] noncomputable def aU(b:List D->Store->R3 D)(g:bU):E3:=λenv M=>(g env M).bind λds M1=>b ds M1
noncomputable def putD(k:a_)(v:D)(kvs:List (a_×D)):List (a_×D):=if(kvs.any λp=>decide (p.1=k))=true then kvs.map (λp=>if p.1=k then(p.1,v)else p)else kvs++[(k,v)]
noncomputable abbrev RM:=Zo->Store->R3 (List (a_×D))
@[simp] noncomputable def Zyk(f g:E3)(r:RM):RM:=λenv M=>(f env M).bind λa M1=>(g env M1).bind λb M2=>match gF a with
 |some k=>(r env M2).bind λl M3=>.ok ((k,b)::l) M3|none=>.bad
noncomputable def dictOf(l:List (a_×D)):List (a_×D):=l.foldl (λacc p=>putD p.1 p.2 acc) []
@[simp] noncomputable def ZyK(r:RM):E3:=λenv M=>(r env (M++[.dct []])).bind λl M1=>match M1[M.length]? with
 |some (.dct [])=>if l.length<=15 then .ok (.ref M.length) (M1.set M.length (.dct (dictOf l)))else .bad|_=>.bad
@[simp] noncomputable def Zsw:E3:=λ_ M=>alloc (.dct []) M
@[simp] noncomputable def e3(op:D->D->D->Store->R3 D)(f g h:E3):E3:=λenv M=>(f env M).bind λa M1=>(g env M1).bind λb M2=>(h env M2).bind λc M3=>op a b c M3
section
local instance (priority:=100000) AfF (p:Prop):Decidable p:=Yr p
noncomputable def FP(v a b:D)(M:Store):R3 D:=match a with
 | .ref n=>match M[n]?,gF b with
  |some (.dct kvs),Ya k=>if kvs.length<SZ then .ok .non (M.set n (.dct (putD k v kvs)))else .bad|_,_=>.bad
 |_=>.bad
@[simp] theorem Zjj{v:D}{b:D}:∀n,FP v (.ref n) b M=(match M[n]?,gF b with
  |some (.dct kvs),Ya k=>if kvs.length<SZ then .ok .non (M.set n (.dct (putD k v kvs)))else .bad|_,_=>.bad):=λ_=>rfl
end
noncomputable def FQ(o:D)(ds:List D)(M:Store):R3 D:=match o,ds with
 | .ref n,[b]=>match jl M[n]?,gF b with
  |some kvs,Ya k=>.ok ((dD kvs k).getD .non) M|_,_=>.bad
 | .ref n,[b,d]=>match jl M[n]?,gF b with
  |some kvs,Ya k=>.ok ((dD kvs k).getD d) M|_,_=>.bad
 |_,_=>.bad
@[simp] theorem ZrW:∀n b,FQ (.ref n) ([b]) M=(match jl M[n]?,gF b with
  |some kvs,Ya k=>.ok ((dD kvs k).getD .non) M|_,_=>.bad):=λ_ _=>rfl
@[simp] theorem RN:∀n b d,FQ (.ref n) ([b,d]) M=(match jl M[n]?,gF b with
  |some kvs,Ya k=>.ok ((dD kvs k).getD d) M|_,_=>.bad):=λ_ _ _=>rfl
noncomputable def pM:List D->Option (List (a_×D))
 |[]=>Ya []|.tup [a,b]::r=>match gF a with
  |some k=>(pM r).map λl=>(k,b)::l|none=>Yh
 |_::_=>Yh
noncomputable def FT(ds:List D)(M:Store):R3 D:=match ds with
 |[.int i]=>.ok (.int i) M|[.bl b]=>.ok (.int (if b then 1 else 0)) M|_=>.bad
@[simp] theorem Zw3:∀i,FT ([.int i]) M= .ok (.int i) M:=λ_=>rfl
@[simp] theorem Zrv:∀b,FT ([.bl b]) M= .ok (.int (if b then 1 else 0)) M:=λ_=>rfl
noncomputable def ou:List D->Option (List Int)
 |[]=>Ya []|.int i::r=>(ou r).map (i:: ·)|_::_=>Yh
noncomputable def fQ:S3:=λenv M=>.nx env M
noncomputable def Aq:S3:=λ_ _=>.bad
noncomputable def aq(f g:S3):S3:=λenv M=>match f env M with
 | .nx env' M'=>g env' M'|o=>o
noncomputable def aV(c:E3)(f g:S3):S3:=λenv M=>match c env M with
 | .ok (.bl true) M1=>f env M1|.ok (.bl false) M1=>g env M1|.exc x M1=>.exc x M1|_=>.bad
noncomputable def cM(f:E3):S3:=λenv M=>match f env M with
 | .ok d M1=>.rt d M1|.exc x M1=>.exc x M1|.bad=>.bad
noncomputable def Zw(f:E3):S3:=λenv M=>match f env M with
 | .ok _ M1=>.nx env M1|.exc x M1=>.exc x M1|.bad=>.bad
noncomputable def aF(i:Nat)(f:E3):S3:=λenv M=>match f env M with
 | .ok d M1=>.nx (env.set i (Ya d)) M1|.exc x M1=>.exc x M1|.bad=>.bad
noncomputable def Zvc(o i f:E3):S3:=Zw (e3 FP f o i)
noncomputable abbrev G3:=D->Zo->Option Zo
@[simp] noncomputable def bQ(i:Nat):G3:=λd env=>Ya (env.set i (Ya d))
noncomputable def bindAll:List Nat->List D->Zo->Option Zo
 |[],[],env=>Ya env|i::is,d::ds,env=>bindAll is ds (env.set i (Ya d))|_,_,_=>Yh
@[simp] theorem Zmd:∀env,bindAll ([]) ([]) (env)=Ya env:=λ_=>rfl
@[simp] theorem Zmh:∀i is d ds env,bindAll (i::is) (d::ds) (env)=bindAll is ds (env.set i (Ya d)):=λ_ _ _ _ _=>rfl
@[simp] noncomputable def Kw(is:List Nat):G3:=λd env=>match d with
 | .tup ds=>bindAll is ds env|_=>Yh
structure gA where
 items:List D
 lock:Option Nat
noncomputable abbrev I3:=Zo->Store->R3 gA
section
local instance (priority:=100000) AfG (p:Prop):Decidable p:=Yr p
@[simp] noncomputable def kY(f:E3):I3:=λenv M=>(f env M).bind λa M1=>match a with
 | .tup ds=>.ok ⟨ds,Yh⟩ M1|.bH ds=>.ok ⟨ds,Yh⟩ M1|.str x=>if x.length<=SZ then .ok ⟨x.map λc=>.str [c],Yh⟩ M1 else .bad|.ref n=>match M1[n]? with
  |some (.lst ds)=>.ok ⟨ds,Ya n⟩ M1|_=>.bad
 |_=>.bad
end
noncomputable def Ar(lo:Int)(n:Nat):List D:=(dX n).map λ(k:Nat)=>D.int (lo+(k:Int))
section
local instance (priority:=100000) AfH (p:Prop):Decidable p:=Yr p
@[simp] noncomputable def u9(f:E3):I3:=λenv M=>(f env M).bind λa M1=>match a with
 | .int j=>if j<=1000000/\ -1000000<=j then .ok ⟨Ar 0 j.toNat,Yh⟩ M1 else .bad|_=>.bad
end
noncomputable def locked(it:gA)(M:Store):Bool:=match it.lock with
 |none=>true|some n=>decide (M[n]?=Ya (.lst it.items))
noncomputable def dZ(it:gA)(g:G3)(body:S3):List D->Zo->Store->O3
 |[],env,M=>if locked it M then .nx env M else .bad|d::ds,env,M=>if locked it M then match g d env with
  |none=>.bad|some cV=>match body cV M with
   | .nx e M'=>dZ it g body ds e M'|.ct e M'=>dZ it g body ds e M'|.bk e M'=>.nx e M'|o=>o
  else .bad
theorem sY{g:G3}{body:S3}:dZ it g body [] env M=if locked it M then .nx env M else .bad:=rfl
theorem pN{g:G3}{body:S3}{d:D}{ds:List D}:dZ it g body (d::ds) env M=if locked it M then match g d env with
  |none=>.bad|some cV=>match body cV M with
   | .nx e M'=>dZ it g body ds e M'|.ct e M'=>dZ it g body ds e M'|.bk e M'=>.nx e M'|o=>o
  else .bad:=rfl
noncomputable def sZ(i:I3)(g:G3)(body:S3):S3:=λenv M=>match i env M with
 | .ok it M1=>dZ it g body it.items env M1|.exc x M1=>.exc x M1|.bad=>.bad
noncomputable def g_(c:E3)(body:S3):Nat->Zo->Store->O3
 |0,_,_=>.bad|n+1,env,M=>match c env M with
  | .ok (.bl true) M1=>match body env M1 with
   | .nx e M'=>g_ c body n e M'|.ct e M'=>g_ c body n e M'|.bk e M'=>.nx e M'|o=>o
  | .ok (.bl false) M1=>.nx env M1|.exc x M1=>.exc x M1|_=>.bad
theorem oA{c:E3}{body:S3}{n:Nat}:g_ c body (n+1) env M=match c env M with
  | .ok (.bl true) M1=>match body env M1 with
   | .nx e M'=>g_ c body n e M'|.ct e M'=>g_ c body n e M'|.bk e M'=>.nx e M'|o=>o
  | .ok (.bl false) M1=>.nx env M1|.exc x M1=>.exc x M1|_=>.bad:=rfl
noncomputable def FW(c:E3)(body:S3):S3:=g_ c body 1000000
noncomputable def u_:List E3->Zo->Store->R3 Bool
 |[],_,M=>.ok true M|c::cs,env,M=>(c env M).bind λa M1=>match a with
  | .bl true=>u_ cs env M1|.bl false=>.ok false M1|_=>.bad
theorem Ky:u_ [] env M= .ok true M:=rfl
theorem Zox{c:E3}{cs:List E3}:u_ (c::cs) env M=(c env M).bind λa M1=>match a with
  | .bl true=>u_ cs env M1|.bl false=>.ok false M1|_=>.bad:=rfl
section
local instance (priority:=100000) Wq (p:Prop):Decidable p:=Yr p
noncomputable def dg(it:gA)(g:G3)(ifs:List E3)(elt:E3)(n:Nat):List D->Zo->Store->R3 D
 |[],_,M=>if locked it M then .ok (.ref n) M else .bad|d::ds,env,M=>if locked it M then match g d env with
  |none=>.bad|some cV=>(u_ ifs cV M).bind λb M1=>if b then(elt cV M1).bind λe M2=>match M2[n]? with
    |some (.lst x)=>if x.length<SZ then dg it g ifs elt n ds cV (M2.set n (.lst (x++[e])))else .bad|_=>.bad
   else dg it g ifs elt n ds cV M1
  else .bad
theorem RP{g:G3}{ifs:List E3}{elt:E3}{n:Nat}:dg it g ifs elt n [] env M=if locked it M then .ok (.ref n) M else .bad:=rfl
theorem Kz{g:G3}{ifs:List E3}{elt:E3}{n:Nat}{d:D}{ds:List D}:dg it g ifs elt n (d::ds) env M=if locked it M then match g d env with
  |none=>.bad|some cV=>(u_ ifs cV M).bind λb M1=>if b then(elt cV M1).bind λe M2=>match M2[n]? with
    |some (.lst x)=>if x.length<SZ then dg it g ifs elt n ds cV (M2.set n (.lst (x++[e])))else .bad|_=>.bad
   else dg it g ifs elt n ds cV M1
  else .bad:=rfl
end
noncomputable def lW(i:I3)(own:Nat)(g:G3)(ifs:List E3)(elt:E3):E3:=λenv M=>(i env M).bind λit M1=>dg it g ifs elt M1.length it.items (env++Ye own Yh) (M1++[.lst []])
noncomputable def tu(n:Nat):MO->Bool
 | .lst xs=>bV n xs|.dct kvs=>bV n (kvs.map (·.2))|.dJ kvs=>bV n (kvs.map (·.2))|.ins _ fs=>bV n (fs.map (·.2))
noncomputable def tidy(M:Store)(d:D)(M':Store):R3 D:=if below M.length d&&(decide (M'.take M.length=M)|| (M'.take M.length).all (tu M.length))then .ok d (M'.take M.length)else .ok d M'
noncomputable def bh(ps n:Nat)(body:S3):F3:=λds M=>if ds.length=ps then match body (ds.map Ya++Ye (n-ps) Yh) M with
  | .nx _ M'=>tidy M .non M'|.rt d M'=>tidy M d M'|.exc x M'=>.exc x M'|_=>.bad
 else .bad
end
end L3
namespace L3
variable{env env':Zo}{M M':Store}
theorem Zk{f g:S3}(h:f env M= .nx env' M'):aq f g env M=g env' M':=by rw[aq,h]
variable{d:D}
theorem xP{f g:S3}(h:f env M= .rt d M'):aq f g env M= .rt d M':=by rw[aq,h]
theorem d9{c:E3}{f g:S3}(h:c env M= .ok (.bl true) M'):aV c f g env M=f env M':=by rw[aV,h]
theorem dh{c:E3}{f g:S3}(h:c env M= .ok (.bl false) M'):aV c f g env M=g env M':=by rw[aV,h]
variable{f:E3}
theorem h_(h:f env M= .ok d M'):cM f env M= .rt d M':=by rw[cM,h]
theorem bN{i:Nat}(h:f env M= .ok d M')(he:env.set i (Ya d)=env':=by first|(dsimp only[nQ,nR]<;>exact rfl)|exact rfl):aF i f env M= .nx env' M':=by rw[aF,h];simp only[he]
theorem qI{c:E3}{f:S3}(h:c env M= .ok (.bl false) M'):aV c f fQ env M= .nx env M':=by rw[aV,h];rfl
theorem jm(h:f env M= .ok d M'):Zw f env M= .nx env M':=by rw[Zw,h]
theorem RQ{i:I3}{g:G3}{u:S3}{it:gA}(h:i env M= .ok it M'):sZ i g u env M=dZ it g u it.items env M':=by rw[sZ,h]
theorem Zpw{i:I3}{own:Nat}{g:G3}{ts:List E3}{it:gA}(h:i env M= .ok it M'):lW i own g ts f env M=dg it g ts f M'.length it.items (env++Ye own Yh) (M'++[.lst []]):=by rw[lW,h];rfl
variable{body:S3}{ds:List D}{n:Nat}
theorem jd{ps:Nat}(h:body env M= .rt d M')(hl:ds.length=ps:=by rfl)(he:ds.map Ya++Ye (n-ps) Yh=env:=by rfl):bh ps n body ds M=tidy M d M':=by rw[bh,if_pos hl,he,h]
theorem vf{ps:Nat}(h:body env M= .nx env' M')(hl:ds.length=ps:=by rfl)(he:ds.map Ya++Ye (n-ps) Yh=env:=by rfl):bh ps n body ds M=tidy M .non M':=by rw[bh,if_pos hl,he,h]
theorem Av{G:Store}(h:below M.length d=true):tidy M d (M++G)= .ok d M:=by simp[tidy,h]
theorem RT(h:below M.length d=true):tidy M d M= .ok d M:=by simp[tidy,h]
variable{α:Type}
theorem dR(M:List α)(x:α)(xs:List α):(M++x::xs)[M.length]?=Ya x:=by simp
theorem vg(M xs:List α)(k:Nat):(M++xs)[M.length+k]?=xs[k]?:=by rw[wY (rY _ _)];congr 1;exact iK (lC 1 2199589555233 T1 (pC (rY _ _))) (lC 1 2267788938241 T1 (pG _ _))
theorem FZ(M xs:List α)(k:Nat)(o:α):(M++xs).set (M.length+k) o=M++xs.set k o:=by rw[List.set_append_right _ _ (rY _ _)];congr 2;exact iK (lC 1 2199589555233 T1 (pC (rY _ _))) (lC 1 2267788938241 T1 (pG _ _))
theorem iC{M:List α}{o:α}(h:M[n]?=Ya o)(xs:List α):(M++xs)[n]?=Ya o:=by rw[Yx (Yf.mp h).1,h]
theorem kZ(xs:List α)(k:Nat):fD xs (k:Int)=xs[k]?:=by
 unfold fD mY;rw[if_pos (Et k)];by_cases h:k<xs.length
 .rw[if_pos (Js.2 h)];simp
 .rw[if_neg (by exactλz=>iN [_,_] [] 2 6667149772945 T1 z h)];simp at h ⊢;exact h
@[simp] theorem ZuX(xs:List α)(k:Nat):fD xs (k:Int)=xs[k]?:=kZ xs k
@[simp] theorem Zv3(xs:List α)(n:Nat):fD xs (no_index (Fb n:Int))=xs[(Fb n:Nat)]?:=kZ xs n
@[simp] theorem Zu5(xs:List α):fD xs (-1)=xs.getLast?:=by
 unfold fD mY;rw[if_neg (by decide),List.getLast?_eq_getElem?];by_cases h:0<xs.length
 .rw[if_pos (by exact iN [_] [] 1 725993655825 T1 h)];simp only[Xh];congr 1;exact iK (iN [_,_,_] [] 2 0x200a2c10118a9c08a1 T1 (sE (iN [_] [] 1 595337940497 T1 h)) (pG _ _)) (iN [_,_,_] [] 2 0x1200a2c211808a9c81 T1 (Eu _) (pC (lA 1 10489361 T1 h)))
 .have:xs=[]:=by simpa using h
  subst this;rfl
theorem ZmF(n k:Nat):mY n (k:Int)=if k<n then Ya k else Yh:=by
 unfold mY;rw[if_pos (Et k)];by_cases h:k<n
 .rw[if_pos (Js.2 h),if_pos h];simp
 .rw[if_neg (by exactλz=>iN [_,_] [] 2 6667149772945 T1 z h),if_neg h]
@[simp] theorem Zvr(n k:Nat):mY n (k:Int)=if k<n then Ya k else Yh:=ZmF n k
@[simp] theorem Zw0(m n:Nat):mY m (no_index (Fb n:Int))=if(Fb n:Nat)<m then Ya (Fb n:Nat)else Yh:=ZmF m n
theorem getD_last(xs:List α)(x:α):fD (xs++[x]) (-1)=Ya x:=by
 unfold fD mY;rw[if_neg (by decide),if_pos (by simp;exact iN [_] [] 0 10521768 T1)];have:(-1+((xs++[x]).length:Int)).toNat=xs.length:=by simp;exact iK (iN [_,_] [] 1 4514701222086817 T1 (sE (iN [_] [] 0 43097169128 T1))) (iN [_,_] [] 1 4505291991981185 T1 (Eu _))
 simp only[Xh,this];simp
inductive Row where
 |put (a:Nat) (n:Int)|add (a b c:Nat)|sub (a b c:Nat)|more (a b c:Nat)|get (a b:Nat)|set (a b:Nat)|jump (k:Nat)|when (a k:Nat)|tell (a:Nat)|halt
 deriving Inhabited
noncomputable def Row.ok(many:Nat):Row->Prop
 | .put a _=>a<8|.add a b c=>a<8/\b<8/\c<8|.sub a b c=>a<8/\b<8/\c<8|.more a b c=>a<8/\b<8/\c<8
 | .get a b=>a<8/\b<8|.set a b=>a<8/\b<8|.jump k=>k<many|.when a k=>a<8/\k<many
 | .tell a=>a<8|.halt=>True
noncomputable def Row.tells(bs:List Int):Row->Option Int
 | .tell a=>bs[a]?|_=>Yh
noncomputable def Row.pZ:Row->Bool
 | .halt=>true|_=>false
variable{a:Nat}
@[simp] theorem Zu3{n:Int}{bs:List Int}:(Row.put a n).tells bs=Yh:=rfl
@[simp] theorem ZuO{n:Int}:(Row.put a n).pZ=false:=rfl
variable{b c:Nat}
@[simp] theorem Zu0{bs:List Int}:(Row.add a b c).tells bs=Yh:=rfl
@[simp] theorem ZuB:(Row.add a b c).pZ=false:=rfl
@[simp] theorem Zu6{bs:List Int}:(Row.sub a b c).tells bs=Yh:=rfl
@[simp] theorem ZuK:(Row.sub a b c).pZ=false:=rfl
@[simp] theorem Zs3{bs:List Int}:(Row.more a b c).tells bs=Yh:=rfl
@[simp] theorem Zsi:(Row.more a b c).pZ=false:=rfl
@[simp] theorem Zu4{bs:List Int}:(Row.get a b).tells bs=Yh:=rfl
@[simp] theorem Ztd:(Row.get a b).pZ=false:=rfl
@[simp] theorem ZuY{bs:List Int}:(Row.set a b).tells bs=Yh:=rfl
@[simp] theorem Zuk:(Row.set a b).pZ=false:=rfl
@[simp] theorem Zuj{k:Nat}{bs:List Int}:(Row.jump k).tells bs=Yh:=rfl
@[simp] theorem ZsI{k:Nat}:(Row.jump k).pZ=false:=rfl
@[simp] theorem Zuc{k:Nat}{bs:List Int}:(Row.when a k).tells bs=Yh:=rfl
@[simp] theorem Zsr{k:Nat}:(Row.when a k).pZ=false:=rfl
@[simp] theorem ZuJ{bs:List Int}:(Row.tell a).tells bs=bs[a]?:=rfl
@[simp] theorem ZsO:(Row.tell a).pZ=false:=rfl
@[simp] theorem Ztg{bs:List Int}:(Row.halt).tells bs=Yh:=rfl
@[simp] theorem Zss :(Row.halt).pZ=true:=rfl
mutual
theorem Zot:∀(n:Nat) (d:D),cD n d=true->kI d d=true
 |_,.non,_=>rfl|_,.bl b,_=>beq_self_eq_true b|_,.int b,_=>beq_self_eq_true b|_,.str b,_=>beq_self_eq_true b
 |0,.tup _,h=>ft h|n+1,.tup ds,h=>KC n ds (nU.mp h)|n,.bH _,h=>by cases n<;>exact ft h|n,.ref _,h=>by cases n<;>exact ft h
theorem KC:∀(n:Nat) (ds:List D),(∀d∈ds,cD n d=true)->gj ds ds=true
 |_,[],_=>rfl|n,d::ds,h=>by simp only[Zti,Ru,jb];exact⟨Zot n d (h d Yw),KC n ds λx hx=>h x (Yp _ hx)⟩
end
theorem Zi8(h:ds.all (cD DEEP)=true):gj ds ds=true:=KC DEEP ds (by simpa using h)
def Rt(o:O3)(d:D):Prop:=∃M',o= .rt d M'
theorem Rt.set{i:Nat}{g:S3}{d r:D}(h:f env M= .ok d M')(k:Rt (g env' M') r)(he:env.set i (Ya d)=env':=by first|(dsimp only[nQ,nR]<;>exact rfl)|exact rfl):Rt (aq (aF i f) g env M) r:=by rw[Rt,Zk (bN h he)];exact k
theorem Rt.skip{c:E3}{u g:S3}{r:D}(h:c env M= .ok (.bl false) M')(k:Rt (g env M') r):Rt (aq (aV c u fQ) g env M) r:=by rw[Rt,Zk (qI h)];exact k
theorem Rt.loop{i:I3}{t:G3}{u g:S3}{M M' M1:Store}{it:gA}{r:D}(h:i env M= .ok it M1)(hl:dZ it t u it.items env M1= .nx env' M')(k:Rt (g env' M') r):Rt (aq (sZ i t u) g env M) r:=by rw[Rt,Zk ((RQ h).trans hl)];exact k
theorem Rt.ret(h:f env M= .ok d M'):Rt (cM f env M) d:=⟨M',h_ h⟩
theorem Rt.law{ps:Nat}{b:Bool}(h:Rt (body env []) (.bl b))(hl:ds.length=ps:=by rfl)(he:ds.map Ya++Ye (n-ps) Yh=env:=by rfl):∃M',bh ps n body ds []= .ok (.bl b) M':=by obtain⟨M',h⟩:=h;exact⟨_,(jd h hl he).trans (by rw[tidy,if_pos (by simp[below])])⟩
theorem Rt.pure{ps:Nat}{G:Store}(h:body env M= .rt d (M++G))(hd:below M.length d=true)(hl:ds.length=ps:=by rfl)(he:ds.map Ya++Ye (n-ps) Yh=env:=by rfl):bh ps n body ds M= .ok d M:=(jd h hl he).trans (Av hd)
variable{xs:List D}
theorem Znr{m:Nat}(h1:M[n]?=Ya (.lst xs))(h2:M[m]?=Ya (.lst xs))(hp:xs.all (cD DEEP)=true):sW (.ref n) (.ref m) M= .ok (.bl false) M:=by simp only[sW,Rz,RB,Fz,RD,Kl,h1,h2,hp,Bool.and_self,if_true,Zi8 hp,Z4]
variable{g:E3}
theorem Zg{op:D->D->Store->R3 D}{M M1 M2 M3:Store}{a b:D}(h1:f env M= .ok a M1)(h2:g env M1= .ok b M2)(h3:op a b M2= .ok d M3):e2 op f g env M= .ok d M3:=by simp only[e2,h1,h2,h3,R3.bind]
variable{F:F3}
theorem Aw{M M1 M2:Store}{a:D}(h1:f env M= .ok a M1)(h2:F [a] M1= .ok d M2):Zu F (Za f Ze) env M= .ok d M2:=by simp only[Zu,Za,Ze,h1,h2,R3.bind]
theorem qJ{M M1 M2 M3:Store}{a b:D}(h1:f env M= .ok a M1)(h2:g env M1= .ok b M2)(h3:F [a,b] M2= .ok d M3):Zu F (Za f (Za g Ze)) env M= .ok d M3:=by simp only[Zu,Za,Ze,h1,h2,h3,R3.bind]
theorem vh{h:E3}{M M1 M2 M3 M4:Store}{a b c:D}(h1:f env M= .ok a M1)(h2:g env M1= .ok b M2)(h3:h env M2= .ok c M3)(h4:F [a,b,c] M3= .ok d M4):Zu F (Za f (Za g (Za h Ze))) env M= .ok d M4:=by simp only[Zu,Za,Ze,h1,h2,h3,h4,R3.bind]
@[simp] theorem Zxj(a b:qG):(a==b)=decide (a=b):=by cases a<;>cases b<;>rfl
theorem Zo3{f g h k:E3}{M M1 M2 M3 M4 M5:Store}{a b c e:D}(h1:f env M= .ok a M1)(h2:g env M1= .ok b M2)(h3:h env M2= .ok c M3)(h4:k env M3= .ok d M4)(h5:F [a,b,c,d] M4= .ok e M5):Zu F (Za f (Za g (Za h (Za k Ze)))) env M= .ok e M5:=by simp only[Zu,Za,Ze,h1,h2,h3,h4,h5,R3.bind]
theorem je{b:List D->Store->R3 D}{M M1 M2:Store}{a:D}(h1:f env M= .ok a M1)(h2:b [a] M1= .ok d M2):aU b (Za f Ze) env M= .ok d M2:=by simp only[aU,Za,Ze,h1,h2,R3.bind]
theorem dU{op:D->Store->R3 D}{M M1 M2:Store}{a:D}(h1:f env M= .ok a M1)(h2:op a M1= .ok d M2):e1 op f env M= .ok d M2:=by simp only[e1,h1,h2,R3.bind]
theorem Zm{g:bU}{M M1 M2:Store}(h1:f env M= .ok d M1)(h2:g env M1= .ok ds M2):Za f g env M= .ok (d::ds) M2:=by simp only[Za,h1,h2,R3.bind]
theorem gk{g:bU}(h:g env M= .ok ds M')(hl:decide (ds.length<=100)=true):bF g env M= .ok (.tup ds) M':=by have:=of_decide_eq_true hl;simp only[bF,h,R3.bind];rw[if_pos (Yv this (by decide))]
theorem vm(h:M[n]?=Ya (.lst xs)):bM [.ref n] M= .ok (.int (xs.length:Int)) M:=by simp only[FN,Kr,RK,xO,h]
theorem F_(h:M[n]?=Ya (.lst xs)):kW [.ref n] M= .ok (.tup xs) M:=by simp only[Zi5,ZiY,Am,h]
variable{i:Int}
theorem jy(h:M[n]?=Ya (.lst xs))(hd:fD xs i=Ya d):Zr (.ref n) (.int i) M= .ok d M:=by simp only[ZkV,RG,RJ,Zlh,h,hd]
theorem tD(hd:fD xs i=Ya d):Zr (.tup xs) (.int i) M= .ok d M:=by simp only[ZkV,RG,RJ,Zlh,hd]
theorem k_{a b:Int}(h:a=b):bL (.int a) (.int b) M= .ok (.bl true) M:=by simp only[bL,Rz,RB,Fz,RD,Kl,decide_eq_true h]
theorem iR{a b:Int}(h:¬a=b):bL (.int a) (.int b) M= .ok (.bl false) M:=by simp only[bL,Rz,RB,Fz,RD,Kl,decide_eq_false h]
theorem dF{j:Int}(h:0<j):aO (.int i) (.int j) M= .ok (.int (i % j)) M:=by simp only[Ry,if_pos h]
theorem Ga{M M1:Store}(h1:f env M= .ok (.bl false) M1):kO f g env M=g env M1:=by simp only[kO,h1,R3.bind]
theorem ZvH{M M1:Store}(h1:f env M= .ok (.bl true) M1):kO f g env M= .ok (.bl true) M1:=by simp only[kO,h1,R3.bind]
theorem Ax{M M1:Store}(h1:f env M= .ok (.bl true) M1):kJ f g env M=g env M1:=by simp only[kJ,h1,R3.bind]
theorem RV{M M1:Store}(h1:f env M= .ok (.bl false) M1):kJ f g env M= .ok (.bl false) M1:=by simp only[kJ,h1,R3.bind]
theorem ZsE{c:E3}{M M1:Store}(h1:c env M= .ok (.bl true) M1):xM c f g env M=f env M1:=by simp only[xM,h1,R3.bind]
theorem Zv7{c:E3}{M M1:Store}(h1:c env M= .ok (.bl false) M1):xM c f g env M=g env M1:=by simp only[xM,h1,R3.bind]
def keysOk(t:List (Int×Int)):Prop:=(t.map (·.1)).Nodup
def RW(cs:List (Int×Int)):Prop:=cs.Pairwise λa b=>a.1<b.1
theorem RW.keys{cs:List (Int×Int)}(h:RW cs):keysOk cs:=by unfold keysOk RW at *;rw[zO,List.pairwise_map];exact h.imp λh=>(λz=>iN [] [_,_] 2 26047746225 T1 z h)
noncomputable def Zra(cs:List (Int×Int))(n v:Int):List (Int×Int):=cs.filter (λc=>decide (c.1<n))++(if v≠0 then[(n,v)]else[])++cs.filter (λc=>decide (n<c.1))
noncomputable def Row.place(bs:List Int)(p:Nat):Row->Nat
 | .jump k=>k|.when a k=>if 0<bs.getD a 0 then k else p+1|_=>p+1
noncomputable def Row.cells(bs:List Int)(cs:List (Int×Int)):Row->List (Int×Int)
 | .set a b=>Zra cs (bs.getD a 0) (bs.getD b 0)|_=>cs
theorem Zp1(kvs:List (a_×D))(k j:a_)(v:D):dD (putD k v kvs) j=if j=k then Ya v else dD kvs j:=by
 have mp:∀l:List (a_×D),dD (l.map λp=>if p.1=k then(p.1,v)else p) j=if j=k then(if l.any (λp=>decide (p.1=k))then Ya v else Yh)else dD l j:=by
  intro l
  induction l with
  |nil=>simp[dD]|cons p l ih=>
   obtain⟨a,b⟩:=p;rw[Y9];by_cases e:a=k
   .subst e;simp only[if_true,dD];by_cases ej:a=j
    .subst ej;simp
    .rw[if_neg ej,ih,if_neg (bW ej),if_neg (bW ej),if_neg ej]
   .simp only[if_neg e,dD];by_cases ej:a=j
    .subst ej;simp[e]
    .rw[if_neg ej,ih,if_neg ej];simp only[xg,decide_eq_false e,Qf]
 have ap:∀l:List (a_×D),¬l.any (λp=>decide (p.1=k))=true->dD (l++[(k,v)]) j=if j=k then Ya v else dD l j:=by
  intro l
  induction l with
  |nil=>intro _;simp only[qj,dD];by_cases e:k=j<;>simp[e,bW,eq_comm]|cons p l ih=>
   intro h;obtain⟨a,b⟩:=p;simp only[xg,uM,decide_eq_true_eq,not_or]at h;simp only[pB,dD];by_cases ej:a=j
   .subst ej;rw[if_pos rfl,if_neg h.1,if_pos rfl]
   .rw[if_neg ej,if_neg ej];exact ih (by simpa using h.2)
 unfold putD;by_cases c:(kvs.any λp=>decide (p.1=k))=true
 .rw[if_pos c,mp,c];simp
 .rw[if_neg c];exact ap kvs c
noncomputable def ZmV(i:Int):List Nat:=(PySem.Str.ofString (toString i)).cps.toList
noncomputable section
local instance (priority:=100000) AfT (p:Prop):Decidable p:=Yr p
noncomputable def Zwh(ds:List D)(M:Store):R3 D:=match ds with
 |[.int i]=>if i.natAbs.log2<1920 then .ok (.str (ZmV i)) M else .bad|[.str x]=>.ok (.str x) M|_=>.bad
@[simp] theorem ZwM:∀i,Zwh ([.int i]) M=(if i.natAbs.log2<1920 then .ok (.str (ZmV i)) M else .bad):=λ_=>rfl
@[simp] theorem Zw2:∀x,Zwh ([.str x]) M= .ok (.str x) M:=λ_=>rfl
noncomputable def ZvK:List D->Option (List (List Nat))
 |[]=>Ya []|.str x::ds=>(ZvK ds).map (x:: ·)|_=>Yh
noncomputable def tE(ds:List D)(M:Store):R3 D:=match ds with
 |[.str x]=>match O2 ⟨x.toArray⟩with
  |some n=>if x.length<=640 then .ok (.int n) M else .bad|none=>.bad
 |ds=>FT ds M
@[simp] theorem ZpR:∀x,tE ([.str x]) M=(match O2 ⟨x.toArray⟩with
  |some n=>if x.length<=640 then .ok (.int n) M else .bad|none=>.bad):=λ_=>rfl
@[simp] theorem ZoU:∀i,tE [.int i] M= .ok (.int i) M:=λ_=>rfl
@[simp] theorem ZpL:∀b,tE [.bl b] M=FT [.bl b] M:=λ_=>rfl
end
noncomputable section
structure Ay where
 items:List D
 lk:List (Nat×List D)
noncomputable def qK(lk:List (Nat×List D))(M:Store):Bool:=lk.all λq=>decide (M[q.1]?=Ya (.lst q.2))
noncomputable def m9(lk:List (Nat×List D))(g:G3)(body:S3):List D->Zo->Store->O3
 |[],env,M=>if qK lk M then .nx env M else .bad|d::ds,env,M=>if qK lk M then match g d env with
  |none=>.bad|some cV=>match body cV M with
   | .nx e M'=>m9 lk g body ds e M'|.ct e M'=>m9 lk g body ds e M'|.bk e M'=>.nx e M'|o=>o
  else .bad
theorem RX{lk:List (Nat×List D)}{g:G3}:m9 lk g body [] env M=if qK lk M then .nx env M else .bad:=rfl
theorem RZ{lk:List (Nat×List D)}{g:G3}:m9 lk g body (d::ds) env M=if qK lk M then match g d env with
  |none=>.bad|some cV=>match body cV M with
   | .nx e M'=>m9 lk g body ds e M'|.ct e M'=>m9 lk g body ds e M'|.bk e M'=>.nx e M'|o=>o
  else .bad:=rfl
noncomputable abbrev xQ:=Zo->Store->R3 Ay
noncomputable def Gb(i:xQ)(g:G3)(body:S3):S3:=λenv M=>match i env M with
 | .ok it M1=>m9 it.lk g body it.items env M1|.exc x M1=>.exc x M1|.bad=>.bad
noncomputable def lX:Nat->List D->List D
 |_,[]=>[]|k,d::ds=>.tup [.int k,d]::lX (k+1) ds
@[simp] noncomputable def R0(f:E3):xQ:=λenv M=>(f env M).bind λa M1=>match a with
 | .tup ds=>.ok ⟨lX 0 ds,[]⟩ M1|.ref n=>match M1[n]? with
  |some (.lst ds)=>.ok ⟨lX 0 ds,[(n,ds)]⟩ M1|_=>.bad
 |_=>.bad
noncomputable def Zvp(a b:D)(M:Store):R3 D:=match a,b with
 | .tup [.int i,.int j],.tup [.int k,.int l]=>.ok (.bl (decide (i<k)|| (decide (i=k)&&decide (j<=l)))) M|_,_=>.bad
@[simp] theorem Zve:∀i j k l,Zvp (.tup [.int i,.int j]) (.tup [.int k,.int l]) M= .ok (.bl (decide (i<k)|| (decide (i=k)&&decide (j<=l)))) M:=λ_ _ _ _=>rfl
noncomputable def Az(ds:List D)(M:Store):R3 D:=match ds with
 |[.int i,.int j]=>.ok (.int (if j>i then j else i)) M|_=>.bad
@[simp] theorem ZpN:∀i j,Az ([.int i,.int j]) M= .ok (.int (if j>i then j else i)) M:=λ_ _=>rfl
theorem R4:∀(k:Nat) (ds:List D) (i:Nat),(lX k ds)[i]?=(ds[i]?).map λd=>.tup [.int ((k+i:Nat):Int),d]
 |_,[],_=>by simp[lX]|k,d::ds,0=>by simp[lX]|k,d::ds,i+1=>by simp only[lX,YL,R4 (k+1) ds i];rw[show k+1+i=k+(i+1)by exact iK (lB 0 0xa1c0c1a0cc0 T1) (lB 0 1790139547840 T1)]
theorem R5:∀(k:Nat) (ds:List D),(lX k ds).length=ds.length
 |_,[]=>rfl|k,d::ds=>by simp[lX,R5 (k+1) ds]
end
noncomputable section
noncomputable def xR:List D->List D->List D
 |a::x,b::y=>.tup [a,b]::xR x y|_,_=>[]
end
noncomputable section
end
noncomputable def tG(f:List Nat)(d:D):List (List Nat×D)->List (List Nat×D)
 |[]=>[(f,d)]|(g,x)::r=>if g=f then(g,d)::r else(g,x)::tG f d r
noncomputable def jz(c f:List Nat)(a:D)(M:Store):R3 D:=match a with
 | .ref n=>match M[n]? with
  |some (.ins c' fs)=>if c'=c then(match fs.lookup f with
   |some d=>.ok d M|none=>.bad)else .bad
  |_=>.bad
 |_=>.bad
@[simp] theorem A_{c:List Nat}{f:List Nat}:∀n,jz c f (.ref n) M=(match M[n]? with
  |some (.ins c' fs)=>if c'=c then(match fs.lookup f with
   |some d=>.ok d M|none=>.bad)else .bad
  |_=>.bad):=λ_=>rfl
noncomputable def KD(c f:List Nat)(v a:D)(M:Store):R3 D:=match a with
 | .ref n=>match M[n]? with
  |some (.ins c' fs)=>if c'=c/\fs.length<1000 then .ok .non (M.set n (.ins c (tG f v fs)))else .bad|_=>.bad
 |_=>.bad
@[simp] theorem R6{c:List Nat}{f:List Nat}{v:D}:∀n,KD c f v (.ref n) M=(match M[n]? with
  |some (.ins c' fs)=>if c'=c/\fs.length<1000 then .ok .non (M.set n (.ins c (tG f v fs)))else .bad|_=>.bad):=λ_=>rfl
noncomputable def xT(c f:List Nat)(o v:E3):S3:=Zw (e2 (KD c f) v o)
noncomputable def tH(c m:List Nat)(a:D)(M:Store):Bool:=match a with
 | .ref n=>match M[n]? with
  |some (.ins c' fs)=>decide (c'=c)&&(fs.lookup m).isNone|_=>false
 |_=>false
@[simp] theorem Zlu{c:List Nat}{m:List Nat}:∀n,tH c m (.ref n) M=(match M[n]? with
  |some (.ins c' fs)=>decide (c'=c)&&(fs.lookup m).isNone|_=>false):=λ_=>rfl
@[simp] noncomputable def bG(c m:List Nat)(F:F3)(o:E3)(g:bU):E3:=λenv M=>(o env M).bind λa M1=>if tH c m a M1 then(g env M1).bind λds M2=>F (a::ds) M2 else .bad
@[simp] noncomputable def Gd(c:List Nat)(F:F3)(g:bU):E3:=λenv M=>(g env M).bind λds M1=>match F (.ref M1.length::ds) (M1++[.ins c []])with
 | .ok .non M2=>.ok (.ref M1.length) M2|_=>.bad
noncomputable section
@[simp] noncomputable def aP(f:E3):E3:=λenv M=>match f env M with
 | .exc _ _=>.bad|r=>r
@[simp] noncomputable def aJ(f:bU):bU:=λenv M=>match f env M with
 | .exc _ _=>.bad|r=>r
noncomputable def gB(f:S3):S3:=λenv M=>match f env M with
 | .exc _ _=>.bad|o=>o
noncomputable def Ba(c:List Nat)(g:bU):S3:=λenv M=>match g env M with
 | .ok [_] M1=>.exc ⟨c,.ref M1.length⟩ (M1++[.ins (0::c) []])|_=>.bad
noncomputable def Bb(cs:List (List Nat))(j:Nat)(b h:S3):S3:=λenv M=>match b env M with
 | .exc x M'=>if cs.contains x.cls then(match h (env.set j (Ya x.arg)) M' with
  | .nx e' M2=>.nx (e'.set j Yh) M2|_=>.bad)else .bad
 |o=>o
noncomputable def lg(yes no:List (List Nat))(d:D)(M:Store):R3 D:=match d with
 | .non=>.ok (.bl false) M|.ref n=>match M[n]? with
  |some (.ins (0::c) _)=>if yes.contains c then .ok (.bl true) M else if no.contains c then .ok (.bl false) M else .bad|_=>.bad
 |_=>.bad
@[simp] theorem ZuN{yes no:List (List Nat)}:lg yes no .non M= .ok (.bl false) M:=rfl
@[simp] theorem R7{yes no:List (List Nat)}:∀n,lg yes no (.ref n) M=(match M[n]? with
  |some (.ins (0::c) _)=>if yes.contains c then .ok (.bl true) M else if no.contains c then .ok (.bl false) M else .bad|_=>.bad):=λ_=>rfl
end
noncomputable section
noncomputable def Ge(i:I3)(g:G3)(body:S3):S3:=λenv M=>match i env M with
 | .ok it M1=>dZ it g body it.items env M1|_=>.bad
end
noncomputable section
noncomputable abbrev KH:=List (List Nat×List (List Nat))
noncomputable def Zx0(f:E3):xQ:=λenv M=>(f env M).bind λa M1=>match a with
 | .ref n=>match M1[n]? with
  |some (.lst ds)=>.ok ⟨lX 1 ds,[(n,ds)]⟩ M1|_=>.bad
 |_=>.bad
noncomputable def Gf(M:Store):D->Option (List D×List (Nat×List D))
 | .tup x=>Ya (x,[])|.ref n=>match M[n]? with
  |some (.lst x)=>Ya (x,[(n,x)])|_=>Yh
 |_=>Yh
end
noncomputable section
noncomputable abbrev tK:=List (List Nat×Int)
noncomputable def qL(x:List Nat):tK->Option Int
 |[]=>Yh|(k,v)::r=>if x=k then Ya v else qL x r
noncomputable def Bc(t:tK)(d e:D)(M:Store):R3 D:=match d with
 | .str x=>match qL x t with
  |some i=>.ok (.int i) M|none=>.ok e M
 | .int _=>.ok e M|_=>.bad
noncomputable def KJ(x y:List D)(M:Store):R3 D:=match pM (xR x y)with
 |some l=>if l.length<=100000 then alloc (.dct (dictOf l)) M else .bad|none=>.bad
noncomputable def Gg(f g:E3):E3:=λenv M=>(f env M).bind λa M1=>(g env M1).bind λb M2=>match Gf M2 a,Gf M2 b with
 |some (x,_),Ya (y,_)=>KJ x y M2|_,_=>.bad
noncomputable def Zx8(a:D)(M:Store):R3 D:=match a with
 | .tup ds=>.ok (.tup ds.reverse) M|_=>.bad
noncomputable def Be:D->Option (Nat×Int)
 | .tup [.ref n,.int i]=>Ya (n,i)|_=>Yh
theorem Zip(h:Be d=Ya (n,i)):d= .tup [.ref n,.int i]:=by
 unfold Be at h;split at h
 .cases h;rfl
 .cases h
noncomputable def KN(x y:List D)(r:Bool)(M:Store):R3 D:=if x.all (cD 50)=true/\y.all (cD 50)=true then .ok (.bl (gj x y&&r)) M else .bad
noncomputable def Gh(a b:D)(M:Store):R3 D:=match Be a,Be b with
 |some (n,i),Ya (m,j)=>match M[n]?,M[m]? with
  |some (.lst x),Ya (.lst y)=>if n=m then .bad else KN x y (i==j) M|_,_=>.bad
 |_,_=>.bad
end
noncomputable section
@[simp] noncomputable def Zvv(d:D):E3:=λ_ M=>.ok d M
noncomputable def vo(o i f:E3):S3:=λenv M=>match f env M with
 | .ok d M1=>gB (Zvc o i (Zvv d)) env M1|.exc x M1=>.exc x M1|.bad=>.bad
noncomputable def xU(o f:E3):E3:=λenv M=>match aP o env M with
 | .ok a M1=>if bI a M1 then(match f env M1 with
  | .ok d M2=>aP (λ_ M=>cj a [d] M) env M2|.exc x M2=>.exc x M2|.bad=>.bad)else .bad
 |_=>.bad
noncomputable def vp(i:I3)(own:Nat)(g:G3)(elt:E3):E3:=λenv M=>match i env M with
 | .ok it M1=>dg it g [] elt M1.length it.items (env++Ye own Yh) (M1++[.lst []])|_=>.bad
noncomputable def xV(cs:List (List Nat))(b h:S3):S3:=λenv M=>match b env M with
 | .exc x M'=>if cs.contains x.cls then(match h env M' with
  | .nx e' M2=>.nx e' M2|_=>.bad)else .bad
 |o=>o
end
noncomputable section
local instance (priority:=100000) AfU (p:Prop):Decidable p:=Yr p
noncomputable def oE(a b:D)(M:Store):R3 D:=match a with
 | .tup ds=>match b with
  | .int k=>match ds with
   |[]=>.bad|x::r=>if r=[]/\2<=k/\k<=1000 then .ok (.tup (Ye k.toNat x)) M else .bad
  |_=>.bad
 |_=>.bad
theorem ZnW:∀x k,oE (.tup [x]) (.int k) M=(if[]=([]:List D)/\2<=k/\k<=1000 then .ok (.tup (Ye k.toNat x)) M else .bad):=λ_ _=>rfl
end
open PySem PySem.Spec PyProof.Rows L2
noncomputable abbrev St:=L2.St
theorem lq:SZ<=Y8:=by rw[rK];decide
def oF(K:Yb)(H:Hp)(a:Ym)(xs:List V):Prop:=
 (∃o,H a=Ya (.fB o (.lst xs)))\/
  ∃(o:aD) (its:Array Yd) (n:Nat),K.lookup a=Ya o/\o.cls= .type "list" /\o.dict=Yh/\o.data= .seq its n/\its.size<=Y8/\Vals xs its.toList
variable{K:Yb}{H:Hp}
theorem oF.sq{a:Ym}{xs:List V}(h:oF K H a xs):cB K H a xs:=by
 rcases h with⟨o,h⟩|h
 .exact .inl (.inr ⟨o,h⟩)
 .exact .inr h
mutual
noncomputable def Rep(K:Yb)(H:Hp)(ι:List Ym):D->V->Prop
 | .non,v=>v= .non|.bl b,v=>v= .bl b|.int i,v=>v= .int i|.str x,v=>v= .str ⟨x.toArray⟩
 | .tup ds,v=>∃a vs,v= .ref a/\cP K H a vs/\Zv K H ι ds vs|.bH ds,v=>∃a vs,v= .ref a/\oF K H a vs/\Zv K H ι ds vs|.ref n,v=>∃a,ι[n]?=Ya a/\v= .ref a
noncomputable def Zv(K:Yb)(H:Hp)(ι:List Ym):List D->List V->Prop
 |[],vs=>vs=[]|d::ds,vs=>∃v ws,vs=v::ws/\Rep K H ι d v/\Zv K H ι ds ws
end
structure Ext(K:Yb)(H:Hp)(ι:List Ym)(H':Hp)(ι':List Ym):Prop where
 tup:∀a xs,cP K H a xs->cP K H' a xs
 bH:∀a xs,oF K H a xs->oF K H' a xs
 pre:∀(n:Nat) (a:Ym),ι[n]?=Ya a->ι'[n]?=Ya a
 fB:∀a o u,H a=Ya (.fB o u)->H' a=Ya (.fB o u)
variable{vs:List V}
section
variable {K:Yb} {H H' H1 H2:Hp} {ι ι' ι1 ι2:List Ym}
theorem Ext.refl:Ext K H ι H ι:=⟨λ_ _ h=>h,λ_ _ h=>h,λ_ _ h=>h,λ_ _ _ h=>h⟩
theorem Ext.trans(a:Ext K H ι H1 ι1)(b:Ext K H1 ι1 H2 ι2):Ext K H ι H2 ι2:=⟨λx xs h=>b.tup x xs (a.tup x xs h),λx xs h=>b.bH x xs (a.bH x xs h),λn x h=>b.pre n x (a.pre n x h),λx o u h=>b.fB x o u (a.fB x o u h)⟩
mutual
theorem Rep.mono(e:Ext K H ι H' ι'):∀{d:D} {v:V},Rep K H ι d v->Rep K H' ι' d v
 | .non,_,h=>h|.bl _,_,h=>h|.int _,_,h=>h|.str _,_,h=>h
 | .tup ds,_,h=>by obtain⟨a,vs,rfl,s,r⟩:=h;exact⟨a,vs,rfl,e.tup _ _ s,Zv.mono e (ds:=ds) r⟩|.bH ds,_,h=>by obtain⟨a,vs,rfl,s,r⟩:=h;exact⟨a,vs,rfl,e.bH _ _ s,Zv.mono e (ds:=ds) r⟩|.ref n,_,h=>by obtain⟨a,s,rfl⟩:=h;exact⟨a,e.pre _ _ s,rfl⟩
theorem Zv.mono(e:Ext K H ι H' ι'):∀{ds:List D} {vs:List V},Zv K H ι ds vs->Zv K H' ι' ds vs
 |[],_,h=>h|d::ds,_,h=>by obtain⟨v,ws,rfl,r,q⟩:=h;exact⟨v,ws,rfl,Rep.mono e (d:=d) r,Zv.mono e (ds:=ds) q⟩
end
mutual
theorem Rep.keep(ht:∀a xs,cP K H a xs->cP K H' a xs)(hs:∀a xs,oF K H a xs->oF K H' a xs):∀{d:D} {v:V},Rep K H ι d v->Rep K H' ι d v
 | .non,_,h=>h|.bl _,_,h=>h|.int _,_,h=>h|.str _,_,h=>h
 | .tup ds,_,h=>by obtain⟨a,vs,rfl,s,r⟩:=h;exact⟨a,vs,rfl,ht _ _ s,Zv.keep ht hs (ds:=ds) r⟩|.bH ds,_,h=>by obtain⟨a,vs,rfl,s,r⟩:=h;exact⟨a,vs,rfl,hs _ _ s,Zv.keep ht hs (ds:=ds) r⟩|.ref n,_,h=>h
theorem Zv.keep(ht:∀a xs,cP K H a xs->cP K H' a xs)(hs:∀a xs,oF K H a xs->oF K H' a xs):∀{ds:List D} {vs:List V},Zv K H ι ds vs->Zv K H' ι ds vs
 |[],_,h=>h|d::ds,_,h=>by obtain⟨v,ws,rfl,r,q⟩:=h;exact⟨v,ws,rfl,Rep.keep ht hs (d:=d) r,Zv.keep ht hs (ds:=ds) q⟩
end
theorem Zv.nil:Zv K H ι [] []:=rfl
theorem Zv.cons{d:D}{ds:List D}{v:V}{vs:List V}(h:Rep K H ι d v)(t:Zv K H ι ds vs):Zv K H ι (d::ds) (v::vs):=⟨v,vs,rfl,h,t⟩
theorem Zv.nil_inv(h:Zv K H ι [] vs):vs=[]:=h
theorem Zv.cons_inv(h:Zv K H ι (d::ds) vs):∃v ws,vs=v::ws/\Rep K H ι d v/\Zv K H ι ds ws:=h
theorem Zv.length:∀{ds:List D} {vs:List V},Zv K H ι ds vs->vs.length=ds.length
 |[],_,h=>by rw[h.nil_inv];rfl|d::ds,_,h=>by obtain⟨v,ws,rfl,_,q⟩:=h.cons_inv;exact congrArg Nat.succ q.length
theorem Zv.append:∀{ds es:List D} {vs ws:List V},Zv K H ι ds vs->Zv K H ι es ws->Zv K H ι (ds++es) (vs++ws)
 |[],_,_,_,h,q=>by rw[h.nil_inv];exact q|d::ds,_,_,_,h,q=>by obtain⟨v,us,rfl,r,t⟩:=h.cons_inv;exact Zv.cons r (t.append q)
theorem Zv.drop:∀{ds:List D} {vs:List V} (n:Nat),Zv K H ι ds vs->Zv K H ι (ds.drop n) (vs.drop n)
 |_,_,0,h=>h|[],_,n+1,h=>by rw[h.nil_inv];exact Zv.nil|d::ds,_,n+1,h=>by obtain⟨v,us,rfl,r,t⟩:=h.cons_inv;exact t.drop n
theorem Zv.take:∀{ds:List D} {vs:List V} (n:Nat),Zv K H ι ds vs->Zv K H ι (ds.take n) (vs.take n)
 |_,_,0,h=>Zv.nil|[],_,n+1,h=>by rw[h.nil_inv];exact Zv.nil|d::ds,_,n+1,h=>by obtain⟨v,us,rfl,r,t⟩:=h.cons_inv;exact Zv.cons r (t.take n)
theorem Zv.get:∀{ds:List D} {vs:List V} {i:Nat} {d:D},Zv K H ι ds vs->ds[i]?=Ya d->∃v,vs[i]?=Ya v/\Rep K H ι d v
 |[],_,_,_,_,e=>by simp at e|d::ds,_,0,_,h,e=>by obtain⟨v,us,rfl,r,t⟩:=h.cons_inv;simp at e;subst e;exact⟨v,rfl,r⟩
 |d::ds,_,i+1,_,h,e=>by obtain⟨v,us,rfl,r,t⟩:=h.cons_inv;obtain⟨w,q,z⟩:=t.get (i:=i) (by simpa using e);exact⟨w,by simpa using q,z⟩
theorem Zv.set:∀{ds:List D} {vs:List V} {d:D} {v:V} (i:Nat),Zv K H ι ds vs->Rep K H ι d v->Zv K H ι (ds.set i d) (vs.set i v)
 |[],_,_,_,_,h,_=>by rw[h.nil_inv];exact Zv.nil|d::ds,_,_,_,0,h,q=>by obtain⟨v,us,rfl,r,t⟩:=h.cons_inv;exact Zv.cons q t
 |d::ds,_,_,_,i+1,h,q=>by obtain⟨v,us,rfl,r,t⟩:=h.cons_inv;exact Zv.cons r (t.set i q)
theorem Zv.ints:∀(ns:List Int),Zv K H ι (ns.map D.int) (ns.map V.int)
 |[]=>Zv.nil|n::ns=>Zv.cons rfl (Zv.ints ns)
theorem Rep.oW{v:V}(h:Rep K H ι .non v):v= .non:=h
theorem Rep.j6{v:V}{b:Bool}(h:Rep K H ι (.bl b) v):v= .bl b:=h
theorem Rep.int_inv{v:V}(h:Rep K H ι (.int i) v):v= .int i:=h
theorem Rep.str_inv{v:V}{x:List Nat}(h:Rep K H ι (.str x) v):v= .str ⟨x.toArray⟩:=h
theorem Rep.jh{v:V}(h:Rep K H ι (.tup ds) v):∃a vs,v= .ref a/\cP K H a vs/\Zv K H ι ds vs:=h
theorem Rep.t7{v:V}(h:Rep K H ι (.bH ds) v):∃a vs,v= .ref a/\oF K H a vs/\Zv K H ι ds vs:=h
theorem Rep.fK{v:V}(h:Rep K H ι (.ref n) v):∃a,ι[n]?=Ya a/\v= .ref a:=h
theorem Rep.non:Rep K H ι .non .non:=rfl
theorem Rep.bl{b:Bool}:Rep K H ι (.bl b) (.bl b):=rfl
theorem Rep.int:Rep K H ι (.int i) (.int i):=rfl
theorem Rep.str{x:List Nat}:Rep K H ι (.str x) (.str ⟨x.toArray⟩):=rfl
theorem Rep.tup{a:Ym}{vs:List V}{ds:List D}(s:cP K H a vs)(r:Zv K H ι ds vs):Rep K H ι (.tup ds) (.ref a):=⟨a,vs,rfl,s,r⟩
theorem Rep.ref{a:Ym}(s:ι[n]?=Ya a):Rep K H ι (.ref n) (.ref a):=⟨a,s,rfl⟩
end
def vz(e C:Ym)(h:au):Prop:=∃o vs,h.get? e=Ya o/\o.cls= .ref C/\o.data= .fields vs
noncomputable abbrev pO(e C:Ym):HO:=.ext (vz e C)
noncomputable def dk:a_->Key
 | .inl i=>.inl i|.inr x=>.inr ⟨x.toArray⟩
def bK(K:Yb)(H:Hp)(ι:List Ym)(kvs:List (a_×D))(ws:List (Key×V)):Prop:=ws.map (·.1)=kvs.map (λp=>dk p.1)/\Zv K H ι (kvs.map (·.2)) (ws.map (·.2))
def fU(K:Yb)(H:Hp)(ι:List Ym)(fs:List (List Nat×D))(gs:List (aj×V)):Prop:=gs.map (·.1)=fs.map (λp=>(⟨p.1.toArray⟩:aj))/\Zv K H ι (fs.map (·.2)) (gs.map (·.2))
def ClsAt(K:Yb)(c:List Nat)(C:Ym):Prop:=Ou K Yy ⟨c.toArray⟩=Ya (Ya (.ref C))
noncomputable def lu(K:Yb)(H:Hp)(ι:List Ym):MO->Ym->Prop
 | .lst xs,a=>∃vs,H a=Ya (.lst vs)/\Zv K H ι xs vs|.dct kvs,a=>∃ws,H a=Ya (.dK ws)/\bK K H ι kvs ws|.dJ kvs,a=>∃ws,(∃o,H a=Ya (.fB o (.dK ws)))/\bK K H ι kvs ws|.ins c fs,a=>(∃C dx gs,H a=Ya (.ins C dx gs)/\(ClsAt K c C/\c.head?≠Ya 0)/\fU K H ι fs gs)\/∃C,H a=Ya (pO a C)/\c.head?=Ya 0/\ClsAt K c.tail C/\fs=[]
structure ao(K:Yb)(H:Hp)(ι:List Ym)(M:Store):Prop where
 len:ι.length=M.length
 nd:ι.Nodup
 obj:∀(n:Nat) o a,M[n]?=Ya o->ι[n]?=Ya a->lu K H ι o a
def Loose(H:Hp)(p:Ym):Prop:=H p=Yh\/(∃vs,H p=Ya (.lst vs))\/(∃ws,H p=Ya (.dK ws))\/∃C dx gs,H p=Ya (.ins C dx gs)
variable{m:MO}
section
variable {K:Yb} {H H':Hp} {ι ι':List Ym} {M:Store} {p:Ym} {o:HO}
theorem Loose.ne{a:Ym}{u:HO}(l:Loose H p)(h:H a=Ya u)(h1:∀vs,u≠ .lst vs)(h2:∀ws,u≠ .dK ws)(h3:∀C dx gs,u≠ .ins C dx gs:=by exactλ_ _ _ z=>nomatch z):a≠p:=by
 rintro rfl;rcases l with l|⟨vs,l⟩|⟨ws,l⟩|⟨C,dx,gs,l⟩
 .rw[h]at l;cases l
 .rw[h]at l;exact h1 vs (gP l)
 .rw[h]at l;exact h2 ws (gP l)
 .rw[h]at l;exact h3 C dx gs (gP l)
theorem Loose.tup(l:Loose H p){a:Ym}{xs:List V}(h:cP K H a xs):cP K (upd H p o) a xs:=by
 rcases h with(h|⟨ob,h⟩)|h
 .exact .inl (.inl (by rw[cW (l.ne h (λ_ z=>nomatch z) (λ_ z=>nomatch z))];exact h))
 .exact .inl (.inr ⟨ob,by rw[cW (l.ne h (λ_ z=>nomatch z) (λ_ z=>nomatch z))];exact h⟩)
 .exact .inr h
theorem Loose.bH(l:Loose H p){a:Ym}{xs:List V}(h:oF K H a xs):oF K (upd H p o) a xs:=by
 rcases h with⟨ob,h⟩|h
 .exact .inl ⟨ob,by rw[cW (l.ne h (λ_ z=>nomatch z) (λ_ z=>nomatch z))];exact h⟩
 .exact .inr h
theorem Loose.fB(l:Loose H p){a:Ym}{ob:aD}{u:HO}(h:H a=Ya (.fB ob u)):upd H p o a=Ya (.fB ob u):=by rw[cW (l.ne h (λ_ z=>nomatch z) (λ_ z=>nomatch z))];exact h
theorem Loose.ext(l:Loose H p):Ext K H ι (upd H p o) ι:=⟨λ_ _ h=>l.tup h,λ_ _ h=>l.bH h,λ_ _ h=>h,λ_ _ _ h=>l.fB h⟩
theorem Loose.Du(l:Loose H p):Ext K H ι (upd H p o) (ι++[p]):=⟨λ_ _ h=>l.tup h,λ_ _ h=>l.bH h,λn a h=>by rw[Yx (Yf.mp h).1];exact h,λ_ _ _ h=>l.fB h⟩
theorem lu.mono{a:Ym}(e:Ext K H ι H' ι')(h:lu K H ι m a)(k:H' a=H a):lu K H' ι' m a:=by
 cases m with
 |lst xs=>obtain⟨vs,q,r⟩:=h;exact⟨vs,k.trans q,r.mono e⟩|dct kvs=>obtain⟨ws,q,r1,r2⟩:=h;exact⟨ws,k.trans q,r1,r2.mono e⟩|dJ kvs=>obtain⟨ws,⟨o,q⟩,r1,r2⟩:=h;exact⟨ws,⟨o,k.trans q⟩,r1,r2.mono e⟩|ins c fs=>
  rcases h with⟨C,dx,gs,q,c,r1,r2⟩|⟨C,q,r⟩
  .exact .inl ⟨C,dx,gs,k.trans q,c,r1,r2.mono e⟩
  .exact .inr ⟨C,k.trans q,r⟩
theorem lu.ne{a:Ym}(h:lu K H ι m a):H a≠Yh:=by
 cases m with
 |lst xs=>obtain⟨vs,q,r⟩:=h;rw[q];simp|dct kvs=>obtain⟨ws,q,r⟩:=h;rw[q];simp|dJ kvs=>obtain⟨ws,⟨o,q⟩,r⟩:=h;rw[q];simp|ins c fs=>rcases h with⟨C,dx,gs,q,r⟩|⟨C,q,r⟩<;>(rw[q];simp)
theorem ao.at(S:ao K H ι M)(h:M[n]?=Ya m):∃a,ι[n]?=Ya a/\lu K H ι m a:=by
 have hn:n<ι.length:=by rw[S.len];exact(Yf.mp h).1
 exact⟨ι[n],by simp[hn],S.obj n m _ h (by simp[hn])⟩
theorem ao.there(S:ao K H ι M){a:Ym}(h:ι[n]?=Ya a):∃m,M[n]?=Ya m/\lu K H ι m a:=by
 have hn:n<M.length:=by rw[←S.len];exact(Yf.mp h).1
 exact⟨M[n],by simp[hn],S.obj n _ _ (by simp[hn]) h⟩
theorem ao.fresh(S:ao K H ι M)(hp:H p=Yh):p∉ι:=λh=>by obtain⟨n,hn⟩:=Py h;obtain⟨m,_,q⟩:=S.there hn;exact q.ne hp
theorem ao.other(S:ao K H ι M)(l:Loose H p)(hp:p∉ι):ao K (upd H p o) ι M:=⟨S.len,S.nd,λn m a h1 h2=>(S.obj n m a h1 h2).mono l.ext (by rw[cW];rintro rfl;exact hp (rQ h2))⟩
theorem ao.new(S:ao K H ι M)(hp:H p=Yh)(h:lu K (upd H p o) (ι++[p]) m p):ao K (upd H p o) (ι++[p]) (M++[m]):=by
 have hf:=S.fresh hp;refine⟨by simp[S.len],?_,λn m' a h1 h2=>?_⟩
 .exact List.nodup_append.mpr ⟨S.nd,by simp,λx hx y hy=>by
   have e:y=p:=by simpa using hy
   subst e;rintro rfl;exact hf hx⟩
 .by_cases hn:n<ι.length
  .rw[Yx hn]at h2;rw[Yx (by rw[←S.len];exact hn)]at h1;refine(S.obj n m' a h1 h2).mono (Loose.Du (.inl hp)) ?_;rw[cW];rintro rfl;exact hf (rQ h2)
  .rw[wY (pD hn)]at h2;rw[wY (by rw[←S.len];exact pD hn)]at h1;have hlt:n-ι.length<1:=by
    have:=(Yf.mp h2).1;simpa using this
   have e0:n-ι.length=0:=iK (lA 1 234922001 T1 hlt) (eG _);rw[e0]at h2;rw[←S.len,e0]at h1;simp at h1 h2;subst h1 h2;exact h
theorem ao.put(S:ao K H ι M)(l0:Loose H p)(hn:ι[n]?=Ya p)(h:lu K (upd H p o) ι m p):ao K (upd H p o) ι (M.set n m):=by
 obtain⟨m0,hm0,q0⟩:=S.there hn;refine⟨by simp[S.len],S.nd,λk m' a h1 h2=>?_⟩;by_cases hk:k=n
 .subst hk;rw[hn]at h2;cases h2;have hlt:k<M.length:=(Yf.mp hm0).1;rw[Y2 hlt]at h1;cases h1;exact h
 .rw[Yj (bW hk)]at h1;refine(S.obj k m' a h1 h2).mono (Loose.ext l0) ?_;rw[cW];rintro rfl;have hlt1:=(Yf.mp h2);have hlt2:=(Yf.mp hn);exact hk ((ZD S.nd).mp (hlt1.2.trans hlt2.2.symm))
theorem ao.lst(S:ao K H ι M)(hp:H p=Yh){xs:List D}{vs:List V}(r:Zv K H ι xs vs):Ext K H ι (upd H p (.lst vs)) (ι++[p])/\ao K (upd H p (.lst vs)) (ι++[p]) (M++[.lst xs])/\Rep K (upd H p (.lst vs)) (ι++[p]) (.ref M.length) (.ref p):=by have e:Ext K H ι (upd H p (.lst vs)) (ι++[p]):=Loose.Du (.inl hp);refine⟨e,S.new hp ⟨vs,mO,r.mono e⟩,Rep.ref ?_⟩;rw[←S.len];simp
theorem ao.uh(S:ao K H ι M)(hp:H p=Yh)(r:Zv K H ι xs vs):Ext K H ι (upd H p (.tup vs)) ι/\ao K (upd H p (.tup vs)) ι M/\Rep K (upd H p (.tup vs)) ι (.tup xs) (.ref p):=by have e:Ext K H ι (upd H p (.tup vs)) ι:=Loose.ext (.inl hp);exact⟨e,S.other (.inl hp) (S.fresh hp),Rep.tup (cP.of mO) (r.mono e)⟩
theorem ao.Dv(S:ao K H ι M)(l0:Loose H p)(hn:ι[n]?=Ya p)(r:Zv K H ι xs vs):Ext K H ι (upd H p (.lst vs)) ι/\ao K (upd H p (.lst vs)) ι (M.set n (.lst xs)):=by have e:Ext K H ι (upd H p (.lst vs)) ι:=Loose.ext l0;exact⟨e,S.put l0 hn ⟨vs,mO,r.mono e⟩⟩
end
def aY(K:Yb)(H:Hp)(ι:List Ym)(env:Zo)(σ:St):Prop:=env.length=σ.length/\∀(i:Nat) d,env[i]?=Ya (Ya d)->∃v,σ[i]?=Ya (Ya v)/\Rep K H ι d v
variable{ι:List Ym}{σ:St}
theorem aY.mono{H':Hp}{ι':List Ym}(r:aY K H ι env σ)(e:Ext K H ι H' ι'):aY K H' ι' env σ:=⟨r.1,λi d h=>let⟨v,q,z⟩:=r.2 i d h;⟨v,q,z.mono e⟩⟩
theorem aY.set{v:V}(r:aY K H ι env σ)(i:Nat)(h:Rep K H ι d v):aY K H ι (env.set i (Ya d)) (σ.set i (Ya v)):=by
 refine⟨by simp[r.1],λj e hj=>?_⟩;by_cases hij:j=i
 .subst hij;have hlt:j<env.length:=by
   have:=(Yf.mp hj).1;simpa using this
  rw[Y2 hlt]at hj;cases hj;exact⟨v,by rw[Y2 (by rw[←r.1];exact hlt)],h⟩
 .rw[Yj (bW hij)]at hj;obtain⟨w,q,z⟩:=r.2 j e hj;exact⟨w,by rw[Yj (bW hij)];exact q,z⟩
def Zy(K:Yb)(H:Hp)(ι:List Ym)(Q:VK)(r:R3 D):Prop:=match r with
 | .ok d M'=>∀v H' ι',Ext K H ι H' ι'->ao K H' ι' M'->Rep K H' ι' d v->Q v H'|_=>False
inductive TOf(K:Yb)(f:E3)(σ:St)(H:Hp)(Q:VK):Prop where
 |mk (ι:List Ym) (M:Store) (env:Zo) (S:ao K H ι M) (E:aY K H ι env σ) (h:Zy K H ι Q (f env M)):TOf K f σ H Q
def lY(K:Yb)(f:E3):TE:=λσ H Q=>TOf K f σ H Q
def pP(K:Yb)(H:Hp)(ι:List Ym)(Q:Bool->Hp->Prop)(r:R3 D):Prop:=match r with
 | .ok (.bl b) M'=>∀H' ι',Ext K H ι H' ι'->ao K H' ι' M'->Q b H'|_=>False
inductive TTf(K:Yb)(f:E3)(σ:St)(H:Hp)(Q:Bool->Hp->Prop):Prop where
 |mk (ι:List Ym) (M:Store) (env:Zo) (S:ao K H ι M) (E:aY K H ι env σ) (h:pP K H ι Q (f env M)):TTf K f σ H Q
def tTf(K:Yb)(f:E3):TT:=λσ H Q=>TTf K f σ H Q
def Bf(K:Yb)(H:Hp)(ι:List Ym)(Q:List V->Hp->Prop)(r:R3 (List D)):Prop:=match r with
 | .ok ds M'=>∀vs H' ι',Ext K H ι H' ι'->ao K H' ι' M'->Zv K H' ι' ds vs->Q vs H'|_=>False
inductive TAf(K:Yb)(f:bU)(σ:St)(H:Hp)(Q:List V->Hp->Prop):Prop where
 |mk (ι:List Ym) (M:Store) (env:Zo) (S:ao K H ι M) (E:aY K H ι env σ) (h:Bf K H ι Q (f env M)):TAf K f σ H Q
def R8(K:Yb)(f:bU):TA:=λσ H Q=>TAf K f σ H Q
def Gi(K:Yb)(H:Hp)(ι:List Ym)(Q:Option Int->Hp->Prop)(r:R3 (Option Int)):Prop:=match r with
 | .ok o M'=>∀H' ι',Ext K H ι H' ι'->ao K H' ι' M'->Q o H'|_=>False
def tOo(K:Yb)(f:Ak):TO:=λσ H Q=>∃ι M env,ao K H ι M/\aY K H ι env σ/\Gi K H ι Q (f env M)
def jA(K:Yb)(H:Hp)(ι:List Ym)(E:Ends)(r:O3):Prop:=match r with
 | .nx env' M'=>∀σ' H' ι',Ext K H ι H' ι'->ao K H' ι' M'->aY K H' ι' env' σ'->E.nx σ' H'|.bk env' M'=>∀σ' H' ι',Ext K H ι H' ι'->ao K H' ι' M'->aY K H' ι' env' σ'->E.bk σ' H'|.ct env' M'=>∀σ' H' ι',Ext K H ι H' ι'->ao K H' ι' M'->aY K H' ι' env' σ'->E.ct σ' H'|.rt d M'=>∀v H' ι',Ext K H ι H' ι'->ao K H' ι' M'->Rep K H' ι' d v->E.rt v H'
 |_=>False
inductive TSf(K:Yb)(f:S3)(D:Ends)(σ:St)(H:Hp):Prop where
 |mk (ι:List Ym) (M:Store) (env:Zo) (S:ao K H ι M) (E:aY K H ι env σ) (h:jA K H ι D (f env M)):TSf K f D σ H
def tSf(K:Yb)(f:S3):TS:=λE σ H=>TSf K f E σ H
def C3(X:Cx)(e:Expr)(f:E3):Prop:=PE X e (lY X.K f)
def CT(X:Cx)(e:Expr)(f:E3):Prop:=PT X e (tTf X.K f)
def CA(X:Cx)(es:List Expr)(f:bU):Prop:=PA X es (R8 X.K f)
def CO(X:Cx)(e:Option Expr)(f:Ak):Prop:=PO X e (tOo X.K f)
def CS(X:Cx)(st:Yc6)(f:S3):Prop:=PS X st (tSf X.K f)
def lz(X:Cx)(st:List Yc6)(f:S3):Prop:=ji X st (tSf X.K f)
variable{e:Expr}{X:Cx}
theorem _root_.L2.PE.imp{t t':TE}(h:PE X e t)(i:∀σ H Q,t' σ H Q->t σ H Q):PE X e t':=λpins s σ H Q I q=>h pins s σ H Q I (i σ H Q q)
theorem _root_.L2.PT.imp{t t':TT}(h:PT X e t)(i:∀σ H Q,t' σ H Q->t σ H Q):PT X e t':=λpins s σ H Q I q=>h pins s σ H Q I (i σ H Q q)
theorem _root_.L2.PA.imp{e:List Expr}{t t':TA}(h:PA X e t)(i:∀σ H Q,t' σ H Q->t σ H Q):PA X e t':=λpos pins s σ H Q I q=>h pos pins s σ H Q I (i σ H Q q)
theorem _root_.L2.PO.imp{e:Option Expr}{t t':TO}(h:PO X e t)(i:∀σ H Q,t' σ H Q->t σ H Q):PO X e t':=λpins s σ H Q I q=>h pins s σ H Q I (i σ H Q q)
theorem _root_.L2.PS.imp{e:Yc6}{t t':TS}(h:PS X e t)(i:∀D σ H,t' D σ H->t D σ H):PS X e t':=λpins s σ H D I q=>h pins s σ H D I (i D σ H q)
theorem _root_.L2.ji.imp{e:List Yc6}{t t':TS}(h:ji X e t)(i:∀D σ H,t' D σ H->t D σ H):ji X e t':=λpins s σ H D I q=>h pins s σ H D I (i D σ H q)
theorem _root_.L2.aX.imp{f:Yd->Yd->kh Yd}{r r':R2}(h:aX X f r)(i:∀x y H Q,r' x y H Q->r x y H Q):aX X f r':=λpins s σ H x y v u Q I rx ry q=>h pins s σ H x y v u Q I rx ry (i x y H Q q)
theorem _root_.L2.sU.imp{f:Yd->kh Yd}{r r':V->Hp->VK->Prop}(h:sU X f r)(i:∀x H Q,r' x H Q->r x H Q):sU X f r':=λpins s σ H x v Q I rx q=>h pins s σ H x v Q I rx (i x H Q q)
theorem _root_.L2.aZ.imp{f:Yd}{r r':List V->Hp->VK->Prop}(h:aZ X f r)(i:∀x H Q,r' x H Q->r x H Q):aZ X f r':=λpins s σ H xs us Q I rx q=>h pins s σ H xs us Q I rx (i xs H Q q)
theorem _root_.L2.kE.imp{r r':R2}(h:kE X r)(i:∀x y H Q,r' x y H Q->r x y H Q):kE X r':=λvalue slice pins s σ H x y v u Q I rx ry q hs=>h value slice pins s σ H x y v u Q I rx ry (i x y H Q q) hs
theorem _root_.L2.jj.imp{r r':V->Option Int->Option Int->Hp->VK->Prop}(h:jj X r)(i:∀x lo hi H Q,r' x lo hi H Q->r x lo hi H Q):jj X r':=λpins s σ H x v vl vu lo hi sl Q I rx hs pl pu q=>h pins s σ H x v vl vu lo hi sl Q I rx hs pl pu (i x lo hi H Q q)
variable{Q:VK}
section
variable {K:Yb} {H H1:Hp} {ι ι1:List Ym}
theorem Zy.up{r:R3 D}(e:Ext K H ι H1 ι1)(h:Zy K H ι Q r):Zy K H1 ι1 Q r:=by
 cases r with
 |ok d M=>exactλv H' ι' e' S r=>h v H' ι' (e.trans e') S r|exc x M=>exact h|bad=>exact h
theorem pP.up{Q:Bool->Hp->Prop}{r:R3 D}(e:Ext K H ι H1 ι1)(h:pP K H ι Q r):pP K H1 ι1 Q r:=by
 cases r with
 |ok d M=>cases d<;>first|exact h|exactλH' ι' e' S=>h H' ι' (e.trans e') S
 |exc x M=>exact h|bad=>exact h
theorem jA.up{Q:Ends}{r:O3}(e:Ext K H ι H1 ι1)(h:jA K H ι Q r):jA K H1 ι1 Q r:=by
 cases r with
 |nx d M=>exactλv H' ι' e' S r=>h v H' ι' (e.trans e') S r|bk d M=>exactλv H' ι' e' S r=>h v H' ι' (e.trans e') S r|ct d M=>exactλv H' ι' e' S r=>h v H' ι' (e.trans e') S r|rt d M=>exactλv H' ι' e' S r=>h v H' ι' (e.trans e') S r
 |exc x M=>exact h|bad=>exact h
theorem Zy.ok{v:V}(h:Zy K H ι Q (.ok d M))(S:ao K H ι M)(r:Rep K H ι d v):Q v H:=h v H ι Ext.refl S r
theorem Zy.bind{r:R3 α}{k:α->Store->R3 D}(h:Zy K H ι Q (r.bind k)):∃a M,r= .ok a M/\Zy K H ι Q (k a M):=by
 cases r with
 |ok a M=>exact⟨a,M,rfl,h⟩|exc x M=>exact h.elim|bad=>exact h.elim
theorem Bf.bind{Q:List V->Hp->Prop}{r:R3 α}{k:α->Store->R3 (List D)}(h:Bf K H ι Q (r.bind k)):∃a M,r= .ok a M/\Bf K H ι Q (k a M):=by
 cases r with
 |ok a M=>exact⟨a,M,rfl,h⟩|exc x M=>exact h.elim|bad=>exact h.elim
theorem Gi.bind{Q:Option Int->Hp->Prop}{r:R3 α}{k:α->Store->R3 (Option Int)}(h:Gi K H ι Q (r.bind k)):∃a M,r= .ok a M/\Gi K H ι Q (k a M):=by
 cases r with
 |ok a M=>exact⟨a,M,rfl,h⟩|exc x M=>exact h.elim|bad=>exact h.elim
theorem pP.bind{Q:Bool->Hp->Prop}{r:R3 α}{k:α->Store->R3 D}(h:pP K H ι Q (r.bind k)):∃a M,r= .ok a M/\pP K H ι Q (k a M):=by
 cases r with
 |ok a M=>exact⟨a,M,rfl,h⟩|exc x M=>exact h.elim|bad=>exact h.elim
end
inductive R2I(K:Yb)(op:D->D->Store->R3 D)(x y:V)(H:Hp)(Q:VK):Prop where
 |mk (ι:List Ym) (M:Store) (a b:D) (S:ao K H ι M) (ra:Rep K H ι a x) (rb:Rep K H ι b y) (h:Zy K H ι Q (op a b M)):R2I K op x y H Q
def r2(K:Yb)(op:D->D->Store->R3 D):R2:=λx y H Q=>R2I K op x y H Q
noncomputable def r1(K:Yb)(op:D->Store->R3 D):V->Hp->VK->Prop:=λx H Q=>∃ι M a,ao K H ι M/\Rep K H ι a x/\Zy K H ι Q (op a M)
inductive RBI(K:Yb)(b:List D->Store->R3 D)(xs:List V)(H:Hp)(Q:VK):Prop where
 |mk (ι:List Ym) (M:Store) (ds:List D) (S:ao K H ι M) (r:Zv K H ι ds xs) (h:Zy K H ι Q (b ds M)):RBI K b xs H Q
noncomputable def rB(K:Yb)(b:List D->Store->R3 D):List V->Hp->VK->Prop:=λxs H Q=>RBI K b xs H Q
noncomputable def rM(K:Yb)(m:D->List D->Store->R3 D):V->List V->Hp->VK->Prop:=λx xs H Q=>∃ι M a ds,ao K H ι M/\Rep K H ι a x/\Zv K H ι ds xs/\Zy K H ι Q (m a ds M)
noncomputable def rS(K:Yb):V->Option Int->Option Int->Hp->VK->Prop:=λx lo hi H Q=>∃ι M a,ao K H ι M/\Rep K H ι a x/\Zy K H ι Q (Al a lo hi M)
theorem KQ{op:D->D->Store->R3 D}(σ:St)(H:Hp)(Q:VK)(h:lY K (e2 op f g) σ H Q):Ft (r2 K op) (lY K f) (lY K g) σ H Q:=by obtain⟨ι,M,env,S,E,h⟩:=h;obtain⟨a,M1,e1,h⟩:=Zy.bind h;obtain⟨b,M2,e2,h⟩:=Zy.bind h;refine⟨ι,M,env,S,E,?_⟩;rw[e1];intro v H1 ι1 x1 S1 r1;refine⟨ι1,M1,env,S1,E.mono x1,?_⟩;rw[e2];intro u H2 ι2 x2 S2 r2;exact⟨ι2,M2,a,b,S2,r1.mono x2,r2,(h.up x1).up x2⟩
theorem Zuq{op:D->Store->R3 D}(σ:St)(H:Hp)(Q:VK)(h:lY K (e1 op f) σ H Q):tUn (r1 K op) (lY K f) σ H Q:=by obtain⟨ι,M,env,S,E,h⟩:=h;obtain⟨a,M1,e1,h⟩:=Zy.bind h;refine⟨ι,M,env,S,E,?_⟩;rw[e1];intro v H1 ι1 x1 S1 r1;exact⟨ι1,M1,a,S1,r1,h.up x1⟩
variable{u:Yd}
section
variable {X:Cx} {a b c e o:Expr} {es:List Expr} {pos p:aM} {f g h:E3} {gl:bU}
theorem Zd(i:Nat){x:aj}(hN:X.N[i]?=Ya x:=by rfl)(hv:JW X.env.scope x:=by first|exact Or.inl rfl|exact Or.inr (Or.inl rfl)|exact Or.inr (Or.inr rfl))(hd:(x==("__debug__":aj))=false:=by decide)(hcd:(x==("__classdict__":aj))=false:=by decide):C3 X (.Name x pos) (Zc i):=(ZtM hN hv hd hcd).imp λσ H Q ak=>by
 obtain⟨ι,M,env,S,E,h⟩:=ak;unfold Zc at h;cases q:env[i]? with
 |none=>rw[q]at h;exact h.elim|some od=>
  cases od with
  |none=>rw[q]at h;exact h.elim|some d=>rw[q]at h;obtain⟨v,e1,r⟩:=E.2 i d q;exact⟨v,e1,Zy.ok h S r⟩
theorem Zi{i j}:C3 X (.Constant (.int i) j pos) (eC (.int i)):=ZuG.imp λσ H Q ⟨ι,M,env,S,E,h⟩=>Zy.ok h S Rep.int
theorem vA{i j}:C3 X (.Constant (.bool i) j pos) (eC (.bl i)):=Zv8.imp λσ H Q ⟨ι,M,env,S,E,h⟩=>Zy.ok h S Rep.bl
theorem vB{j}:C3 X (.Constant .none j pos) (eC .non):=Zub.imp λσ H Q ⟨ι,M,env,S,E,h⟩=>Zy.ok h S Rep.non
theorem fc{x:aj}{cs:List Nat}{j}(hx:x=⟨cs.toArray⟩:=by decide +kernel):C3 X (.Constant (.str x) j pos) (eC (.str cs)):=ZtT.imp λσ H Q ak=>by obtain⟨ι,M,env,S,E,h⟩:=ak;subst hx;exact Zy.ok h S Rep.str
theorem Zur{x:aj}{v:V}(hm:X.mg x=Ya u)(r:RelV v u)(hr:∀H ι,Rep X.K H ι d v)(hg:Gl X x:=by rfl)(hd:(x==("__debug__":aj))=false:=by decide):C3 X (.Name x pos) (eC d):=(QW hg hm r hd).imp λσ H Q ⟨ι,M,env,S,E,h⟩=>Zy.ok h S (hr H ι)
theorem Zt{op:Operator}{q:D->D->Store->R3 D}(ho:aX X (gO op) (r2 X.K q))(ha:C3 X a f)(hb:C3 X b g):C3 X (.BinOp a op b pos) (e2 q f g):=(Zvb ho ha hb).imp KQ
theorem vC{op:UnaryOp}{q:D->Store->R3 D}(ho:sU X (Jf op) (r1 X.K q))(ha:C3 X a f):C3 X (.UnaryOp op a pos) (e1 q f):=(Zwp ho ha).imp Zuq
theorem Gj{op:CmpOp}{q:D->D->Store->R3 D}(ho:aX X (j8 op) (r2 X.K q))(ha:C3 X a f)(hb:C3 X b g)(hm:Ja op b=false:=by rfl):C3 X (.Compare a [op] [b] pos) (e2 q f g):=(ZrV ho ha hb hm).imp KQ
theorem Zi2{Q:Bool->Hp->Prop}{r:R3 D}(h:pP K H ι Q r):Zy K H ι (λx H'=>∃k,x= .bl k/\Q k H') r:=by
 cases r with
 |ok d M=>
  cases d with
  |bl b=>exactλv H' ι' e S r=>⟨b,r.j6,h H' ι' e S⟩|_=>exact h.elim
 |exc x M=>exact h.elim|bad=>exact h.elim
theorem tL(h:C3 X e f)(he:∀whole,isTrue e X.env whole=(do let v ←whole;zu e.pos;zx [v] (truthy v)):=by intro _;rfl):CT X e f:=(QX h he).imp λσ H Q ⟨ι,M,env,S,E,h⟩=>⟨ι,M,env,S,E,Zi2 h⟩
theorem cR{op:CmpOp}{q:D->D->Store->R3 D}(ho:aX X (j8 op) (r2 X.K q))(ha:C3 X a f)(hb:C3 X b g)(hm:Ja op b=false:=by rfl):CT X (.Compare a [op] [b] pos) (e2 q f g):=(Zrl ho ha hb hm).imp λσ H Q ⟨ι,M,env,S,E,h⟩=>KQ σ H _ ⟨ι,M,env,S,E,Zi2 h⟩
end
variable{q:List D->Store->R3 D}
section
variable {X:Cx} {a b c e o:Expr} {es rest:List Expr} {pos p:aM} {f g h:E3} {gl:bU}
theorem ZvL{op}(h:C3 X a f):C3 X (.BoolOp op [a] pos) f:=ZtA h
theorem Zwq(ha:C3 X a f)(hb:C3 X (.BoolOp .And (b::rest) pos) g):C3 X (.BoolOp .And (a::b::rest) pos) (kJ f g):=(ZsW ha hb).imp λσ H Q ak=>by
 obtain⟨ι,M,env,S,E,h⟩:=ak;obtain⟨d,M1,e1,h⟩:=Zy.bind h;refine⟨ι,M,env,S,E,?_⟩;rw[e1];intro v H1 ι1 x1 S1 r1;cases d with
 |bl k=>
  refine⟨k,r1.j6,?_⟩;cases k with
  |true=>rw[if_pos rfl];exact⟨ι1,M1,env,S1,E.mono x1,h.up x1⟩|false=>rw[if_neg (by decide)];exact Zy.ok (h.up x1) S1 Rep.bl
 |_=>exact h.elim
def CW(X:Cx)(e:Expr)(f:E3):Prop:=PW X e (tTf X.K f)
theorem CW.ct(h:CW X e f):CT X e f:=PW.pt h
theorem PW.imp{t t':TT}(h:PW X e t)(i:∀σ H Q,t' σ H Q->t σ H Q):PW X e t':=λwh pins s σ H Q I q=>h wh pins s σ H Q I (i σ H Q q)
theorem R9(ha:CT X a f):CW X (.BoolOp .And [a] pos) f:=ZrG ha
theorem KR(ha:CT X a f):CW X (.BoolOp .Or [a] pos) f:=ZtR ha
theorem R_(ha:CT X a f)(hb:CW X (.BoolOp .And (b::rest) pos) g):CW X (.BoolOp .And (a::b::rest) pos) (kJ f g):=PW.imp (ZtQ ha hb) λσ H Q ak=>by
 obtain⟨ι,M,env,S,E,h⟩:=ak;obtain⟨d,M1,e1,h⟩:=pP.bind h;refine⟨ι,M,env,S,E,?_⟩;rw[e1];cases d with
 |bl k=>
  intro H1 ι1 x1 S1;cases k with
  |true=>rw[if_pos rfl];exact⟨ι1,M1,env,S1,E.mono x1,h.up x1⟩|false=>rw[if_neg (by decide)];exact h H1 ι1 x1 S1
 |_=>exact h.elim
theorem Gk(ha:CT X a f)(hb:CW X (.BoolOp .Or (b::rest) pos) g):CW X (.BoolOp .Or (a::b::rest) pos) (kO f g):=PW.imp (Zv9 ha hb) λσ H Q ak=>by
 obtain⟨ι,M,env,S,E,h⟩:=ak;obtain⟨d,M1,e1,h⟩:=pP.bind h;refine⟨ι,M,env,S,E,?_⟩;rw[e1];cases d with
 |bl k=>
  intro H1 ι1 x1 S1;cases k with
  |false=>rw[if_neg (by decide)];exact⟨ι1,M1,env,S1,E.mono x1,h.up x1⟩|true=>rw[if_pos rfl];exact h H1 ι1 x1 S1
 |_=>exact h.elim
theorem Bg(ha:CT X a f):CT X (.UnaryOp .Not a pos) (e1 mV f):=(Ztl ha).imp λσ H Q ak=>by
 obtain⟨ι,M,env,S,E,h⟩:=ak;obtain⟨d,M1,e1,h⟩:=pP.bind h;refine⟨ι,M,env,S,E,?_⟩;rw[e1];cases d with
 |bl k=>exactλH1 ι1 x1 S1=>h H1 ι1 x1 S1|_=>exact h.elim
theorem Zv1(hc:CT X c f)(ha:C3 X a g)(hb:C3 X b h):C3 X (.IfExp c a b pos) (xM f g h):=(Zpx hc ha hb).imp λσ H Q ak=>by
 obtain⟨ι,M,env,S,E,h⟩:=ak;obtain⟨d,M1,e1,h⟩:=Zy.bind h;refine⟨ι,M,env,S,E,?_⟩;rw[e1];cases d with
 |bl k=>
  intro H1 ι1 x1 S1;cases k with
  |true=>rw[if_pos rfl];exact⟨ι1,M1,env,S1,E.mono x1,h.up x1⟩|false=>rw[if_neg (by decide)];exact⟨ι1,M1,env,S1,E.mono x1,h.up x1⟩
 |_=>exact h.elim
theorem Zf:CA X [] Ze:=J8.imp λσ H Q ⟨ι,M,env,S,E,h⟩=>h [] H ι Ext.refl S Zv.nil
theorem Zb(ha:C3 X e f)(hr:CA X es gl)(hs:Yq (e::es) X.env=(false,aG e X.env)::Yq es X.env:=by rfl):CA X (e::es) (Za f gl):=(Ad ha hr hs).imp λσ H Q ak=>by obtain⟨ι,M,env,S,E,h⟩:=ak;obtain⟨d,M1,e1,h⟩:=Bf.bind h;obtain⟨ds,M2,e2,h⟩:=Bf.bind h;refine⟨ι,M,env,S,E,?_⟩;rw[e1];intro v H1 ι1 x1 S1 r1;refine⟨ι1,M1,env,S1,E.mono x1,?_⟩;rw[e2];intro vs H2 ι2 x2 S2 r2;exact h (v::vs) H2 ι2 (x1.trans x2) S2 (Zv.cons (r1.mono x2) r2)
theorem gm{x1}(h:CA X es gl):C3 X (.Tuple es x1 pos) (bF gl):=(Zth h).imp λσ H Q ak=>by
 obtain⟨ι,M,env,S,E,h⟩:=ak;obtain⟨ds,M1,e1,h⟩:=Zy.bind h;refine⟨ι,M,env,S,E,?_⟩;rw[e1];intro vs H1 ι1 x1 S1 r1;by_cases hz:ds.length<=SZ
 .rw[if_pos hz]at h;refine⟨by rw[r1.length];exact Yv hz lq,λp hp=>?_⟩;obtain⟨x2,S2,r2⟩:=S1.uh hp r1;exact h _ _ _ (x1.trans x2) S2 r2
 .rw[if_neg hz]at h;exact h.elim
theorem iT(h:CA X es gl):C3 X (.List es pos) (cg gl):=(ZuE h).imp λσ H Q ak=>by
 obtain⟨ι,M,env,S,E,h⟩:=ak;obtain⟨ds,M1,e1,h⟩:=Zy.bind h;refine⟨ι,M,env,S,E,?_⟩;rw[e1];intro vs H1 ι1 x1 S1 r1;by_cases hz:ds.length<=SZ
 .rw[if_pos hz]at h;refine⟨by rw[r1.length];exact Yv hz lq,λp hp=>?_⟩;obtain⟨x2,S2,r2⟩:=S1.lst hp r1;exact h _ _ _ (x1.trans x2) S2 r2
 .rw[if_neg hz]at h;exact h.elim
theorem ZpY(σ:St)(H:Hp)(Q:VK)(h:lY K (aU q gl) σ H Q):Rb (rB K q) (R8 K gl) σ H Q:=by obtain⟨ι,M,env,S,E,h⟩:=h;obtain⟨ds,M1,e1,h⟩:=Zy.bind h;refine⟨ι,M,env,S,E,?_⟩;rw[e1];intro vs H1 ι1 x1 S1 r1;exact⟨ι1,M1,ds,S1,r1,h.up x1⟩
theorem iD{x:aj}{id:String}(hc:aZ X (.builtin id) (rB X.K q))(hm:X.mg x=Yh)(hv:i_ x=Ya (.builtin id))(ha:CA X (e::es) gl)(hg:Gl X x:=by rfl)(hn:x≠ "__name__":=by decide)(hdb:(x==("__debug__":aj))=false:=by decide)(he:Yq (e::es) X.env=(false,aG e X.env)::Yq es X.env:=by rfl)(hpl:(dm pos (Yq es X.env)).any (·.1)=false:=by rfl):C3 X (.Call (.Name x p) (e::es) [] pos) (aU q gl):=(Rc hc hg hm hv ha hn hdb he hpl).imp ZpY
theorem tM{x:aj}{T:String}(hc:aZ X (.type T) (rB X.K q))(hm:X.mg x=Yh)(hv:i_ x=Ya (.type T))(ha:CA X (e::es) gl)(hg:Gl X x:=by rfl)(hn:x≠ "__name__":=by decide)(hdb:(x==("__debug__":aj))=false:=by decide)(he:Yq (e::es) X.env=(false,aG e X.env)::Yq es X.env:=by rfl)(hpl:(dm pos (Yq es X.env)).any (·.1)=false:=by rfl):C3 X (.Call (.Name x p) (e::es) [] pos) (aU q gl):=(Zop hc hg hm hv ha hn hdb he hpl).imp ZpY
theorem bA(hr:kE X (r2 X.K Zr))(ha:C3 X a f)(hb:C3 X b g)(hs:Zm9 b:=by exactλ_ _=>rfl):C3 X (.Subscript a b pos) (e2 Zr f g):=(ZvS hr ha hb hs).imp KQ
theorem Gm:CO X Yh mZ:=Zrn.imp λσ H Q ⟨ι,M,env,S,E,h⟩=>h H ι Ext.refl S
theorem Gn(h:C3 X e f):CO X (Ya e) (m5 f):=(ZrD h).imp λσ H Q ak=>by
 obtain⟨ι,M,env,S,E,h⟩:=ak;obtain⟨d,M1,e1,h⟩:=Gi.bind h;refine⟨ι,M,env,S,E,?_⟩;rw[e1];intro v H1 ι1 x1 S1 r1;cases d with
 |int i=>exact⟨i,r1.int_inv,h H1 ι1 x1 S1⟩|_=>exact h.elim
theorem Gp{lo hi:Option Expr}{ol oh:Ak}{p2:aM}(hr:jj X (rS X.K))(he:C3 X e f)(hl:CO X lo ol)(hu:CO X hi oh):C3 X (.Subscript e (.Slice lo hi Yh p2) pos) (m7 f ol oh):=(ZpH hr he hl hu).imp λσ H Q ak=>by obtain⟨ι,M,env,S,E,h⟩:=ak;obtain⟨d,M1,e1,h⟩:=Zy.bind h;obtain⟨l,M2,e2,h⟩:=Zy.bind h;obtain⟨u,M3,e3,h⟩:=Zy.bind h;refine⟨ι,M,env,S,E,?_⟩;rw[e1];intro v H1 ι1 x1 S1 r1;refine⟨ι1,M1,env,S1,E.mono x1,?_⟩;rw[e2];intro H2 ι2 x2 S2;refine⟨ι2,M2,env,S2,(E.mono x1).mono x2,?_⟩;rw[e3];intro H3 ι3 x3 S3;exact⟨ι3,M3,d,S3,(r1.mono x2).mono x3,((h.up x1).up x2).up x3⟩
theorem jn:lz X [] fQ:=Zq9.imp λD σ H ⟨ι,M,env,S,E,h⟩=>h σ H ι Ext.refl S E
theorem Zx{st:Yc6}{u:S3}(h:CS X st u):lz X [st] u:=ZmS h
theorem Zn{st:Yc6}{sts:List Yc6}{u w:S3}(h1:CS X st u)(h2:lz X sts w):lz X (st::sts) (aq u w):=(Zku h1 h2).imp λD σ H ak=>by
 obtain⟨ι,M,env,S,E,h⟩:=ak;refine⟨ι,M,env,S,E,?_⟩;have h':jA X.K H ι D (match u env M with| .nx env' M'=>w env' M'|o=>o):=h;cases q:u env M with
 |nx env' M'=>rw[q]at h';exactλσ' H' ι' x S' E'=>⟨ι',M',env',S',E',h'.up x⟩|_=>rw[q]at h';exact h'
theorem gU{c1:Expr}{x y:List Yc6}{u w:S3}(hc:CT X c1 f)(ha:lz X x u)(hb:lz X y w):CS X (.If c1 x y pos) (aV f u w):=(Q0 hc ha hb).imp λD σ H ak=>by
 obtain⟨ι,M,env,S,E,h⟩:=ak;refine⟨ι,M,env,S,E,?_⟩;unfold aV at h;cases q:f env M with
 | ok d M1=>
  rw[q]at h;cases d with
  |bl k=>
   intro H1 ι1 x1 S1;cases k with
   |true=>rw[if_pos rfl];exact⟨ι1,M1,env,S1,E.mono x1,h.up x1⟩|false=>rw[if_neg (by decide)];exact⟨ι1,M1,env,S1,E.mono x1,h.up x1⟩
  |_=>exact h.elim
 |exc x M1=>rw[q]at h;exact h.elim|bad=>rw[q]at h;exact h.elim
theorem eV(h:C3 X e f):CS X (.Return (Ya e) pos) (cM f):=(Ztn h).imp λD σ H ak=>by
 obtain⟨ι,M,env,S,E,h⟩:=ak;refine⟨ι,M,env,S,E,?_⟩;unfold cM at h;cases q:f env M with
 |ok d M1=>rw[q]at h;exact h|exc x M1=>rw[q]at h;exact h.elim|bad=>rw[q]at h;exact h.elim
theorem iU(h:C3 X e f)(hs:nO e Yh pos.line X.env=pure false:=by rfl):CS X (.Expr e pos) (Zw f):=(Zna h hs).imp λD σ H ak=>by
 obtain⟨ι,M,env,S,E,h⟩:=ak;refine⟨ι,M,env,S,E,?_⟩;unfold Zw at h;cases q:f env M with
 |ok d M1=>rw[q]at h;exactλv H1 ι1 x1 S1 r1=>h σ H1 ι1 x1 S1 (E.mono x1)|exc x M1=>rw[q]at h;exact h.elim|bad=>rw[q]at h;exact h.elim
theorem cu(i:Nat){x:aj}{pos':aM}(hN:X.N.Nodup)(he:C3 X e f)(hi:X.N[i]?=Ya x:=by rfl)(hx:Loc X.env.scope x:=by first|exact Or.inl rfl|exact Or.inr rfl)(hs:nO e (Ya (.Name x pos')) pos.line X.env=pure false:=by rfl)(hf:X.fn x=true\/X.env.scope.names.lookup x=Ya .local:=by first|exact .inl rfl|exact .inr rfl):CS X (.Assign [.Name x pos'] e pos) (aF i f):=(Zqw hN hi hx he hs hf).imp λD σ H ak=>by
 obtain⟨ι,M,env,S,E,h⟩:=ak;refine⟨ι,M,env,S,E,?_⟩;unfold aF at h;cases q:f env M with
 |ok d M1=>rw[q]at h;exactλv H1 ι1 x1 S1 r1=>h _ H1 ι1 x1 S1 ((E.mono x1).set i r1)|exc x M1=>rw[q]at h;exact h.elim|bad=>rw[q]at h;exact h.elim
end
noncomputable def qM(K:Yb)(n:Nat)(F:F3):Sp:=λvs H Q _=>∃ι M ds,ao K H ι M/\Zv K H ι ds vs/\ds.length=n/\Zy K H ι Q (F ds M)
section
variable {K:Yb} {H H':Hp} {ι ι':List Ym} {M M':Store}
mutual
theorem Rep.below:∀{d:D} {v:V},Rep K H ι d v->L3.below ι.length d=true
 | .non,_,_=>rfl|.bl _,_,_=>rfl|.int _,_,_=>rfl|.str _,_,_=>rfl
 | .tup ds,_,h=>by obtain⟨a,vs,_,_,r⟩:=h.jh;exact Zv.bV (ds:=ds) r|.bH ds,_,h=>by obtain⟨a,vs,_,_,r⟩:=h.t7;exact Zv.bV (ds:=ds) r|.ref n,_,h=>by obtain⟨a,q,_⟩:=h.fK;exact decide_eq_true (Yf.mp q).1
theorem Zv.bV:∀{ds:List D} {vs:List V},Zv K H ι ds vs->L3.bV ι.length ds=true
 |[],_,_=>rfl|d::ds,_,h=>by obtain⟨v,ws,_,r,q⟩:=h.cons_inv;exact uJ.mpr ⟨Rep.below (d:=d) r,Zv.bV (ds:=ds) q⟩
end
mutual
theorem Rep.cut{n:Nat}:∀{d:D} {v:V},L3.below n d=true->Rep K H ι d v->Rep K H (ι.take n) d v
 | .non,_,_,h=>h|.bl _,_,_,h=>h|.int _,_,_,h=>h|.str _,_,_,h=>h
 | .tup ds,_,hb,h=>by obtain⟨a,vs,rfl,s,r⟩:=h.jh;exact Rep.tup s (Zv.cut (ds:=ds) hb r)|.bH ds,_,hb,h=>by obtain⟨a,vs,rfl,s,r⟩:=h.t7;exact⟨a,vs,rfl,s,Zv.cut (ds:=ds) hb r⟩|.ref k,_,hb,h=>by obtain⟨a,q,rfl⟩:=h.fK;refine Rep.ref ?_;rw[zH (of_decide_eq_true hb)];exact q
theorem Zv.cut{n:Nat}:∀{ds:List D} {vs:List V},L3.bV n ds=true->Zv K H ι ds vs->Zv K H (ι.take n) ds vs
 |[],_,_,h=>h|d::ds,_,hb,h=>by obtain⟨v,ws,rfl,r,q⟩:=h.cons_inv;exact have w:=uJ.mp (hb:(L3.below n d&&L3.bV n ds)=true);Zv.cons (Rep.cut (d:=d) w.1 r) (Zv.cut (ds:=ds) w.2 q)
end
theorem lu.below{a:Ym}(h:lu K H ι m a):tu ι.length m=true:=by
 cases m with
 |lst xs=>obtain⟨vs,_,r⟩:=h;exact r.bV|dct kvs=>obtain⟨ws,_,_,r⟩:=h;exact r.bV|dJ kvs=>obtain⟨ws,_,_,r⟩:=h;exact r.bV|ins c fs=>
  rcases h with⟨_,_,gs,_,_,_,r⟩|⟨_,_,_,_,rfl⟩
  .exact r.bV
  .rfl
theorem lu.cut{a:Ym}(hb:tu n m=true)(h:lu K H ι m a):lu K H (ι.take n) m a:=by
 cases m with
 |lst xs=>obtain⟨vs,q,r⟩:=h;exact⟨vs,q,r.cut hb⟩|dct kvs=>obtain⟨ws,q,r1,r2⟩:=h;exact⟨ws,q,r1,r2.cut hb⟩|dJ kvs=>obtain⟨ws,q,r1,r2⟩:=h;exact⟨ws,q,r1,r2.cut hb⟩|ins c fs=>
  rcases h with⟨C,dx,gs,q,c,r1,r2⟩|h
  .exact .inl ⟨C,dx,gs,q,c,r1,r2.cut hb⟩
  .exact .inr h
theorem ao.cut(S:ao K H ι M)(h:(M.take n).all (tu n)=true):ao K H (ι.take n) (M.take n):=by
 refine⟨by simp[S.len],S.nd.sublist (PB _ _),λk m a h1 h2=>?_⟩;have hk:k<n:=by have:=(Yf.mp h1).1;rw[Ei]at this;exact Yn this (Nat.min_le_left _ _)
 have hb:tu n m=true:=nU.mp h m (rQ h1);rw[zH hk]at h1 h2;exact(S.obj k m a h1 h2).cut hb
theorem Sd{v:V}(S:ao K H ι M)(x:Ext K H ι H' ι')(S':ao K H' ι' M')(r:Rep K H' ι' d v)(h:Zy K H ι Q (tidy M d M')):Q v H':=by
 unfold tidy at h;split at h
 .rename_i c;simp only[jb,uM,decide_eq_true_eq]at c;have hall:(M'.take M.length).all (tu M.length)=true:=by
   rcases c.2 with e|e
   .rw[e,nU];intro m hm;obtain⟨n,hn⟩:=Py hm;obtain⟨a,q,w⟩:=S.at hn;rw[←S.len];exact w.below
   .exact e
  refine h v H' (ι'.take M.length) ⟨x.tup,x.bH,λn a q=>?_,x.fB⟩ (S'.cut hall) (r.cut c.1);rw[zH (by rw[←S.len];exact(Yf.mp q).1)];exact x.pre n a q
 .exact h v H' ι' x S' r
end
theorem aY.start(r:Zv K H ι ds vs)(n:Nat):aY K H ι (ds.map Ya++Ye n Yh) (vs.map Ya++Ye n Yh):=by
 refine⟨by simp[r.length],λi d h=>?_⟩;by_cases hi:i<ds.length
 .rw[Yx (by simpa using hi),mL]at h;cases q:ds[i]? with
  |none=>rw[q]at h;simp at h|some d'=>rw[q]at h;simp at h;subst h;obtain⟨v,e,z⟩:=r.get q;refine⟨v,?_,z⟩;rw[Yx (by simpa[r.length]using hi),mL,e];rfl
 .rw[wY (by simpa using hi),Ji]at h;split at h<;>simp at h
variable{ps:List aj}
section
variable {P:Y5} {w:aK} {K:Yb} {mg:aj->Option Yd} {base:au}
theorem Sg{x qual:aj}{st:Yc6}{f:Ym}{fd:iJ}{N:List aj}{k:Nat}(F:n_ K x qual st f fd)(S:cX N ps (Zj st))(hb:∀(cdv:Yd) (A:bj) (outer:List cQ) (s:Yg) (H:Hp) (E:XK),b_ k (A.deeper (jN qual (Zj st) s.heap.objs.size f cdv))->lz (lU jQ P w K mg base N qual (Zj st) f cdv A outer s H E).eO (bJ st) body):
  eQ P w K mg base jQ (k+1) f fd ps (qM K ps.length (bh ps.length N.length body)):=by
 refine F.ok S (λvs H Q E ⟨ι,M,ds,_,r,l,_⟩=>by rw[r.length,l]) λcdv A outer s H vs Q E hr ak=>?_;obtain⟨ι,M,ds,SR,r,l,h⟩:=ak;refine⟨_,hb cdv A outer s H E hr,ι,M,ds.map Ya++Ye (N.length-ps.length) Yh,SR,?_,?_⟩
 .have e:L2.start N vs=vs.map Ya++Ye (N.length-ps.length) Yh:=by unfold L2.start;rw[r.length,l]
  rw[e];exact aY.start r _
 .unfold bh at h;rw[if_pos l]at h;cases q:body (ds.map Ya++Ye (N.length-ps.length) Yh) M with
  |nx env' M'=>rw[q]at h;exactλσ' H' ι' x S' E'=>Sd SR x S' Rep.non h|rt d M'=>rw[q]at h;exactλv H' ι' x S' r'=>Sd SR x S' r' h|bk _ _=>rw[q]at h;exact h.elim|ct _ _=>rw[q]at h;exact h.elim
  |exc _ _=>rw[q]at h;exact h.elim|bad=>rw[q]at h;exact h.elim
def bx(P:Y5)(w:aK)(K:Yb)(mg:aj->Option Yd)(base:au)(k:Nat)(x:aj)(ps:List aj)(F:F3):Prop:=(∀ds M,ds.length≠ps.length->F ds M= .bad)/\∃f fd,mg x=Ya (.ref f)/\mH K (.ref f)=true/\Binds K fd ps []/\eQ P w K mg base jQ k f fd ps (qM K ps.length F)
def di(K:Yb)(mg:aj->Option Yd)(x:aj)(st:Yc6)(ps:List aj):Prop:=∃f fd,n_ K x x st f fd/\mg x=Ya (.ref f)/\Binds K fd ps []
theorem bx.of{x:aj}{st:Yc6}{N:List aj}{k:Nat}(d:di K mg x st ps)(S:cX N ps (Zj st))(hb:∀(f:Ym) (cdv:Yd) (A:bj) (outer:List cQ) (s:Yg) (H:Hp) (E:XK),b_ k (A.deeper (jN x (Zj st) s.heap.objs.size f cdv))->lz (lU jQ P w K mg base N x (Zj st) f cdv A outer s H E).eO (bJ st) body):
  bx P w K mg base (k+1) x ps (bh ps.length N.length body):=by
 obtain⟨f,fd,F,m,bi⟩:=d;exact⟨λds M h=>if_neg h,f,fd,m,F.kp,bi,Sg F S (hb f)⟩
end
section
variable {X:Cx} {e:Expr} {es:List Expr} {pos p:aM} {gl:bU} {x:aj} {k:Nat} {ps:List aj} {F:F3}
theorem cT(G:bx X.prog X.w X.K X.mg X.base k x ps F)(hr:b_ k X.A)(ha:CA X (e::es) gl)(hg:Gl X x:=by rfl)(hdb:(x==("__debug__":aj))=false:=by decide)(he:Yq (e::es) X.env=(false,aG e X.env)::Yq es X.env:=by rfl)(hpl:(dm pos (Yq es X.env)).any (·.1)=false:=by rfl):C3 X (.Call (.Name x p) (e::es) [] pos) (Zu F gl):=by
 obtain⟨hn,f,fd,m,kp,bi,ok⟩:=G;refine(Zrh ok hr hg m kp bi .nil ZsF ha hdb he hpl).imp λσ H Q ak=>?_;obtain⟨ι,M,env,S,E,h⟩:=ak;obtain⟨ds,M1,e1,h⟩:=Zy.bind h;refine⟨ι,M,env,S,E,?_⟩;rw[e1];intro vs H1 ι1 x1 S1 r1;have hl:ds.length=ps.length:=by refine uO λq=>?_;rw[hn ds M1 q]at h;exact h.elim
 exact⟨ι1,M1,ds,S1,by rw[qd];exact r1,hl,h.up x1⟩
end
def tGf(K:Yb)(g:G3):TG:=λv σ H Q=>∃ι M env d env',ao K H ι M/\aY K H ι env σ/\Rep K H ι d v/\g d env=Ya env'/\∀σ',aY K H ι env' σ'->Q σ' H
def tGs(K:Yb)(is:List Nat):sS:=λvs σ H Q=>∃ι M env ds env',ao K H ι M/\aY K H ι env σ/\Zv K H ι ds vs/\bindAll is ds env=Ya env'/\∀σ',aY K H ι env' σ'->Q σ' H
def CG(X:Cx)(tg:Expr)(g:G3):Prop:=PG X tg (tGf X.K g)
def KY(X:Cx)(tg:List Expr)(is:List Nat):Prop:=qz X tg (tGs X.K is)
theorem PG.imp{t t':TG}(h:PG X e t)(i:∀v σ H Q,t' v σ H Q->t v σ H Q):PG X e t':=λpins s σ H v u Q I r q=>h pins s σ H v u Q I r (i v σ H Q q)
theorem qz.imp{e:List Expr}{t t':sS}(h:qz X e t)(i:∀v σ H Q,t' v σ H Q->t v σ H Q):qz X e t':=λpins s σ H v u Q I r q=>h pins s σ H v u Q I r (i v σ H Q q)
section
variable {X:Cx} {e:Expr} {es:List Expr} {pos:aM}
theorem qN(i:Nat){x:aj}(hN:X.N.Nodup)(hi:X.N[i]?=Ya x:=by rfl)(hx:Loc X.env.scope x:=by first|exact Or.inl rfl|exact Or.inr rfl)(hf:X.fn x=true\/X.env.scope.names.lookup x=Ya .local:=by first|exact .inl rfl|exact .inr rfl):CG X (.Name x pos) (bQ i):=PG.imp (Znv hN hi hx hf) λv σ H Q ak=>by obtain⟨ι,M,env,d,env',S,E,r,q,h⟩:=ak;cases q;exact h _ (E.set i r)
theorem Zrx:KY X [] []:=qz.imp ZrU λv σ H Q ak=>by
 obtain⟨ι,M,env,ds,env',S,E,r,q,h⟩:=ak;cases ds with
 |nil=>cases q;exact⟨r.nil_inv,h σ E⟩|cons d ds=>cases q
theorem Zk9(i:Nat){is:List Nat}{x:aj}(hN:X.N.Nodup)(ht:KY X es is)(hi:X.N[i]?=Ya x:=by rfl)(hx:Loc X.env.scope x:=by first|exact Or.inl rfl|exact Or.inr rfl)(hf:X.fn x=true\/X.env.scope.names.lookup x=Ya .local:=by first|exact .inl rfl|exact .inr rfl)(hs:(rN (.Name x pos::es) X.env).map (·.2)=lH (.Name x pos) X.env::(rN es X.env).map (·.2):=by rfl):
  KY X (.Name x pos::es) (i::is):=qz.imp (ZqD (Znv hN hi hx hf) ht hs) λv σ H Q ak=>by
 obtain⟨ι,M,env,ds,env',S,E,r,q,h⟩:=ak;cases ds with
 |nil=>cases q|cons d ds=>obtain⟨v,ws,rfl,r1,r2⟩:=r.cons_inv;exact⟨v,ws,rfl,ι,M,env.set i (Ya d),ds,env',S,E.set i r1,r2,q,h⟩
theorem ZsX{is:List Nat}{k:Nat}(hc:X.calm=true)(h:KY X es is)(hl:es.length=is.length:=by rfl)(hn:(rN es X.env).length=is.length:=by rfl)(hst:(rN es X.env).findIdx? (·.1)=Yh:=by rfl):CG X (.Tuple es k pos) (Kw is):=
 PG.imp (Zun (n:=is.length) hc h hn hst) λv σ H Q ak=>by
  obtain⟨ι,M,env,d,env',S,E,r,q,h⟩:=ak;cases d with
  | tup ds=>
   obtain⟨a,vs,rfl,s,r⟩:=r.jh;have hlen:∀(is:List Nat) (ds:List D) (env env':Zo),bindAll is ds env=Ya env'->ds.length=is.length:=by
    intro is
    induction is with
    |nil=>intro ds env env' h;cases ds with|nil=>rfl|cons d ds=>cases h
    |cons i is ih=>intro ds env env' h;cases ds with|nil=>cases h|cons d ds=>simp[ih ds _ _ h]
   exact⟨a,vs,rfl,s,by rw[r.length];exact hlen _ _ _ _ q,ι,M,env,ds,env',S,E,r,q,h⟩
  |_=>cases q
end
def jT(K:Yb)(H:Hp)(ι:List Ym)(it:gA)(J:It):Prop:=∀(i:Nat) H2 ι2 M2,Ext K H ι H2 ι2->ao K H2 ι2 M2->locked it M2=true ->
 (∀d,it.items[i]?=Ya d->J.go i H2/\∀x H3,J.J1 i H2 x H3->H3=H2/\Rep K H2 ι2 d x)/\(i=it.items.length->J.stop i H2)
def Bh(K:Yb)(H:Hp)(ι:List Ym)(R:It->Hp->Prop)(r:R3 gA):Prop:=match r with
 | .ok it M'=>∀J H' ι',Ext K H ι H' ι'->ao K H' ι' M'->jT K H' ι' it J->R J H'|_=>False
def QZ(K:Yb)(g:I3):TI:=λσ H R=>∃ι M env,ao K H ι M/\aY K H ι env σ/\Bh K H ι R (g env M)
def CI(X:Cx)(tg e:Expr)(g:I3):Prop:=PI X tg e (QZ X.K g)
theorem PI.imp{tg:Expr}{t t':TI}(h:PI X tg e t)(i:∀σ H Q,t' σ H Q->t σ H Q):PI X tg e t':=λpins s σ H Q I q=>h pins s σ H Q I (i σ H Q q)
theorem PI.or{tg:Expr}{t t':TI}(h:PI X tg e t)(h':PI X tg e t'):PI X tg e (λσ H R=>t σ H R\/t' σ H R):=λpins s σ H Q I q=>q.elim (h pins s σ H Q I) (h' pins s σ H Q I)
theorem Bh.bind{Q:It->Hp->Prop}{r:R3 α}{k:α->Store->R3 gA}(h:Bh K H ι Q (r.bind k)):∃a M,r= .ok a M/\Bh K H ι Q (k a M):=by
 cases r with
 |ok a M=>exact⟨a,M,rfl,h⟩|exc x M=>exact h.elim|bad=>exact h.elim
section
variable {X:Cx} {tg e a b:Expr} {pos p:aM} {f g:E3}
theorem ZuD(h:C3 X e f)(hs:PI X tg e (λσ H R=>lY X.K f σ H λx H1=>∃z:aj,x= .str z/\z.length<=SZ/\∀J,(∀ι,jT X.K H1 ι ⟨z.cps.toList.map λc=>.str [c],Yh⟩ J)->R J H1)):CI X tg e (kY f):=
 PI.imp (PI.or (ZtK h) (PI.or (Zrw h) hs)) λσ H R ak=>by
  obtain⟨ι,M,env,S,E,h⟩:=ak;obtain⟨d,M1,e1,h⟩:=Bh.bind h;cases d with
  |tup ds=>refine .inl ⟨ι,M,env,S,E,?_⟩;rw[e1];intro v H1 ι1 x1 S1 r1;obtain⟨a,vs,rfl,s,r⟩:=r1.jh;refine⟨a,rfl,⟨vs,s⟩,h _ H1 ι1 x1 S1 ?_⟩;intro i H2 ι2 M2 x S2 _;refine⟨λd hd=>?_,λhl=>⟨vs,x.tup _ _ s,by rw[r.length,hl];exact Yl _⟩⟩;obtain⟨v,hv,rv⟩:=r.get hd;refine⟨⟨vs,v,x.tup _ _ s,hv⟩,λy H3 hy=>⟨hy.1,?_⟩⟩;have e:=hy.2 vs (x.tup _ _ s);rw[hv]at e;cases e;exact rv.mono x|bH ds=>refine .inr (.inl ⟨ι,M,env,S,E,?_⟩);rw[e1];intro v H1 ι1 x1 S1 r1;obtain⟨a,vs,rfl,s,r⟩:=r1.t7;refine⟨a,rfl,⟨vs,s.sq⟩,h _ H1 ι1 x1 S1 ?_⟩;intro i H2 ι2 M2 x S2 _;refine⟨λd hd=>?_,λhl=>⟨vs,(x.bH _ _ s).sq,by rw[r.length,hl];exact Yl _⟩⟩;obtain⟨v,hv,rv⟩:=r.get hd;refine⟨⟨vs,v,(x.bH _ _ s).sq,hv⟩,λy H3 hy=>⟨hy.1,?_⟩⟩;have e:=hy.2 vs (x.bH _ _ s).sq;rw[hv]at e;cases e;exact rv.mono x|ref n=>
   refine .inr (.inl ⟨ι,M,env,S,E,?_⟩);rw[e1];intro v H1 ι1 x1 S1 r1;cases hm:M1[n]? with
   |none=>simp only[hm]at h;exact h.elim|some o=>
    cases o with
    |dct kvs=>simp only[hm]at h;exact h.elim|dJ kvs=>simp only[hm]at h;exact h.elim|ins _ _=>simp only[hm]at h;exact h.elim|lst ds=>simp only[hm]at h;obtain⟨a,ha,rfl⟩:=r1.fK;obtain⟨vs,q,r⟩:=S1.obj n _ a hm ha;refine⟨a,rfl,⟨vs,cB.of q⟩,h _ H1 ι1 x1 S1 ?_⟩;intro i H2 ι2 M2 x S2 lk;have Sh:M2[n]?=Ya (.lst ds):=of_decide_eq_true lk;obtain⟨vs2,q2,r2⟩:=S2.obj n _ a Sh (x.pre _ _ ha);refine⟨λd hd=>?_,λhl=>⟨vs2,cB.of q2,by rw[r2.length,hl];exact Yl _⟩⟩;obtain⟨v,hv,rv⟩:=r2.get hd;refine⟨⟨vs2,v,cB.of q2,hv⟩,λy H3 hy=>⟨hy.1,?_⟩⟩;have e:=hy.2 vs2 (cB.of q2);rw[hv]at e;cases e;exact rv
  | str z=>
   refine .inr (.inr ⟨ι,M,env,S,E,?_⟩);rw[e1];intro v H1 ι1 x1 S1 r1;have hv:=r1.str_inv;subst hv;by_cases hz:z.length<=SZ
   .simp only[if_pos hz]at h;refine⟨_,rfl,by simpa[qt]using hz,λJ hJ=>h J H1 ι1 x1 S1 ?_⟩;simpa using hJ ι1
   .simp only[if_neg hz]at h;exact h.elim
  |non=>exact h.elim|bl b=>exact h.elim|int i=>exact h.elim
theorem ZpZ(lo:Int)(n:Nat):jT K H ι ⟨Ar lo n,Yh⟩ (J3 lo n):=by
 intro i H2 ι2 M2 x S _;refine⟨λd hd=>?_,λhl=>?_⟩
 .unfold Ar at hd;rw[mL]at hd;cases q:(dX n)[i]? with
  |none=>rw[q]at hd;cases hd|some k=>
   rw[q]at hd;obtain⟨hi,e⟩:=Yf.mp q;rw[List.getElem_range]at e;subst e;have hd':D.int (lo+(i:Int))=d:=by simpa using hd
   subst hd';exact⟨(by show i<n;simpa using hi),λy H3 hy=>⟨hy.1,by rw[hy.2];exact Rep.int⟩⟩
 .show n<=i;rw[hl];simp[Ar]
theorem Zi9(hm:X.mg "range" =Yh)(h:C3 X a f)(hg:Gl X "range":=by rfl)(hs:Yq [a] X.env=[(false,aG a X.env)]:=by rfl)(hs':Yq (a::[]) X.env=(false,aG a X.env)::Yq [] X.env:=by rfl):CI X tg (.Call (.Name "range" p) [a] [] pos) (u9 f):=
 PI.imp (ZoA hg hm (Zb h Zf hs') hs) λσ H R ak=>by
  obtain⟨ι,M,env,S,E,h⟩:=ak;obtain⟨d,M1,e1,h⟩:=Bh.bind h;refine⟨ι,M,env,S,E,?_⟩;have e2:Za f Ze env M= .ok [d] M1:=by unfold Za;rw[e1];rfl
  rw[e2];intro vs H1 ι1 x1 S1 r1;obtain⟨v,ws,rfl,r,q⟩:=r1.cons_inv;have:=q.nil_inv;subst this;cases d with
  | int j=>
   have hv:=r.int_inv;subst hv;by_cases hj:j<=1000000/\ -1000000<=j
   .simp only[if_pos hj]at h;exact⟨j,rfl,by omega,by omega,h _ H1 ι1 x1 S1 (ZpZ 0 j.toNat)⟩
   .simp only[if_neg hj]at h;exact h.elim
  |_=>exact h.elim
theorem KZ{iter:Expr}{body:List Yc6}{i:I3}{g:G3}{u:S3}(xW:X.xe=λ_ _=>False)(hc:X.calm=true)(hi:CI X tg iter i)(hg:CG X tg g)(hb:lz X body u)(hs:∀x,wN iter X.env x=pure x:=by intro _;rfl):
  CS X (.For tg iter body [] pos) (sZ i g u):=(Q3 (by rw[xW];exact Qy) hc hi hg hb hs).imp λD σ H ak=>by
 obtain⟨ι,M,env,S,E,h⟩:=ak;unfold sZ at h;cases q:i env M with
 |exc x M1=>rw[q]at h;exact h.elim|bad=>rw[q]at h;exact h.elim|ok it M1=>
  rw[q]at h;refine⟨ι,M,env,S,E,?_⟩;rw[q];intro J H1 ι1 x1 S1 ok;refine⟨λi m σ2 H2=>m=it.items.length-i/\i<=it.items.length/\∃ι2 M2 dM,Ext X.K H1 ι1 H2 ι2/\ao X.K H2 ι2 M2/\aY X.K H2 ι2 dM σ2/\jA X.K H2 ι2 D (dZ it g u (it.items.drop i) dM M2),
   ⟨_,rfl,eG _,ι1,M1,env,Ext.refl,S1,E.mono x1,jA.up x1 h⟩,?_⟩
  rintro i m σ2 H2 ⟨rfl,hi,ι2,M2,dM,x2,S2,E2,h2⟩;by_cases hlt:i<it.items.length
  .have hd:it.items[i]?=Ya it.items[i]:=by simp[hlt]
   rw[zG hlt]at h2
   first|rw[pN]at h2|rw[sY]at h2
   by_cases lk:locked it M2=true
   .rw[if_pos lk]at h2;obtain⟨go,yl⟩:=(ok i H2 ι2 M2 x2 S2 lk).1 _ hd;cases eg:g it.items[i] dM with
    |none=>rw[eg]at h2;exact h2.elim|some oY=>
     rw[eg]at h2;refine .inr ⟨go,λσ' H'=>∃ι3 M3 iI,Ext X.K H2 ι2 H' ι3/\ao X.K H' ι3 M3/\aY X.K H' ι3 iI σ'/\jA X.K H' ι3 D (dZ it g u (it.items.drop (i+1)) iI M3),
      λσ' H' ⟨ι3,M3,iI,x3,S3,E3,h3⟩=>⟨it.items.length-(i+1),lD 2 0x30113c2012a1c0c21 T1 (pC (lB 1 6991908881 T1 hlt)) (pG _ _),rfl,hlt,ι3,M3,iI,x2.trans x3,S3,E3,h3⟩,λx H' hy=>?_⟩
     obtain⟨rfl,rx⟩:=yl x H' hy;refine⟨ι2,M2,dM,_,oY,S2,E2,rx,eg,λσ' E'=>⟨ι2,M2,oY,S2,E',?_⟩⟩;cases qu:u oY M2 with
     |nx e' M'=>simp only[qu]at h2;exactλσ' H' ι' x' S' E'=>⟨ι',M',e',x',S',E',h2.up x'⟩|ct e' M'=>simp only[qu]at h2;exactλσ' H' ι' x' S' E'=>⟨ι',M',e',x',S',E',h2.up x'⟩|bk e' M'=>simp only[qu]at h2;exact h2|rt d M'=>simp only[qu]at h2;exact h2
     |exc x' M'=>simp only[qu]at h2;exact h2.elim|bad=>simp only[qu]at h2;exact h2.elim
   .rw[if_neg lk]at h2;exact h2.elim
  .have e0:i=it.items.length:=iK hi (pD hlt);subst e0;rw[El]at h2
   first|rw[pN]at h2|rw[sY]at h2
   by_cases lk:locked it M2=true
   .rw[if_pos lk]at h2;exact .inl ⟨(ok _ H2 ι2 M2 x2 S2 lk).2 rfl,h2 σ2 H2 ι2 Ext.refl S2 E2⟩
   .rw[if_neg lk]at h2;exact h2.elim
theorem Zlc{c1:Expr}{body:List Yc6}{u:S3}(xW:X.xe=λ_ _=>False)(hc:CT X c1 f)(hb:lz X body u):CS X (.While c1 body [] pos) (FW f u):=(Zlj (by rw[xW];exact Qy) hc hb).imp λD σ H ak=>by
 obtain⟨ι,M,env,S,E,h⟩:=ak;refine⟨λm σ2 H2=>∃ι2 M2 dM,ao X.K H2 ι2 M2/\aY X.K H2 ι2 dM σ2/\jA X.K H2 ι2 D (g_ f u m dM M2),⟨1000000,ι,M,env,S,E,h⟩,?_⟩;rintro m σ2 H2 ⟨ι2,M2,dM,S2,E2,h2⟩;cases m with
 |zero=>exact h2.elim|succ m=>
  refine⟨ι2,M2,dM,S2,E2,?_⟩;rw[oA]at h2;cases q:f dM M2 with
  |exc x M1=>rw[q]at h2;exact h2.elim|bad=>rw[q]at h2;exact h2.elim|ok d M1=>
   rw[q]at h2;cases d with
   | bl k=>
    cases k with
    |false=>intro H3 ι3 x3 S3;rw[if_neg (by decide)];exact h2 σ2 H3 ι3 x3 S3 (E2.mono x3)|true=>
     intro H3 ι3 x3 S3;rw[if_pos rfl];refine⟨λσ' H'=>∃ι4 M4 iI,ao X.K H' ι4 M4/\aY X.K H' ι4 iI σ'/\jA X.K H' ι4 D (g_ f u m iI M4),λσ' H' q=>⟨m,zQ _,q⟩,ι3,M1,dM,S3,E2.mono x3,?_⟩;have h3:=jA.up x3 h2;cases qu:u dM M1 with
     |nx e' M'=>simp only[qu]at h3;exactλσ' H' ι' x' S' E'=>⟨ι',M',e',S',E',h3.up x'⟩|ct e' M'=>simp only[qu]at h3;exactλσ' H' ι' x' S' E'=>⟨ι',M',e',S',E',h3.up x'⟩|bk e' M'=>simp only[qu]at h3;exact h3|rt d M'=>simp only[qu]at h3;exact h3
     |exc x' M'=>simp only[qu]at h3;exact h3.elim|bad=>simp only[qu]at h3;exact h3.elim
   |_=>exact h2.elim
end
theorem Rep.Acx{v:V}(r:Rep K H ι d v):decide (v=V.non)=decide (d=D.non):=by
 cases d with
 |non=>rw[r.oW];rfl|bl b=>rw[r.j6];rfl|int i=>rw[r.int_inv];rfl|str x=>rw[r.str_inv];rfl
 |tup ds=>obtain⟨a,vs,e,_⟩:=r.jh;rw[e];rfl|bH ds=>obtain⟨a,vs,e,_⟩:=r.t7;rw[e];rfl|ref n=>obtain⟨a,_,e⟩:=r.fK;rw[e];rfl
theorem ZhQ{x y:List Nat}:decide (V.str ⟨x.toArray⟩=V.str ⟨y.toArray⟩)=(x==y):=by
 by_cases h:x=y
 .subst h;simp
 .rw[decide_eq_false (λe=>h (by injection e with e1;injection e1 with e2;simpa using congrArg JD e2))]
  exact(beq_eq_false_iff_ne.mpr h).symm
section
variable {X:Cx}
theorem Zp2:aX X (gO .Add) (λx y H Q=>∃a b ys,x= .ref a/\y= .ref b/\cP X.K H a []/\cP X.K H b ys/\Q (.ref b) H):=by
 intro pins s σ H x y v u Q I rx ry h;obtain⟨a,b,ys,rfl,rfl,ha,hb,q⟩:=h;cases rx;cases ry;obtain⟨its,r1,p1,_⟩:=I.tuple ha;obtain⟨its2,r2,p2,_⟩:=I.tuple hb;cases r1;obtain⟨⟨cls,dd,data,sl⟩,ho,hc,n,hd⟩:=id p1;obtain⟨⟨cls2,dd2,data2,sl2⟩,ho2,hc2,n2,hd2⟩:=id p2;simp only at hc hd hc2 hd2;subst hc hd hc2 hd2;exact O8 ⟨_,ho,rfl⟩ ⟨_,ho2,rfl⟩ OD O6 Qo Qm (Ql _ _)
   (tuple_addW0 a b _ its2.toArray n n2 dd dd2 sl sl2 (by simp)) ⟨ho,ho2,⟨.ref b,H,I,rfl,q⟩⟩
theorem Zr9(x y:List Nat):(⟨x.toArray⟩:aj)++⟨y.toArray⟩=⟨(x++y).toArray⟩:=by show Str.append _ _=_;unfold Str.append;simp
noncomputable def K1(o:Option D)(f:D->R3 D):R3 D:=match o with
 |some d=>f d|none=>.bad
theorem Sq{o:Option D}{f:D->R3 D}(h:Zy K H ι Q (K1 o f)):∃x,o=Ya x/\Zy K H ι Q (f x):=by
 cases o with
 |none=>exact h.elim|some x=>exact⟨x,rfl,h⟩
noncomputable def onN(o:Option Nat)(f:Nat->R3 D):R3 D:=match o with
 |some d=>f d|none=>.bad
theorem Zrz{o:Option Nat}{f:Nat->R3 D}(h:Zy K H ι Q (onN o f)):∃x,o=Ya x/\Zy K H ι Q (f x):=by
 cases o with
 |none=>exact h.elim|some x=>exact⟨x,rfl,h⟩
noncomputable def Ss(o:Option MO)(f:List D->R3 D):R3 D:=match o with
 |some (.lst x)=>f x|_=>.bad
theorem ZmP{o:Option MO}{f:List D->R3 D}(h:Zy K H ι Q (Ss o f)):∃x,o=Ya (.lst x)/\Zy K H ι Q (f x):=by
 cases o with
 |none=>exact h.elim|some o=>cases o with
  |lst x=>exact⟨x,rfl,h⟩|_=>exact h.elim
noncomputable def ZvI(a b:Option MO)(f:List D->List D->R3 D):R3 D:=match a,b with
 |some (.lst x),Ya (.lst y)=>f x y|_,_=>.bad
theorem Zqj{a b:Option MO}{f:List D->List D->R3 D}(h:Zy K H ι Q (ZvI a b f)):∃x y,a=Ya (.lst x)/\b=Ya (.lst y)/\Zy K H ι Q (f x y):=by
 cases a with
 |none=>exact h.elim|some a=>cases a with
  | lst x=>cases b with
   |none=>exact h.elim|some b=>cases b with
    |lst y=>exact⟨x,y,rfl,rfl,h⟩|_=>exact h.elim
  |_=>exact h.elim
theorem vD{c:Prop}{_:Decidable c}{r:R3 D}(h:Zy K H ι Q (if c then r else .bad)):c/\Zy K H ι Q r:=by
 by_cases hc:c
 .rw[if_pos hc]at h;exact⟨hc,h⟩
 .rw[if_neg hc]at h;exact h.elim
theorem ZkP(r:Zv K H ι ds []):ds=[]:=Eh r.length.symm
theorem gC:aX X (gO .Add) (r2 X.K bf):=aX.imp (aX.or ZtV (aX.or ZlT (aX.or ZtS (aX.or Zrk Zp2)))) λx y H Q ak=>by
 obtain⟨ι,M,a,b,S,ra,rb,h⟩:=ak;cases a with
 |int i=>cases b with
  |int j=>exact .inl ⟨i,j,ra.int_inv,rb.int_inv,Zy.ok h S Rep.int⟩|_=>exact h.elim
 | str x=>cases b with
  |str y=>obtain⟨hz,h⟩:=vD h;exact .inr (.inl ⟨_,_,ra.str_inv,rb.str_inv,Yv hz lq,by rw[Zr9];exact Zy.ok h S Rep.str⟩)|_=>exact h.elim
 | tup x=>cases b with
  | tup y=>
   obtain⟨hz,h⟩:=vD h;obtain⟨p,vs,e,s,r⟩:=ra.jh;obtain⟨q,ws,e',s',r'⟩:=rb.jh;by_cases hv:vs=[]
   .rw[hv]at r s;rw[ZkP r]at h;exact .inr (.inr (.inr (.inr ⟨p,q,ws,e,e',s,s',Zy.ok h S (Rep.tup s' r')⟩)))
   .refine .inr (.inr (.inr (.inl ⟨p,q,vs,ws,e,e',s,s',hv,by rw[r.length,r'.length];exact Yv hz lq,λhw=>?_,λhw p' hp=>?_⟩)))
    .rw[hw]at r';rw[ZkP r',qd]at h;exact Zy.ok h S (Rep.tup s r)
    .obtain⟨x2,S2,r2⟩:=S.uh hp (r.append r');exact h _ _ _ x2 S2 r2
  |_=>exact h.elim
 | ref n=>cases b with
  |ref m=>have h:Zy X.K H ι Q (ZvI M[n]? M[m]? λx y=>@ite _ (x.length+y.length<=SZ) (Yr _) (alloc (.lst (x++y)) M) .bad):=h;obtain⟨x,y,hn,hm,h⟩:=Zqj h;obtain⟨hz,h⟩:=vD h;obtain⟨p,hp,e⟩:=ra.fK;obtain⟨q,hq,e'⟩:=rb.fK;obtain⟨vs,e1,r1⟩:=S.obj n _ p hn hp;obtain⟨ws,e2,r2⟩:=S.obj m _ q hm hq;refine .inr (.inr (.inl ⟨p,q,vs,ws,e,e',e1,e2,by rw[r1.length,r2.length];exact Yv hz lq,λp' hp'=>?_⟩));obtain⟨x2,S2,r3⟩:=S.lst hp' (r1.append r2);exact h _ _ _ x2 S2 r3|_=>exact h.elim
 |_=>cases b<;>exact h.elim
theorem vG:aX X (gO .Sub) (r2 X.K jR):=aX.imp Zs4 λx y H Q ak=>by obtain⟨ι,M,a,b,S,ra,rb,h⟩:=ak;cases a<;>cases b<;>first|exact h.elim|exact⟨_,_,ra.int_inv,rb.int_inv,Zy.ok h S Rep.int⟩
theorem cY:aX X (gO .Mod) (r2 X.K aO):=aX.imp Zte λx y H Q ak=>by
 obtain⟨ι,M,a,b,S,ra,rb,h⟩:=ak;cases a with
 | int i=>cases b with
  | int j=>
   simp only[Ry]at h;split at h
   .rename_i hj;exact⟨i,j,ra.int_inv,rb.int_inv,hj,Zy.ok h S Rep.int⟩
   .exact h.elim
  |_=>exact h.elim
 |_=>cases b<;>exact h.elim
theorem jU:aX X (gO .FloorDiv) (r2 X.K dN):=aX.imp Zr8 λx y H Q ak=>by
 obtain⟨ι,M,a,b,S,ra,rb,h⟩:=ak;cases a with
 | int i=>cases b with
  | int j=>
   simp only[Zjl]at h;split at h
   .rename_i hj;exact⟨i,j,ra.int_inv,rb.int_inv,hj,Zy.ok h S Rep.int⟩
   .exact h.elim
  |_=>exact h.elim
 |_=>cases b<;>exact h.elim
theorem ZsG:aX X (gO .Pow) (r2 X.K Aj):=aX.imp Zus λx y H Q ak=>by
 obtain⟨ι,M,a,b,S,ra,rb,h⟩:=ak;cases a with
 | int i=>cases b with
  | int j=>
   simp only[ZpB]at h;split at h
   .rename_i hj;exact⟨i,j,ra.int_inv,rb.int_inv,⟨hj.1,iN [] [_] 1 0xf42405b083e83b081 T1 hj.2.1,by have:=hj.2.2;omega⟩,Zy.ok h S Rep.int⟩
   .exact h.elim
  |_=>exact h.elim
 |_=>cases b<;>exact h.elim
theorem vH:sU X (Jf .USub) (r1 X.K jk):=sU.imp ZtD λx H Q ak=>by
 obtain⟨ι,M,a,S,ra,h⟩:=ak;cases a with
 |int i=>exact⟨i,ra.int_inv,Zy.ok h S Rep.int⟩|_=>exact h.elim
theorem K3:aX X (j8 .Lt) (r2 X.K lV):=aX.imp Zws λx y H Q ak=>by obtain⟨ι,M,a,b,S,ra,rb,h⟩:=ak;cases a<;>cases b<;>first|exact h.elim|exact⟨_,_,ra.int_inv,rb.int_inv,Zy.ok h S Rep.bl⟩
theorem vI:aX X (j8 .Gt) (r2 X.K jc):=aX.imp ZvQ λx y H Q ak=>by obtain⟨ι,M,a,b,S,ra,rb,h⟩:=ak;cases a<;>cases b<;>first|exact h.elim|exact⟨_,_,ra.int_inv,rb.int_inv,Zy.ok h S Rep.bl⟩
theorem ZxU:aX X (j8 .GtE) (r2 X.K Fy):=aX.imp Zv2 λx y H Q ak=>by obtain⟨ι,M,a,b,S,ra,rb,h⟩:=ak;cases a<;>cases b<;>first|exact h.elim|exact⟨_,_,ra.int_inv,rb.int_inv,Zy.ok h S Rep.bl⟩
theorem Zvo:aX X (j8 .Is) (r2 X.K Km):=aX.imp ZsU λx y H Q ak=>by
 obtain⟨ι,M,a,b,S,ra,rb,h⟩:=ak;cases b with
 |non=>exact⟨rb.oW,by rw[ra.Acx];exact Zy.ok h S Rep.bl⟩|_=>exact h.elim
end
theorem units_in1(A:bj):A.in1.units=A.units+1:=rfl
variable{es:List D}{A:bj}
section
variable {X:Cx} {pins:List (Ym×aD)} {σ:St} {H:Hp} {s:Yg} {ι:List Ym}
theorem Zki{e:Nat->Bool}:∀{x y:List D},x.length=y.length->(∀(j:Nat) a b,x[j]?=Ya a->y[j]?=Ya b->e j=kI a b)->(dX x.length).all e=gj x y:=by
 intro x
 induction x generalizing e with
 |nil=>intro y h _;cases y with|nil=>rfl|cons _ _=>simp at h
 | cons a x ih=>
  intro y h he;cases y with
  |nil=>simp at h|cons b y=>rw[Yo,List.range_succ_eq_map,ZM,List.all_map,he 0 a b rfl rfl];rw[Ru];congr 1;exact ih (e:=e ∘ Nat.succ) (by simpa using h) λj a' b' h1 h2=>he (j+1) a' b' (by simpa using h1) (by simpa using h2)
theorem Zln:∀{x y:List D},gj x y=true->x.length=y.length
 |[],[],_=>rfl|[],_::_,h=>ft h|_::_,[],h=>ft h|a::x,b::y,h=>congrArg Nat.succ (Zln (uJ.mp (h:(kI a b&&gj x y)=true)).2)
theorem K4(h:cD 0 d=true):u6 d=true:=by cases d<;>first|exact rfl|exact h
theorem Bj(h:cD (n+1) d=true):u6 d=true\/∃ds,d= .tup ds:=by
 cases d with
 |tup ds=>exact .inr ⟨ds,rfl⟩|bH _=>exact ft h|ref _=>exact ft h|_=>exact .inl rfl
theorem Zjs{a b:D}{v:V}(fa:u6 a=true)(fb:u6 b=true)(r:Rep K H ι a v)(q:Rep K H ι b v):kI a b=true:=by
 cases a with
 |non=>have e:=r.oW;cases b with
  |non=>rfl|bl _=>cases e.symm.trans q.j6|int _=>cases e.symm.trans q.int_inv|str _=>cases e.symm.trans q.str_inv
  |_=>exact ft fb
 |bl x=>have e:=r.j6;cases b with
  |non=>cases e.symm.trans q.oW|bl _=>exact beq_iff_eq.mpr (V.bl.inj (e.symm.trans q.j6))|int _=>cases e.symm.trans q.int_inv|str _=>cases e.symm.trans q.str_inv
  |_=>exact ft fb
 |int x=>have e:=r.int_inv;cases b with
  |non=>cases e.symm.trans q.oW|bl _=>cases e.symm.trans q.j6|int _=>exact beq_iff_eq.mpr (V.int.inj (e.symm.trans q.int_inv))|str _=>cases e.symm.trans q.str_inv
  |_=>exact ft fb
 |str x=>have e:=r.str_inv;cases b with
  |non=>cases e.symm.trans q.oW|bl _=>cases e.symm.trans q.j6|int _=>cases e.symm.trans q.int_inv|str _=>exact ZhQ.symm.trans (decide_eq_true (e.symm.trans q.str_inv))
  |_=>exact ft fb
 |_=>exact ft fa
theorem ZkQ{a:D}{v:V}{p:Ym}(fa:u6 a=true)(r:Rep K H ι a v)(e:v= .ref p):False:=by
 cases a with
 |non=>cases e.symm.trans r.oW|bl x=>cases e.symm.trans r.j6|int x=>cases e.symm.trans r.int_inv|str x=>cases e.symm.trans r.str_inv
 |_=>exact ft fa
theorem Rep.fun1(I:Inv X pins σ H s):∀(n:Nat) (a b:D) (v:V),cD n a=true->cD n b=true->Rep X.K H ι a v->Rep X.K H ι b v->kI a b=true:=by
 intro n
 induction n with
 |zero=>intro a b v ha hb r q;exact Zjs (K4 ha) (K4 hb) r q|succ n ih=>
  intro a b v ha hb r q;rcases Bj ha with fa|⟨ds,ea⟩
  .rcases Bj hb with fb|⟨es,eb⟩
   .exact Zjs fa fb r q
   .rw[eb]at q;obtain⟨p,vs,e,_⟩:=q.jh;exact(ZkQ fa r e).elim
  .rw [ea]at r ha ⊢;obtain⟨p,vs,e,s1,r1⟩:=r.jh;rcases Bj hb with fb|⟨es,eb⟩
   .exact(ZkQ fb q e).elim
   .rw[eb]at q hb ⊢;obtain⟨p',ws,e',s2,r2⟩:=q.jh;rw[←V.ref.inj (e.symm.trans e')]at s2;rw[←I.Nr s1 s2]at r2;clear s1 s2 e e' q r eb ea;rw[ZsR];revert ha hb r1 r2
    induction ds generalizing es vs with
    |nil=>
     intro _ r1 _ r2;cases es with
     |nil=>rfl|cons _ _=>obtain⟨_,_,e,_⟩:=r2.cons_inv;cases r1.nil_inv.symm.trans e
    | cons d ds ih2=>
     intro h1 r1 h2 r2;obtain⟨v,ws,e,q1,q2⟩:=r1.cons_inv;cases es with
     |nil=>cases r2.nil_inv.symm.trans e|cons e' es=>obtain⟨v',ws',z,q3,q4⟩:=r2.cons_inv;obtain⟨z1,z2⟩:=QC (z.symm.trans e);rw[z1]at q3;rw[z2]at q4;have g1:=uJ.mp (h1:(cD n d&&ds.all (cD n))=true);have g2:=uJ.mp (h2:(cD n e'&&es.all (cD n))=true);rw[Ru,ih d e' v g1.1 g2.1 q1 q3];exact ih2 ws es g1.2 q2 g2.2 q4
theorem Bk{x:V}(r:Rep K H ι .non x)(e:RelV x u):u= .none:=by rw[r.oW]at e;cases e;rfl
theorem vJ{b:Bool}{x:V}(r:Rep K H ι (.bl b) x)(e:RelV x u):u= .bool b:=by rw[r.j6]at e;cases e;rfl
theorem qO{x:V}(r:Rep K H ι (.int i) x)(e:RelV x u):∃t,u= .int i t:=by rw[r.int_inv]at e;exact e
theorem vK{i:List Nat}{x:V}(r:Rep K H ι (.str i) x)(e:RelV x u):∃t,u= .str ⟨i.toArray⟩ t:=by rw[r.str_inv]at e;exact e
inductive Su(X:Cx)(H:Hp)(ι:List Ym)(T:Ym->Array Yd->Prop)(ds:List D)(x:V)(u:Yd):Prop
 |mk (p:Ym) (vs:List V) (its:List Yd):x= .ref p->u= .ref p->T p its.toArray->Zv X.K H ι ds vs->Vals vs its->Su X H ι T ds x u
theorem vL(I:Inv X pins σ H s){x:V}(r:Rep X.K H ι (.tup ds) x)(e:RelV x u):Su X H ι s.heap.IsTuple ds x u:=by obtain⟨p,vs,ex,s1,r1⟩:=r.jh;obtain⟨its,rvs,ht,_⟩:=I.tuple s1;rw[ex]at e;exact⟨p,vs,its,ex,e,ht,r1,rvs⟩
theorem Q7{i k:List Nat}:decide (i=k)=((⟨i.toArray⟩:aj)==⟨k.toArray⟩):=by
 rw[←Jl,←ZhQ];by_cases h:(⟨i.toArray⟩:aj)=⟨k.toArray⟩
 .rw[h,beq_self_eq_true];exact decide_eq_true rfl
 .rw[beq_eq_false_iff_ne.mpr h];exact decide_eq_false λe=>h (V.str.inj e)
theorem Zrs{i k:List Nat}:kI (.str i) (.str k)=((⟨i.toArray⟩:aj)==⟨k.toArray⟩):=uQ (show(i==k)=decide (i=k)from Jl i k) Q7
theorem Zjc(A:bj)(a b:D)(x y:V)(u v:Yd)(ha:u6 a=true)(hb:u6 b=true)(ra:Rep X.K H ι a x)(rb:Rep X.K H ι b y)(ru:RelV x u)(rv:RelV y v):pF A s u v (kI a b):=by
 cases a with
 |non=>rw[Bk ra ru];cases b with
  |non=>rw[Bk rb rv];exact Ykv _|bl k=>rw[vJ rb rv];exact SeqAt.EqAt.none_bool _|int k=>obtain⟨t,e⟩:=qO rb rv;rw[e];exact SeqAt.EqAt.none_int _ _|str k=>obtain⟨t,e⟩:=vK rb rv;rw[e];exact SeqAt.EqAt.none_str _ _
  |_=>exact ft hb
 |bl i=>rw[vJ ra ru];cases b with
  |non=>rw[Bk rb rv];exact SeqAt.EqAt.bool_none _|bl k=>rw[vJ rb rv];exact SeqAt.EqAt.bool_bool _ _|int k=>obtain⟨t,e⟩:=qO rb rv;rw[e];exact SeqAt.EqAt.bool_int _ _ _|str k=>obtain⟨t,e⟩:=vK rb rv;rw[e];exact SeqAt.EqAt.bool_str _ _ _
  |_=>exact ft hb
 |int i=>obtain⟨t0,e0⟩:=qO ra ru;rw[e0];cases b with
  |non=>rw[Bk rb rv];exact SeqAt.EqAt.int_none _ _|bl k=>rw[vJ rb rv];exact SeqAt.EqAt.int_bool _ _ _|int k=>obtain⟨t,e⟩:=qO rb rv;rw[e];exact Yi9 _ _ _ _|str k=>obtain⟨t,e⟩:=vK rb rv;rw[e];exact Yiw _ _ _ _
  |_=>exact ft hb
 |str i=>obtain⟨t0,e0⟩:=vK ra ru;rw[e0];cases b with
  |non=>rw[Bk rb rv];exact SeqAt.EqAt.str_none _ _|bl k=>rw[vJ rb rv];exact SeqAt.EqAt.str_bool _ _ _|int k=>obtain⟨t,e⟩:=qO rb rv;rw[e];exact Qw _ _ _ _|str k=>obtain⟨t,e⟩:=vK rb rv;rw[e,Zrs];exact SeqAt.EqAt.str_str _ _ _ _
  |_=>exact ft hb
 |_=>exact ft ha
noncomputable def Gq(ds es:List D)(j:Nat):Bool:=match ds[j]?,es[j]? with|some a,Ya b=>kI a b|_,_=>false
theorem Sv(hl:ds.length≠es.length):gj ds es=false:=by
 cases q:gj ds es with
 |false=>rfl|true=>exact absurd (Zln q) hl
theorem Sw(hn:n=ds.length)(hl:ds.length=es.length):(dX n).all (Gq ds es)=gj ds es:=by rw[hn];exact Zki hl λj a b h1 h2=>by unfold Gq;rw[h1,h2]
theorem Znc{m:Nat}(hn:n=ds.length)(hm:m=es.length):((dX (iM n m)).all (Gq ds es)&&n==m)=gj ds es:=by
 by_cases hl:ds.length=es.length
 .have e:n=m:=hn.trans (hl.trans hm.symm);rw[←e,Nat.min_self,beq_self_eq_true,uN];exact Sw hn hl
 .rw[Sv hl,beq_eq_false_iff_ne.mpr λe=>hl (hn.symm.trans (e.trans hm)),Jm]
theorem jV{its:List Yd}(r:Zv X.K H ι ds vs)(v:Vals vs its):its.toArray.size=ds.length:=Ys.trans (v.length.symm.trans r.length)
theorem K5{ws:List V}{its its2:List Yd}(ih:∀(a b:D) (x y:V) (u v:Yd),cD n a=true->cD n b=true->Rep X.K H ι a x->Rep X.K H ι b y->RelV x u->RelV y v->pF A s u v (kI a b))(p1:ds.all (cD n)=true)(p2:es.all (cD n)=true)(r1:Zv X.K H ι ds vs)(r2:Zv X.K H ι es ws)(v1:Vals vs its)(v2:Vals ws its2)(j:Nat)(h1:j<its.toArray.size)(h2:j<its2.toArray.size):pF A s its.toArray[j] its2.toArray[j] (Gq ds es j):=by
 have k1:j<ds.length:=by rw[←jV r1 v1];exact h1
 have k2:j<es.length:=by rw[←jV r2 v2];exact h2
 have q1:=Y3 k1;have q2:=Y3 k2;obtain⟨x,g1,z1⟩:=r1.get q1;obtain⟨y,g2,z2⟩:=r2.get q2;obtain⟨u,e1,l1⟩:=v1.get g1;obtain⟨v,e2,l2⟩:=v2.get g2;unfold Gq;rw[q1,q2];obtain⟨_,e1⟩:=Yf.mp e1;obtain⟨_,e2⟩:=Yf.mp e2;exact ih _ _ x y _ _ (nU.mp p1 _ (Jj k1)) (nU.mp p2 _ (Jj k2)) z1 z2 (e1▸l1) (e2▸l2)
theorem Zkr(A:bj)(hu1:A.units<fP){a:D}{x:V}{p:Ym}{its:Array Yd}(ha:u6 a=true)(ra:Rep X.K H ι a x)(ru:RelV x u)(it:s.heap.IsTuple p its):pF A s u (.ref p) (kI a (.tup es))/\pF A s (.ref p) u (kI (.tup es) a):=by
 cases a with
 |non=>rw[Bk ra ru];exact⟨SeqAt.EqAt.none_tuple it hu1,SeqAt.EqAt.tuple_none it hu1⟩|bl k=>rw[vJ ra ru];exact⟨SeqAt.EqAt.bool_tuple _ it hu1,SeqAt.EqAt.tuple_bool _ it hu1⟩|int k=>obtain⟨t,e⟩:=qO ra ru;rw[e];exact⟨SeqAt.EqAt.int_tuple _ _ it hu1,SeqAt.EqAt.tuple_int _ _ it hu1⟩|str k=>obtain⟨t,e⟩:=vK ra ru;rw[e];exact⟨SeqAt.EqAt.str_tuple _ _ it hu1,SeqAt.EqAt.tuple_str _ _ it hu1⟩
 |_=>exact ft ha
theorem Sx(I:Inv X pins σ H s):∀(n:Nat) (A:bj) (_:A.units+n+1<fP) (a b:D) (x y:V) (u v:Yd),cD n a=true->cD n b=true->Rep X.K H ι a x->Rep X.K H ι b y->RelV x u->RelV y v->pF A s u v (kI a b):=by
 intro n
 induction n with
 |zero=>intro A hu a b x y u v ha hb ra rb ru rv;exact Zjc A a b x y u v (K4 ha) (K4 hb) ra rb ru rv|succ n ih=>
  intro A hu a b x y u v ha hb ra rb ru rv;have hu0:A.units+0+1<fP:=lC 1 0x2ae0cc12aa1c0cc11 T1 hu;have hu1:A.units<fP:=lB 1 1104257534993 T1 hu0;rcases Bj ha with fa|⟨ds,ea⟩
  .rcases Bj hb with fb|⟨es,eb⟩
   .exact Zjc A a b x y u v fa fb ra rb ru rv
   .rw[eb]at rb ⊢;obtain⟨p,vs,its,ex,eu,t,_⟩:=vL I rb rv;rw[eu];exact(Zkr A hu1 fa ra ru t).1
  .rw[ea]at ra ha ⊢;obtain⟨p,vs,its,ex,eu,t,r1,v1⟩:=vL I ra ru;rw[eu];rcases Bj hb with fb|⟨es,eb⟩
   .exact(Zkr A hu1 fb rb rv t).2
   .rw[eb]at rb hb ⊢;obtain⟨q,ws,its2,ey,ev,t',r2,v2⟩:=vL I rb rv;rw[ev];by_cases hp:p=q
    .rw[ey,←hp,←ex]at rb;rw[Rep.fun1 I (n+1) _ _ _ ha hb ra rb,hp];exact Ykv _
    .refine Yja hp ?_;rw[ZsR,←Znc (jV r1 v1) (jV r2 v2)];exact Qx t t' hu1 (K5 (ih A.in1 (by rw[units_in1];exact lC 1 0x2a1a0ccc12aa1c0cc11 T1 hu)) ha hb r1 r2 v1 v2)
end
section
variable {X:Cx}
section
variable {pins:List (Ym×aD)} {σ:St} {H:Hp} {s:Yg} {ι:List Ym}
theorem K6(I:Inv X pins σ H s)(S:ao X.K H ι M){x:V}(h:M[n]?=Ya (.lst ds))(r:Rep X.K H ι (.ref n) x)(e:RelV x u):Su X H ι s.heap.IsList ds x u:=by obtain⟨p,hp1,ex⟩:=r.fK;obtain⟨vs,e1,r1⟩:=S.obj n _ p h hp1;obtain⟨its,rvs,pl1,_⟩:=I.list (cB.of e1);rw[ex]at e;exact⟨p,vs,its,ex,e,pl1.isList,r1,rvs⟩
inductive xX(M:Store)(a b:D)(k:Bool):Prop
 |ref {n m:Nat} (ds es:List D):a= .ref n->b= .ref m->gj ds es=k->M[n]?=Ya (.lst ds)->M[m]?=Ya (.lst es)->ds.all (cD DEEP)=true/\es.all (cD DEEP)=true->xX M a b k
 |int (i j:Int):a= .int i->b= .int j->decide (i=j)=k->xX M a b k
 |str (i j:List Nat):a= .str i->b= .str j->decide (i=j)=k->xX M a b k
 |bl (i j:Bool):a= .bl i->b= .bl j->decide (i=j)=k->xX M a b k
 |tup {ds es:List D}:a= .tup ds->b= .tup es->gj ds es=k->ds.all (cD DEEP)=true/\es.all (cD DEEP)=true->xX M a b k
theorem Zql{c d:Bool}{a k:α}(h:(if c&&d then Ya a else Yh)=Ya k):a=k/\c=true/\d=true:=by
 cases c with
 |false=>exact e_ h|true=>cases d with
  |false=>exact e_ h|true=>exact⟨gP h,rfl,rfl⟩
noncomputable def Zxg(a b:Option MO):Option Bool:=match a,b with
 |some (.lst x),Ya (.lst y)=>if x.all (cD DEEP)&&y.all (cD DEEP)then Ya (gj x y)else Yh|_,_=>Yh
theorem Zru{m:Nat}{k:Bool}(h:Zxg M[n]? M[m]?=Ya k):xX M (.ref n) (.ref m) k:=by
 cases e1:M[n]? with
 |none=>rw[e1]at h;exact e_ h|some o=>cases o with
  | lst x=>cases e2:M[m]? with
   |none=>rw[e1,e2]at h;exact e_ h|some o=>cases o with
    |lst y=>rw[e1,e2]at h;exact have w:=Zql h;.ref x y rfl rfl w.1 e1 e2 w.2|_=>rw[e1,e2]at h;exact e_ h
  |_=>rw[e1]at h;exact e_ h
theorem eqK{a b:D}{k:Bool}(h:mX a b M=Ya k):xX M a b k:=by
 cases a with
 |ref n=>cases b with
  |ref m=>exact Zru h|_=>exact e_ h
 |int i=>cases b with
  |int j=>exact .int i j rfl rfl (gP h)|_=>exact e_ h
 |str i=>cases b with
  |str j=>exact .str i j rfl rfl (gP h)|_=>exact e_ h
 |bl i=>cases b with
  |bl j=>exact .bl i j rfl rfl (gP h)|_=>exact e_ h
 |tup ds=>cases b with
  |tup es=>exact have w:=Zql h;.tup rfl rfl w.1 w.2|_=>exact e_ h
 |_=>cases b<;>exact e_ h
theorem Zns{a b:D}{x y:V}{u v:Yd}{k:Bool}(hu:X.A.units+80<fP)(I:Inv X pins σ H s)(S:ao X.K H ι M)(ra:Rep X.K H ι a x)(rb:Rep X.K H ι b y)(ru:RelV x u)(rv:RelV y v)(h:mX a b M=Ya k):SeqAt.RcAt X.A s u v k/\SeqAt.RcNeAt X.A s u v (!k):=by
 have hu1:X.A.units<fP:=lB 1 17666545486865 T1 hu;have hu2:X.A.in1.units+DEEP+1<fP:=by rw[units_in1];exact(show X.A.units+1+60+1<fP from lB 1 0x1a3c2ba0ccc11502b0c11 T1 hu)
 rcases eqK h with⟨ds,es,ea,eb,ek,e1,e2,p1,p2⟩|⟨i,j,ea,eb,ek⟩|⟨i,j,ea,eb,ek⟩|⟨i,j,ea,eb,ek⟩|⟨ea,eb,ek,p1,p2⟩
 .rw[ea]at ra;rw[eb]at rb;rw[←ek];obtain⟨p,vs,its,_,eu,t,r1,v1⟩:=K6 I S e1 ra ru;obtain⟨q,ws,its2,_,ev,t',r2,v2⟩:=K6 I S e2 rb rv;rw[eu,ev];by_cases hl:ds.length=es.length
  .rw[←Sw (jV r1 v1) hl];have hz:=(jV r1 v1).trans (hl.trans (jV r2 v2).symm);have w:=K5 (Sx I DEEP X.A.in1 hu2) p1 p2 r1 r2 v1 v2;exact⟨Yke t t' hz hu1 w,SeqAt.RcNeAt.lists t t' hz hu1 w⟩
  .rw[Sv hl];have hz:(its.toArray.size !=its2.toArray.size)=true:=bne_iff_ne.mpr λe=>hl ((jV r1 v1).symm.trans (e.trans (jV r2 v2)));exact⟨Ygl t t' hz hu1,SeqAt.RcNeAt.lists_lengths t t' hz hu1⟩
 .rw[ea]at ra;rw[eb]at rb;obtain⟨t,e⟩:=qO ra ru;obtain⟨t',e'⟩:=qO rb rv;rw[e,e',←ek,←Jl];exact⟨SeqAt.RcAt.int_int _ _ _ _,SeqAt.RcNeAt.int_int _ _ _ _⟩
 .rw[ea]at ra;rw[eb]at rb;obtain⟨t,e⟩:=vK ra ru;obtain⟨t',e'⟩:=vK rb rv;rw[e,e',←ek,Q7];exact⟨SeqAt.RcAt.str_str _ _ _ _,SeqAt.RcNeAt.str_str _ _ _ _⟩
 .rw[ea]at ra;rw[eb]at rb;rw[vJ ra ru,vJ rb rv,←ek,←Jl];exact⟨SeqAt.RcAt.bool_bool _ _,SeqAt.RcNeAt.bool_bool _ _⟩
 .rw[ea]at ra;rw[eb]at rb;obtain⟨p,vs,its,_,eu,t,r1,v1⟩:=vL I ra ru;obtain⟨q,ws,its2,_,ev,t',r2,v2⟩:=vL I rb rv;rw[eu,ev,←ek,←Znc (jV r1 v1) (jV r2 v2)];have w:=K5 (Sx I DEEP X.A.in1 hu2) p1 p2 r1 r2 v1 v2;exact⟨Qx t t' hu1 w,SeqAt.RcNeAt.tuples t t' hu1 w⟩
end
theorem ig(hu:X.A.units+80<fP):aX X (j8 .Eq) (r2 X.K bL):=by
 intro pins s σ H x y v u Q I rx ry h;obtain⟨ι,M,a,b,S,ra,rb,h⟩:=h;unfold bL at h;cases q:mX a b M with
 |none=>rw[q]at h;exact h.elim|some k=>rw[q]at h;exact(Zns hu I S ra rb rx ry q).1 X.prog X.w X.xe _ ⟨.bl k,H,I,rfl,Zy.ok h S Rep.bl⟩
theorem Sy(r:Zv K H ι ds vs)(h:fD ds i=Ya d):∃v,xJ vs i=Ya v/\Rep K H ι d v:=by
 unfold fD at h;unfold xJ;have e:Fx vs.length i=mY ds.length i:=by rw[r.length];rfl
 rw[e];cases q:mY ds.length i with
 |none=>rw[q]at h;cases h|some j=>rw[q]at h;exact r.get h
theorem bB:kE X (r2 X.K Zr):=kE.imp Zuy λx y H Q ak=>by
 obtain⟨ι,M,a,b,S,ra,rb,h⟩:=ak;cases a with
 | tup ds=>cases b with
  |int i=>have h:Zy X.K H ι Q (K1 (fD ds i) (λd=>.ok d M)):=h;obtain⟨d,q,h⟩:=Sq h;obtain⟨p,vs,e',s1,r1⟩:=ra.jh;obtain⟨v,e,rv⟩:=Sy r1 q;exact .inr (.inl ⟨p,vs,i,v,e',rb.int_inv,s1,e,Zy.ok h S rv⟩)|_=>exact h.elim
 | bH ds=>cases b with
  |int i=>have h:Zy X.K H ι Q (K1 (fD ds i) (λd=>.ok d M)):=h;obtain⟨d,q,h⟩:=Sq h;obtain⟨p,vs,e',s1,r1⟩:=ra.t7;obtain⟨v,e,rv⟩:=Sy r1 q;exact .inl ⟨p,vs,i,v,e',rb.int_inv,s1.sq,e,Zy.ok h S rv⟩|_=>exact h.elim
 | str z=>cases b with
  |int i=>have h:Zy X.K H ι Q (onN (fD z i) (λc=>@ite _ (z.length<=SZ) (Yr _) (.ok (.str [c]) M) .bad)):=h;obtain⟨c,q,h⟩:=Zrz h;obtain⟨hz,h⟩:=vD h;exact .inr (.inr ⟨_,i,c,ra.str_inv,rb.int_inv,Yv hz lq,q,Zy.ok h S Rep.str⟩)|_=>exact h.elim
 | ref n=>cases b with
  |int i=>have h:Zy X.K H ι Q (Ss (M[n]?) (λds=>K1 (fD ds i) λd=>.ok d M)):=h;obtain⟨ds,hn,h⟩:=ZmP h;obtain⟨d,q,h⟩:=Sq h;obtain⟨p,hp,e'⟩:=ra.fK;obtain⟨vs,e1,r1⟩:=S.obj n _ p hn hp;obtain⟨v,e,rv⟩:=Sy r1 q;exact .inl ⟨p,vs,i,v,e',rb.int_inv,cB.of e1,e,Zy.ok h S rv⟩|_=>exact h.elim
 |_=>cases b<;>exact h.elim
theorem SJ(r:Zv K H ι ds vs)(lo hi:Option Int):Zv K H ι (cutD ds lo hi) (uX vs lo hi):=by
 have e:∀n d o,HT.aB n d o=aB n d o:=λn d o=>by cases o<;>rfl
 unfold cutD uX;rw[e,e,r.length];exact(r.drop _).take _
end
noncomputable def gG(cells:List (aj×Ym)):List (aj×NameKind)->List (aj×Ym)->List (aj×Ym)
 |[],cs=>cs|(n,k)::r,cs=>gG cells r (if k== .free then(n,(cells.lookup n).getD 0)::cs else cs)
theorem Gr{cells:List (aj×Ym)}{n:aj}{k:NameKind}{r:List (aj×NameKind)}{cs:List (aj×Ym)}:gG cells ((n,k)::r) cs=gG cells r (if k== .free then(n,(cells.lookup n).getD 0)::cs else cs):=rfl
theorem SM{scope:Scope}{env:cQ}(h:∀y∈scope.names,y.2= .free->∃c,env.cells.lookup y.1=Ya c):closureFor scope env=pure (gG env.cells scope.names []):=by
 unfold closureFor;have key:∀(names:List (aj×NameKind)) (cs:List (aj×Ym)),(∀y∈names,y.2= .free->∃c,env.cells.lookup y.1=Ya c) ->
   (forIn names cs λx r=>match x with|(name,kind)=>if(kind==NameKind.free)=true then do let c ←cellOf env name;pure (ForInStep.yield ((name,c)::r))else pure (ForInStep.yield r):kh (List (aj×Ym)))=pure (gG env.cells names cs):=by
  intro names
  induction names with
  |nil=>intro cs _;rfl|cons y r ih=>
   intro cs hy;obtain⟨n,k⟩:=y;rw[Em];by_cases hk:k= .free
   .subst hk;obtain⟨c,hc⟩:=hy (n,.free) Yw rfl;have e1:cellOf env n=pure c:=by unfold cellOf;rw[hc]
    simp only[beq_self_eq_true,if_true,e1,pure_bind];rw[ih _ λz hz=>hy z (Yp _ hz)];rw[Gr,hc];rfl
   .have hb:(k==NameKind.free)=false:=by simpa using hk
    simp only[hb,Es,if_false,pure_bind];rw[ih _ λz hz=>hy z (Yp _ hz)];rw[Gr,hb];rfl
 have:=key scope.names [] h
 first
  |exact this
  |(simp only[bind_pure];exact this)
theorem ZnL{cells:List (aj×Ym)}{x:aj}{c:Ym}:∀(names:List (aj×NameKind)) (cs:List (aj×Ym)),(∀y∈names,y.2= .free->∃c,cells.lookup y.1=Ya c)->(gG cells names cs).lookup x=Ya c->cs.lookup x=Ya c\/cells.lookup x=Ya c:=by
 intro names
 induction names with
 |nil=>intro cs _ h;exact .inl h|cons y r ih=>
  intro cs hy h;obtain⟨n,k⟩:=y;rw[Gr]at h;rcases ih _ (λz hz=>hy z (Yp _ hz)) h with q|q
  .by_cases hk:k= .free
   .subst hk;obtain⟨c0,hc⟩:=hy (n,.free) Yw rfl;simp only[beq_self_eq_true,if_true,hc,Option.getD_some,jM]at q;cases hx:x==n with
    |true=>
     simp only[hx]at q;cases q;have:x=n:=by simpa using hx
     subst this;exact .inr hc
    |false=>simp only[hx]at q;exact .inl q
   .have hb:(k==NameKind.free)=false:=by simpa using hk
    simp only[hb,Es,if_false]at q;exact .inl q
  .exact .inr q
theorem Zl5{cells:List (aj×Ym)}{x:aj}:∀(names:List (aj×NameKind)) (cs:List (aj×Ym)),(cs.lookup x).isSome=true->((gG cells names cs).lookup x).isSome=true:=by
 intro names
 induction names with
 |nil=>intro cs h;exact h|cons y r ih=>
  intro cs h;obtain⟨n,k⟩:=y;rw[Gr];refine ih _ ?_;split
  .rw[jM];split
   .rfl
   .exact h
  .exact h
theorem Zjb{cells:List (aj×Ym)}{x:aj}:∀(names:List (aj×NameKind)) (cs:List (aj×Ym)),(x,NameKind.free)∈names->((gG cells names cs).lookup x).isSome=true:=by
 intro names
 induction names with
 |nil=>intro cs h;cases h|cons y r ih=>
  intro cs h;obtain⟨n,k⟩:=y;rw[Gr];rcases Y6.mp h with e|h
  .cases e
   refine Zl5 _ _ ?_;simp
  .exact ih _ h
noncomputable def jW(X:Cx)(scope:Scope)(N':List aj)(C:Ym)(cl:List (aj×Ym))(s:Yg)(H:Hp)(ex:List Ym):Cx:={X with N:=N',s₀:=s,H₀:=H,env:=uv scope cl C X.env,outer:=X.stack,stack:=X.stack,ex:=ex,fn:=λ_=>false,pn:=[],xe:=λ_ _=>False}
noncomputable def SN(N N':List aj)(scope:Scope):Bool:=(dX N.length).all λi=>match N'[i]? with
 |some x=>(scope.names.lookup x).isNone|| (decide (N[i]?=Ya x)&&decide (scope.names.lookup x=Ya .free))|none=>false
def vM(X:Cx)(ifs:List Expr)(ts:List E3):Prop:=∀(pins:List (Ym×aD)) (s:Yg) (σ:St) (H:Hp) (Q:Bool->Hp->Prop),Inv X pins σ H s ->
 (∃ι M env,ao X.K H ι M/\aY X.K H ι env σ/\match u_ ts env M with| .ok b M'=>∀H' ι',Ext X.K H ι H' ι'->ao X.K H' ι' M'->Q b H'|_=>False) ->
 Yz (Y4 X.prog X.w) X.A (forIn ifs true λc r=>if r=true then do let ok ←isTrue c X.env (aG c X.env);pure (ForInStep.yield ok)else pure (ForInStep.yield r)) (TP X pins σ Q) X.xe s
theorem K7:vM X [] []:=λpins s σ H Q I ⟨ι,M,env,S,E,h⟩=>wpAny_tests_nil ⟨H,I,h H ι Ext.refl S⟩
section
variable {prog:Y5} {w:aK} {A:bj} {R:p_->Yg->Prop} {s:Yg}
theorem Zkl{elt target iter:Expr}{ifs:List Expr}{scope:Scope}{pos:aM}{it acc:Yd}{env:cQ}(I:Nat->Yg->Prop)(turn:∀n s,I n s->Yz (Y4 prog w) A (iy it) (λr s₁=>match r with
   |none=>R (.ok .next) s₁|some v=>Yz (Y4 prog w) A (wQ target it v) (λ_ Gs=>Yz (Y4 prog w) A (lH target env v) (λ_ s₂=>
     Yz (Y4 prog w) A (forIn ifs true λc r=>if r=true then do let ok ←isTrue c env (aG c env);pure (ForInStep.yield ok)else pure (ForInStep.yield r)) (λok s₃=>
      if ok=true then Yz (Y4 prog w) A (aG elt env) (λx s₄=>Yz (Y4 prog w) A (call (.builtin "list.append") [acc,x]) (λ_ s₅=>∃m,m<n/\I m s₅) (λ_ _=>False) s₄) (λ_ _=>False) s₃
      else∃m,m<n/\I m s₃) (λ_ _=>False) s₂) (λ_ _=>False) Gs) (λ_ _=>False) s₁) (λ_ _=>False) s)(n:Nat)(h:I n s):j9 (Y4 prog w) A (.compLoop (.ListComp elt [⟨target,iter,ifs,0⟩] scope pos) 0 it acc env) R s:=by
 refine codeAny_loop rfl I (λn s hI=>?_) n h;show Yz _ A ((compTurn (.ListComp elt [⟨target,iter,ifs,0⟩] scope pos) 0 it acc env).onRaise (λx=>do nP x env;YD x)) _ _ s;refine wpAny_noted ?_;rw[compTurn_list];refine Yc (DY (Yc (eE (turn n s hI) (λr s₁ h₁=>?_) λ_ _ h'=>dw h')));cases r with
 |none=>exact Yk h₁|some v=>
  refine Yc (eE h₁ (λ_ Gs SQ=>?_) λ_ _ h'=>dw h');refine Yc (eE SQ (λ_ s₂ h₂=>Yc (eE h₂ (λok s₃ h₃=>?_) λ_ _ h'=>dw h')) λ_ _ h'=>dw h');cases ok with
  |false=>exact Yk ⟨rfl,h₃⟩|true=>exact Yc (Yc (eE h₃ (λx s₄ h₄=>Yc (eE h₄ (λ_ s₅ h₅=>Yk (Yk ⟨rfl,h₅⟩)) λ_ _ h'=>dw h')) λ_ _ h'=>dw h'))
end
theorem SX{env:cQ}{x:aj}{k:NameKind}:∀{names:List (aj×NameKind)},(names.map λ(n,k)=>if(k==NameKind.free&&env.scope.kind== .function&&env.kindOf n==Ya .cell)then(n,NameKind.cell)else(n,k)).lookup x=Ya k ->
  ∃k0,names.lookup x=Ya k0/\(k0=k\/(k0= .free/\k= .cell)):=by
 intro names
 induction names with
 |nil=>intro h;simp at h|cons y r ih=>
  intro h;obtain⟨n,k1⟩:=y;rw[Y9]at h;cases hx:x==n with
  | true=>
   refine⟨k1,by simp[jM,hx],?_⟩;by_cases hc:(k1==NameKind.free&&env.scope.kind== .function&&env.kindOf n==Ya .cell)=true
   .simp only[if_pos hc,jM,hx]at h;cases h;simp only[jb,beq_iff_eq]at hc;exact .inr ⟨hc.1.1,rfl⟩
   .simp only[if_neg hc,jM,hx]at h;cases h;exact .inl rfl
  | false=>
   have h':(r.map λ(n,k)=>if(k==NameKind.free&&env.scope.kind== .function&&env.kindOf n==Ya .cell)then(n,NameKind.cell)else(n,k)).lookup x=Ya k:=by
    by_cases hc:(k1==NameKind.free&&env.scope.kind== .function&&env.kindOf n==Ya .cell)=true
    .simp only[if_pos hc,jM,hx]at h;exact h
    .simp only[if_neg hc,jM,hx]at h;exact h
   obtain⟨k0,e,q⟩:=ih h';exact⟨k0,by simp[jM,hx,e],q⟩
theorem Zkc{env:cQ}{x:aj}:∀{names:List (aj×NameKind)},names.lookup x=Ya .free ->
  (names.map λ(n,k)=>if(k==NameKind.free&&env.scope.kind== .function&&env.kindOf n==Ya .cell)then(n,NameKind.cell)else(n,k)).lookup x=Ya .free\/
  (names.map λ(n,k)=>if(k==NameKind.free&&env.scope.kind== .function&&env.kindOf n==Ya .cell)then(n,NameKind.cell)else(n,k)).lookup x=Ya .cell:=by
 intro names
 induction names with
 |nil=>intro h;simp at h|cons y r ih=>
  intro h;obtain⟨n,k1⟩:=y;rw[Y9];cases hx:x==n with
  |true=>
   simp only[jM,hx]at h;cases h;by_cases hc:(NameKind.free==NameKind.free&&env.scope.kind== .function&&env.kindOf n==Ya .cell)=true
   .simp only[if_pos hc,jM,hx];exact .inr trivial
   .simp only[if_neg hc,jM,hx];exact .inl trivial
  |false=>
   simp only[jM,hx]at h;by_cases hc:(k1==NameKind.free&&env.scope.kind== .function&&env.kindOf n==Ya .cell)=true
   .simp only[if_pos hc,jM,hx];exact ih h
   .simp only[if_neg hc,jM,hx];exact ih h
section
variable {X:Cx} {pins:List (Ym×aD)} {σ:St} {H:Hp} {s:Yg} {scope:Scope} {N':List aj} {own:Nat} {fp:List Ym}
theorem Zky(I:Inv X pins σ H s)(hk:scope.kind= .function)(hcell:∀y∈scope.names,y.2≠ .cell)(hfree:∀y∈scope.names,y.2= .free->X.env.kindOf y.1=Ya .cell\/X.env.kindOf y.1=Ya .free)(hN:N'.length=X.N.length+own)(hv:SN X.N N' scope=true)(hfp:∀b∈fp,gq X pins H b)(hlt:∀b∈fp,b<s.heap.objs.size){h1:au}{tk:Nat}(hns:h1.Ns s.heap.objs.size λ_=>Yh)(keep:∀b o,s.heap.get? b=Ya o->h1.get? b=Ya o):
  Inv (jW X scope N' s.heap.objs.size (gG X.env.cells scope.names []) s H fp) [] (σ++Ye own Yh) H {s with heap:=h1,toks:=tk}:=by
 have hc0:∀y∈scope.names,y.2= .free->∃c,X.env.cells.lookup y.1=Ya c:=λy hy e=>I.ok.has y.1 (hfree y hy e);have sub:∀x c,(gG X.env.cells scope.names []).lookup x=Ya c->X.env.cells.lookup x=Ya c:=λx c h=>by
  rcases ZnL scope.names [] hc0 h with q|q
  .simp at q
  .exact q
 have cellK:∀{c:Ym} {v:Option Yd},s.heap.IsCell c v->h1.IsCell c v:=λ⟨o,ho,hd⟩=>⟨o,keep _ o ho,hd⟩;refine⟨⟨I.ok.mod,hk,I.ok.glob,I.ok.blt,Yl _,λx y c h1 h2=>I.ok.inj x y c (sub x c h1) (sub y c h2),λx hx=>?_,λx c h=>?_,I.ok.hd,I.ok.frames,.inl rfl,λb hb=>⟨eF (hlt b hb),λx c h=>(hfp b hb).2.2.2.2.1 x c (sub x c h)⟩,
   I.bs,Yv I.ok.mQ I.sz,λb o e hb=>?_,λb hb hz=>?_,I.stack,I.NP⟩,rfl,I.bare,Un.kept keep,⟨_,hns,λi x v h1 h2 h3=>?_⟩,λx c h=>?_,I.hok.fresh (Yl _),λx c h=>I.jH x c (sub x c h),
  λp hp=>absurd (show p∈([]:List (Ym×aD))from hp) (by simp),I.hok.kept keep,?_⟩
 .have hx':(uz scope X.env).names.lookup x=Ya .cell\/(uz scope X.env).names.lookup x=Ya .free:=hx;have:scope.names.lookup x=Ya .free:=by
   rcases hx' with hx'|hx'
   .obtain⟨k0,e,q⟩:=SX (names:=scope.names) hx';rcases q with q|⟨q,_⟩
    .subst q;exact absurd rfl (hcell _ (rH e))
    .rw[e,q]
   .obtain⟨k0,e,q⟩:=SX (names:=scope.names) hx';rcases q with q|⟨_,q⟩
    .rw[e,q]
    .cases q
  exact Iu.mp (Zjb scope.names [] (rH this))
 .cases h
 .obtain⟨_,_,_,q,_⟩:=hfp b hb;rcases q with q|q
  .exact I.ok.wF b o e q
  .exact absurd (Yn (Yu e) (Yv I.ok.mQ q)) (rZ _)
 .have hz':b∈frs X.stack:=hz;obtain⟨_,q1,q2,_⟩:=hfp b hb;rcases Y6.mp (I.uc b hz')with e|e
  .exact q1 e
  .exact q2 e
 .have hi:i<σ.length:=by
   by_cases hi:i<σ.length
   .exact hi
   .rw[wY (pD hi),Ji]at h2;split at h2<;>cases h2
  rw[Yx hi]at h2;have Ff:i<X.N.length:=by rw[←I.len];exact hi
  have hN':N'[i]?=Ya x:=h1;have vq:=nU.mp hv i (En.mpr Ff);rw[hN']at vq;have h3':(uz scope X.env).names.lookup x=Ya .local\/(uz scope X.env).names.lookup x=Ya .cell\/(uz scope X.env).names.lookup x=Ya .free:=h3;have some_of:∃k0,scope.names.lookup x=Ya k0:=by rcases h3' with q|q|q<;>(obtain⟨k0,e,_⟩:=SX (names:=scope.names) q;exact⟨k0,e⟩)
  obtain⟨k0,ek⟩:=some_of;simp only[ek,Option.isNone_some,Qf,jb,decide_eq_true_eq]at vq;obtain⟨vq1,vq2⟩:=vq;cases vq2;have hkind:=hfree (x,.free) (rH ek) rfl;obtain⟨m,hn,hl⟩:=I.loc;have Ac9:JW X.env.scope x:=by
   rcases hkind with q|q
   .exact .inr (.inl q)
   .exact .inr (.inr q)
  obtain⟨u,ru,lk⟩:=hl i x v vq1 h2 Ac9;refine⟨u,ru,?_⟩;rcases lk with⟨kl,_⟩|⟨_,c,ec,ic⟩
  .rcases hkind with q|q<;>(rw[q]at kl;cases kl)
  .have hkk:(uv scope (gG X.env.cells scope.names []) s.heap.objs.size X.env).kindOf x=Ya .cell\/(uv scope (gG X.env.cells scope.names []) s.heap.objs.size X.env).kindOf x=Ya .free:=by
    rcases Zkc (env:=X.env) ek with q|q
    .exact .inr q
    .exact .inl q
   obtain⟨c',ec'⟩:=Iu.mp (Zjb (cells:=X.env.cells) scope.names [] (rH ek));have e2:=sub x c' ec';rw[ec]at e2;cases e2;exact .inr ⟨hkk,c,ec',cellK ic⟩
 .obtain⟨v,ic⟩:=I.cell x c (sub x c h);exact⟨v,cellK ic⟩
 .show(σ++Ye own Yh).length=N'.length;rw[Yt,lM,I.len,hN]
theorem aY.grow{H:Hp}{σ:St}(E:aY K H ι env σ)(n:Nat):aY K H ι (env++Ye n Yh) (σ++Ye n Yh):=by
 refine⟨by simp[E.1],λi d h=>?_⟩;by_cases hi:i<env.length
 .rw[Yx hi]at h;obtain⟨v,e,r⟩:=E.2 i d h;exact⟨v,by rw[Yx (by rw[←E.1];exact hi)];exact e,r⟩
 .rw[wY (pD hi),Ji]at h;split at h<;>cases h
end
section
structure Cb where
 Y:Cx
 fp:List Ym
 tn:Nat->au->Prop
 aC:gA
 H2:Hp
 ι2:List Ym
 Q:VK
 g:G3
 ts:List E3
 f:E3
 nM:Nat
 acc:Ym
inductive S6(P:Cb)(n:Nat)(s':Yg):Prop
 | mk (k:Nat) (σ5:St) (H5:Hp) (ι5:List Ym) (M5:Store) (nJ:Zo) (I5:Inv P.Y [] σ5 H5 s') (iB:P.tn k s'.heap) (jw:∀b∈P.fp,H5 b=Yh) (hn:P.aC.items.length-k=n) (hk:k<=P.aC.items.length)
   (x5:Ext P.Y.K P.H2 P.ι2 H5 ι5) (S5:ao P.Y.K H5 ι5 M5) (E5:aY P.Y.K H5 ι5 nJ σ5) (hι:ι5[P.nM]?=Ya P.acc) (h5:Zy P.Y.K H5 ι5 P.Q (dg P.aC P.g P.ts P.f P.nM (P.aC.items.drop k) nJ M5))
def K8(P:Cb)(n:Nat)(s':Yg):Prop:=∃m,m<n/\S6 P m s'
section
noncomputable local instance (priority:=100000) AfB (p:Prop):Decidable p:=Wq p
noncomputable def K9(P:Cb)(k:Nat)(env:Zo)(e:D)(M2:Store):R3 D:=match M2[P.nM]? with
 |some (.lst x)=>if x.length<SZ then dg P.aC P.g P.ts P.f P.nM (P.aC.items.drop (k+1)) env (M2.set P.nM (.lst (x++[e])))else .bad|_=>.bad
noncomputable def S8(P:Cb)(k:Nat)(env:Zo)(b:Bool)(M1:Store):R3 D:=if b then(P.f env M1).bind (K9 P k env)else dg P.aC P.g P.ts P.f P.nM (P.aC.items.drop (k+1)) env M1
end
def cbF(P:Cb)(n:Nat)(xv:Yd)(s:Yg):Prop:=Yz (Y4 P.Y.prog P.Y.w) P.Y.A (call (.builtin "list.append") [.ref P.acc,xv]) (λ_ s'=>K8 P n s') P.Y.xe s
def cbO(P:Cb)(elt:Expr)(n:Nat)(ok:Bool)(s:Yg):Prop:=if ok=true then Yz (Y4 P.Y.prog P.Y.w) P.Y.A (aG elt P.Y.env) (cbF P n) P.Y.xe s else K8 P n s
def cbS(P:Cb)(elt:Expr)(ifs:List Expr)(n:Nat)(s:Yg):Prop:=Yz (Y4 P.Y.prog P.Y.w) P.Y.A (forIn ifs true λc r=>if r=true then do let ok ←isTrue c P.Y.env (aG c P.Y.env);pure (ForInStep.yield ok)else pure (ForInStep.yield r)) (cbO P elt n) P.Y.xe s
def cbA(P:Cb)(tg elt:Expr)(ifs:List Expr)(n:Nat)(u:Yd)(s:Yg):Prop:=Yz (Y4 P.Y.prog P.Y.w) P.Y.A (lH tg P.Y.env u) (λ_=>cbS P elt ifs n) P.Y.xe s
def cbN(P:Cb)(tg elt:Expr)(ifs:List Expr)(it:Ym)(n:Nat)(F:Yg->Prop)(r:Option Yd)(s:Yg):Prop:=match r with
 |none=>F s|some v=>Yz (Y4 P.Y.prog P.Y.w) P.Y.A (wQ tg (.ref it) v) (λ_=>cbA P tg elt ifs n v) P.Y.xe s
variable {P:Cb} {tg elt:Expr} {ifs:List Expr} {J:It} {it:Ym} {k:Nat} {h7:au} {σ:St} {H H':Hp} {s:Yg} {ι:List Ym} {M M1:Store} {env:Zo}
theorem Znl(T:Turn P.Y.prog P.Y.w P.Y.K tg J P.fp it P.tn)(ir:P.tn (k+1) h7)(hlt:k<P.aC.items.length)(I':Inv P.Y ([]++pJ P.fp h7) σ H s)(x:Ext P.Y.K P.H2 P.ι2 H ι)(S:ao P.Y.K H ι M)(E:aY P.Y.K H ι env σ)(hι:ι[P.nM]?=Ya P.acc)(h:Zy P.Y.K H ι P.Q (dg P.aC P.g P.ts P.f P.nM (P.aC.items.drop (k+1)) env M)):K8 P (P.aC.items.length-k) s:=⟨P.aC.items.length-(k+1),lD 2 0x30113c2012a1c0c21 T1 (pC (lB 1 6991908881 T1 hlt)) (pG _ _),⟨k+1,σ,H,ι,M,env,I'.yX,T.keep _ _ _ ir λb hb o e=>(I'.pin (b,o) (lK _ (lK _ (Ab hb e)))).1,λb hb=>(T.obj _ _ ir b hb).elim λo e=>(I'.pin (b,o) (lK _ (lK _ (Ab hb e.1)))).2.1,rfl,hlt,x,S,E,hι,h⟩⟩
theorem ZvN:S8 P k env true M=(P.f env M).bind (K9 P k env):=if_pos rfl
theorem Zwx:S8 P k env false M=dg P.aC P.g P.ts P.f P.nM (P.aC.items.drop (k+1)) env M:=if_neg (by decide)
theorem Zy.iff{H:Hp}{ι:List Ym}{c:Prop}{dc:Decidable c}{r:R3 D}(h:Zy K H ι Q (if c then r else .bad)):c/\Zy K H ι Q r:=by
 by_cases hc:c
 .rw[if_pos hc]at h;exact⟨hc,h⟩
 .rw[if_neg hc]at h;exact h.elim
theorem ZtP{v:V}{xv:Yd}(T:Turn P.Y.prog P.Y.w P.Y.K tg J P.fp it P.tn)(ir:P.tn (k+1) h7)(hlt:k<P.aC.items.length)(I':Inv P.Y ([]++pJ P.fp h7) σ H s)(r:RelV v xv)(x:Ext P.Y.K P.H2 P.ι2 H ι)(S:ao P.Y.K H ι M)(E:aY P.Y.K H ι env σ)(rd:Rep P.Y.K H ι d v)(hι:ι[P.nM]?=Ya P.acc)(hm:M[P.nM]?=Ya (.lst xs))(hz:xs.length<SZ)(h:Zy P.Y.K H ι P.Q (dg P.aC P.g P.ts P.f P.nM (P.aC.items.drop (k+1)) env (M.set P.nM (.lst (xs++[d]))))):
  cbF P (P.aC.items.length-k) xv s:=by
 obtain⟨vs,ev,rvs⟩:=S.obj _ _ _ hm hι;obtain⟨x11,S_⟩:=S.Dv (.inr (.inl ⟨_,ev⟩)) hι (rvs.append (Zv.cons rd Zv.nil));refine aH (Q':=λ_ s'=>K8 P (P.aC.items.length-k) s') (Rj _ s σ H (.ref P.acc) [v] (.ref P.acc) [xv] (λ_ H'=>H'=upd H P.acc (.lst (vs++[v]))) I' rfl (.cons r .nil) ⟨_,vs,v,rfl,rfl,ev,by rw[rvs.length];exact Yn hz lq,rfl⟩) λ_ s11 ak=>?_;obtain⟨_,H11,Gu,_,eH⟩:=ak;rw[eH]at Gu;exact Znl T ir hlt Gu (x.trans x11) S_ (E.mono x11) (x11.pre _ _ hι) (h.up x11)
theorem Zul(T:Turn P.Y.prog P.Y.w P.Y.K tg J P.fp it P.tn)(helt:C3 P.Y elt P.f)(ir:P.tn (k+1) h7)(hlt:k<P.aC.items.length)(I':Inv P.Y ([]++pJ P.fp h7) σ H s)(x:Ext P.Y.K P.H2 P.ι2 H ι)(S:ao P.Y.K H ι M)(E:aY P.Y.K H ι env σ)(hι:ι[P.nM]?=Ya P.acc)(h:Zy P.Y.K H ι P.Q ((P.f env M).bind (K9 P k env))):
  Yz (Y4 P.Y.prog P.Y.w) P.Y.A (aG elt P.Y.env) (cbF P (P.aC.items.length-k)) P.Y.xe s:=by
 obtain⟨d,xY,e10,h10⟩:=Zy.bind h;refine aH (Q':=cbF P (P.aC.items.length-k)) (helt _ s σ H (λv H'=>∃tO,Ext P.Y.K H ι H' tO/\ao P.Y.K H' tO xY/\Rep P.Y.K H' tO d v) I' ⟨ι,M,env,S,E,by rw[e10];exactλv H' ι' x' S' r'=>⟨ι',x',S',r'⟩⟩) λxv s10 ak=>?_;obtain⟨v,H10,Tc,r10,tO,x10,Td,rd⟩:=ak;unfold K9 at h10;cases hm:xY[P.nM]? with
 |none=>rw[hm]at h10;exact h10.elim|some o=>
  rw[hm]at h10;cases o with
  |dct _=>exact h10.elim|dJ _=>exact h10.elim|ins _ _=>exact h10.elim|lst xs=>exact ZtP T ir hlt Tc r10 (x.trans x10) Td (E.mono x10) rd (x10.pre _ _ hι) hm (Zy.iff h10).1 ((Zy.iff h10).2.up x10)
theorem Ztz(T:Turn P.Y.prog P.Y.w P.Y.K tg J P.fp it P.tn)(hts:vM P.Y ifs P.ts)(helt:C3 P.Y elt P.f)(ir:P.tn (k+1) h7)(hlt:k<P.aC.items.length)(I':Inv P.Y ([]++pJ P.fp h7) σ H s)(x:Ext P.Y.K P.H2 P.ι2 H ι)(S:ao P.Y.K H ι M)(E:aY P.Y.K H ι env σ)(hι:ι[P.nM]?=Ya P.acc)(h:Zy P.Y.K H ι P.Q ((u_ P.ts env M).bind (S8 P k env))):
  cbS P elt ifs (P.aC.items.length-k) s:=by
 obtain⟨b,M9,e9,h9⟩:=Zy.bind h;refine aH (Q':=cbO P elt (P.aC.items.length-k)) (hts _ s σ H (λb' H'=>b'=b/\∃ι9,Ext P.Y.K H ι H' ι9/\ao P.Y.K H' ι9 M9) I' ⟨ι,M,env,S,E,by rw[e9];exactλH' ι' x' S'=>⟨rfl,ι',x',S'⟩⟩) λb' s9 ak=>?_;obtain⟨H9,I9,eb,ι9,x9,S9⟩:=ak;rw[←eb]at h9;cases b' with
 |false=>exact Znl T ir hlt I9 (x.trans x9) S9 (E.mono x9) (x9.pre _ _ hι) (Zy.up x9 (Zwx▸h9))|true=>exact Zul T helt ir hlt I9 (x.trans x9) S9 (E.mono x9) (x9.pre _ _ hι) (Zy.up x9 (ZvN▸h9))
theorem Zv5(T:Turn P.Y.prog P.Y.w P.Y.K tg J P.fp it P.tn)(hc:P.Y.calm=true)(hfp:∀{H':Hp},(∀b∈P.fp,H' b=Yh)->∀b∈P.fp,gq P.Y [] H' b)(hg:CG P.Y tg P.g)(hts:vM P.Y ifs P.ts)(helt:C3 P.Y elt P.f)(hlt:k<P.aC.items.length)(I5:Inv P.Y [] σ H s)(iB:P.tn k s.heap)(jw:∀b∈P.fp,H b=Yh)(x:Ext P.Y.K P.H2 P.ι2 H ι)(S:ao P.Y.K H ι M)(E:aY P.Y.K H ι env σ)(hι:ι[P.nM]?=Ya P.acc)(ok:jT P.Y.K P.H2 P.ι2 P.aC J)(h:Zy P.Y.K H ι P.Q (dg P.aC P.g P.ts P.f P.nM (P.aC.items[k]::P.aC.items.drop (k+1)) env M))(F:Yg->Prop):
  Yz (Y4 P.Y.prog P.Y.w) P.Y.A (iy (.ref it)) (cbN P tg elt ifs it (P.aC.items.length-k) F) P.Y.xe s:=by
 obtain⟨lk,h⟩:=Zy.iff h;obtain⟨go,yl⟩:=(ok k H ι M x S lk).1 _ (Y3 hlt);cases eg:P.g P.aC.items[k] env with
 |none=>rw[eg]at h;exact h.elim|some zc=>rw[eg]at h;refine aH (T.item P.Y rfl rfl rfl hc k [] s σ H P.Y.xe I5 (hfp jw) iB go) λr s6 ak=>?_;obtain⟨u,hr,h6⟩:=ak;rw[hr];refine aH (Q':=λ_=>cbA P tg elt ifs (P.aC.items.length-k) u) h6 λ_ s7 ak=>?_;obtain⟨y,H7,I7,r7,y7,ir,Gv⟩:=ak;obtain⟨e7,rx⟩:=yl y H7 y7;rw[e7]at I7 Gv;refine aH (Q':=λ_=>cbS P elt ifs (P.aC.items.length-k)) (hg _ s7 σ H y u (λσ' H'=>H'=H/\aY P.Y.K H ι zc σ') (I7.pinned (hfp Gv) (T.obj _ _ ir)) r7 ⟨ι,M,env,_,zc,S,E,rx,eg,λσ' E'=>⟨rfl,E'⟩⟩) λ_ s8 ak=>?_;obtain⟨σ8,H8,I8,e8,E8⟩:=ak;rw[e8]at I8;exact Ztz T hts helt ir hlt I8 x S E8 hι h
theorem Zsb(T:Turn P.Y.prog P.Y.w P.Y.K tg J P.fp it P.tn)(hc:P.Y.calm=true)(hfp:∀{H':Hp},(∀b∈P.fp,H' b=Yh)->∀b∈P.fp,gq P.Y [] H' b)(I5:Inv P.Y [] σ H s)(iB:P.tn P.aC.items.length s.heap)(jw:∀b∈P.fp,H b=Yh)(x:Ext P.Y.K P.H2 P.ι2 H ι)(S:ao P.Y.K H ι M)(hι:ι[P.nM]?=Ya P.acc)(ok:jT P.Y.K P.H2 P.ι2 P.aC J)(h:Zy P.Y.K H ι P.Q (dg P.aC P.g P.ts P.f P.nM [] env M)){F:Yg->Prop}(hF:∀s6,Inv P.Y [] σ H s6->P.Q (.ref P.acc) H->F s6):
  Yz (Y4 P.Y.prog P.Y.w) P.Y.A (iy (.ref it)) (cbN P tg elt ifs it n F) P.Y.xe s:=by
 obtain⟨lk,h⟩:=Zy.iff h;refine aH (T.done P.Y rfl rfl rfl hc _ [] s σ H P.Y.xe I5 (hfp jw) iB ((ok _ H ι M x S lk).2 rfl)) λr s6 ak=>?_;rw[ak.1];exact hF s6 ak.2 (h _ H ι Ext.refl S (Rep.ref hι))
end
variable{s:Yg}{E:Yd->Yg->Prop}{fp:List Ym}{pins:List (Ym×aD)}{it:Ym}
section
variable {X:Cx} {elt tg iter:Expr} {ifs:List Expr} {scope:Scope} {pos:aM} {i:I3} {own:Nat} {g:G3} {ts:List E3} {f:E3} {N':List aj}
structure xZ(X:Cx)(scope:Scope)(N':List aj)(own:Nat):Prop where
 kind:scope.kind= .function
 cell:∀y∈scope.names,y.2≠ .cell
 free:∀y∈scope.names,y.2= .free->X.env.kindOf y.1=Ya .cell\/X.env.kindOf y.1=Ya .free
 names:∀y∈scope.names,y.2= .local->scope.names.lookup y.1=Ya .local
 len:N'.length=X.N.length+own
 vis:SN X.N N' scope=true
theorem ZrI{P:Cb}{J:It}{F:Yg->Prop}(T:Turn P.Y.prog P.Y.w P.Y.K tg J P.fp it P.tn)(hc:P.Y.calm=true)(hfp:∀{H':Hp},(∀b∈P.fp,H' b=Yh)->∀b∈P.fp,gq P.Y [] H' b)(hb:CG P.Y tg P.g/\vM P.Y ifs P.ts/\C3 P.Y elt P.f)(ok:jT P.Y.K P.H2 P.ι2 P.aC J)(z:S6 P n s)(fin:∀σ H s',Inv P.Y [] σ H s'->P.Q (.ref P.acc) H->F s'):Yz (Y4 P.Y.prog P.Y.w) P.Y.A (iy (.ref it)) (cbN P tg elt ifs it n F) P.Y.xe s:=by
 obtain⟨k,σ5,H5,ι5,M5,nJ,I5,iB,jw,hn,hk,x5,S5,E5,hι,h5⟩:=z;by_cases hlt:k<P.aC.items.length
 .rw[zG hlt]at h5;exact hn▸Zv5 T hc hfp hb.1 hb.2.1 hb.2.2 hlt I5 iB jw x5 S5 E5 hι ok h5 _
 .rw[iK hk (pD hlt)]at iB h5;rw[El]at h5;exact Zsb T hc hfp I5 iB jw x5 S5 hι ok h5 λs6 I6 q=>fin σ5 H5 s6 I6 q
theorem Zlk{s3:Yg}{H2 H3:Hp}{ι2 ι3:List Ym}{M3:Store}{nM:Nat}{D:Ym}{tn:Nat->au->Prop}{J:It}{aC:gA}(O:xZ X scope N' own)(hc:X.calm=true)(hb:∀C cl s H ex,CG (jW X scope N' C cl s H ex) tg g/\vM (jW X scope N' C cl s H ex) ifs ts/\C3 (jW X scope N' C cl s H ex) elt f)(T:Turn X.prog X.w X.K tg J fp it tn)(st3:tn 0 s3.heap)(ul:∀b∈fp,b<s3.heap.objs.size)(I3:Inv X pins σ H3 s3)(gJ:∀b∈fp,gq X pins H3 b)(x3:Ext X.K H2 ι2 H3 ι3)(S3:ao X.K H3 ι3 M3)(E2:aY X.K H3 ι3 env σ)(ok:jT X.K H2 ι2 aC J)(h:Zy X.K H3 ι3 Q (dg aC g ts f nM aC.items (env++Ye own Yh) M3))(hι:ι3[nM]?=Ya D)(RR:Yd->Ym->p_->Yg->Prop)(fin:∀(acc C:Ym) (s':Yg) (m:aj->Option Yd) (H':Hp),s'.heap.Ns C m->gq X pins H' C->Inv X pins σ H' s'->Q (.ref acc) H'->RR (.ref acc) C (.ok .next) s'):
  Yz (Y4 X.prog X.w) X.A (O4 scope X.env.globals (gG X.env.cells scope.names []) [] X.env.qual Yh .none (Ya X.env)) (λcenv s₄=>j9 (Y4 X.prog X.w) X.A (.compStart (.ListComp elt [⟨tg,iter,ifs,0⟩] scope pos) 0 (.ref it) (.ref D) {cenv with scope:=uz scope X.env}) (RR (.ref D) cenv.locals) s₄) E s3:=by
 refine XF O.cell (by intro y hy;cases hy) (λh4 hns hsb=>?_) O.kind;have Dr:∀b o,s3.heap.get? b=Ya o->h4.get? b=Ya o:=λb o e=>hsb.extBut b o (eF (Yu e)) (Yi _ e);have I4:=Zky (own:=own) (N':=N') (tk:=s3.toks+([]:List (aj×Yd)).length) I3 O.kind O.cell O.free O.len O.vis gJ ul hns Dr;have Gw:tn 0 h4:=T.keep _ _ _ st3 λb hb o e=>Dr b o e;have L:=Zkl (prog:=X.prog) (w:=X.w) (A:=X.A) (R:=RR (.ref D) s3.heap.objs.size) (scope:=scope) (pos:=pos) (iter:=iter) (elt:=elt) (target:=tg) (ifs:=ifs) (env:=uv scope (gG X.env.cells scope.names []) s3.heap.objs.size X.env) (S6 ⟨jW X scope N' s3.heap.objs.size (gG X.env.cells scope.names []) s3 H3 fp,fp,tn,aC,H2,ι2,Q,g,ts,f,nM,D⟩) (λn s5 z=>ZrI (P:=⟨jW X scope N' s3.heap.objs.size (gG X.env.cells scope.names []) s3 H3 fp,fp,tn,aC,H2,ι2,Q,g,ts,f,nM,D⟩) T hc
  (λhn b hb=>⟨hn b hb,eF (ul b hb),λhz=>I4.ok.uf b hb hz,.inl hb,λx c hx=>(I4.ok.Aa b hb).2 x c hx,λp hp=>absurd (show p∈([]:List (Ym×aD))from hp) (by simp)⟩)
  (hb _ _ _ _ _) ok z
  λσ' H' s6 I6 q=>I6.loc.elim λm6 Gx=>fin _ _ s6 m6 H' Gx.1 (I3.ug (Yl _) I6.free) (I3.call' (ch:=fp) I6.os I6.base I6.hok I6.bare λb hb=>⟨(gJ b hb).2.2.2.1,(gJ b hb).2.1,(gJ b hb).2.2.2.2.1,(gJ b hb).2.2.2.2.2⟩) q) _
  ⟨0,_,_,_,_,_,I4,Gw,λb hb=>(gJ b hb).1,rfl,eG _,x3,S3,E2.grow own,hι,h⟩
 exact Xx L (T.self _ 0 _ _ _ Gw L)
theorem Zib{s2:Yg}{H2:Hp}{ι2:List Ym}{M2:Store}{tn:Nat->au->Prop}{J:It}{aC:gA}(O:xZ X scope N' own)(hc:X.calm=true)(hb:∀C cl s H ex,CG (jW X scope N' C cl s H ex) tg g/\vM (jW X scope N' C cl s H ex) ifs ts/\C3 (jW X scope N' C cl s H ex) elt f)(I2:Inv X pins σ H2 s2)(T:Turn X.prog X.w X.K tg J fp it tn)(st0:tn 0 s2.heap)(hfp:∀b∈fp,gq X pins H2 b)(S2:ao X.K H2 ι2 M2)(E2:aY X.K H2 ι2 env σ)(ok:jT X.K H2 ι2 aC J)(h:Zy X.K H2 ι2 Q (dg aC g ts f M2.length aC.items (env++Ye own Yh) (M2++[.lst []])))(RR:Yd->Ym->p_->Yg->Prop)(fin:∀(acc C:Ym) (s':Yg) (m:aj->Option Yd) (H':Hp),s'.heap.Ns C m->gq X pins H' C->Inv X pins σ H' s'->Q (.ref acc) H'->RR (.ref acc) C (.ok .next) s'):
  Yz (Y4 X.prog X.w) X.A (Jh []) (λacc s₃=>Yz (Y4 X.prog X.w) X.A (O4 scope X.env.globals (gG X.env.cells scope.names []) [] X.env.qual Yh .none (Ya X.env)) (λcenv s₄=>j9 (Y4 X.prog X.w) X.A (.compStart (.ListComp elt [⟨tg,iter,ifs,0⟩] scope pos) 0 (.ref it) acc {cenv with scope:=uz scope X.env}) (RR acc cenv.locals) s₄) E s₃) E s2:=by
 refine ur ?_;have hD:H2 s2.heap.objs.size=Yh:=I2.hok.fresh (Yl _);obtain⟨x3,S3,r3⟩:=S2.lst hD (Zv.nil (K:=X.K) (H:=H2) (ι:=ι2));have I3:Inv X pins σ (upd H2 s2.heap.objs.size (.lst [])) {s2 with heap:=s2.heap.push {cls:=.type "list",data:=.seq ([]:List Yd).toArray}}:=I2.laid (t':=s2.toks) (λb u e=>Yi _ e) (Yl _) ⟨eG _,[],0,.nil,Y1 _ rfl⟩;have rE:∀b o,s2.heap.get? b=Ya o->(s2.heap.push {cls:=.type "list",data:=.seq ([]:List Yd).toArray}).get? b=Ya o:=λb o e=>Yi _ e;generalize hs3:({s2 with heap:=s2.heap.push {cls:=.type "list",data:=.seq ([]:List Yd).toArray}}:Yg)=s3 at I3 ⊢;have rE:∀b o,s2.heap.get? b=Ya o->s3.heap.get? b=Ya o:=by rw[←hs3];exact rE
 have Te:∀b∈fp,b<s2.heap.objs.size:=λb hb=>(T.obj _ _ st0 b hb).elim λo e=>Yu e.1;have ul:∀b∈fp,b<s3.heap.objs.size:=λb hb=>(T.obj _ _ st0 b hb).elim λo e=>Yu (rE b o e.1);exact Zlk O hc hb (T:=T) (st3:=T.keep _ _ _ st0 λb hb o e=>rE b o e) (ul:=ul) (I3:=I3) (gJ:=λb hb=>⟨(cW (eF (Te b hb))).trans (hfp b hb).1,(hfp b hb).2⟩) (x3:=x3) (S3:=S3) (E2:=E2.mono x3) (ok:=ok) (h:=h.up x3) (hι:=by rw[←S2.len];simp) RR fin
theorem Zvx(O:xZ X scope N' own)(xW:X.xe=λ_ _=>False)(hc:X.calm=true)(hi:CI X tg iter i)(hb:∀C cl s H ex,CG (jW X scope N' C cl s H ex) tg g/\vM (jW X scope N' C cl s H ex) ifs ts/\C3 (jW X scope N' C cl s H ex) elt f)(hs:∀x,wN iter X.env x=pure x:=by intro _;rfl):C3 X (.ListComp elt [⟨tg,iter,ifs,0⟩] scope pos) (lW i own g ts f):=by intro pins s σ H Q I h;obtain⟨ι,M,env,S,E,h⟩:=h;obtain⟨aC,M1,e1,h⟩:=Zy.bind h;have hc0:∀y∈scope.names,y.2= .free->∃c,X.env.cells.lookup y.1=Ya c:=λy hy e=>I.ok.has y.1 (O.free y hy e);rw[eval_ListComp];refine Ov (use:=Yh) rfl hs (SM hc0) O.kind O.names ?_;refine aH (hi pins s σ H (λJ H'=>∃ι',Ext X.K H ι H' ι'/\ao X.K H' ι' M1/\jT X.K H' ι' aC J) I ⟨ι,M,env,S,E,by rw[e1];exactλJ H' ι' x S' o=>⟨ι',x,S',o⟩⟩) λv s1 h1=>aH h1 λitv s2 h2=>?_;obtain⟨it,fp,tn,J,H2,rfl,I2,T,st2,f2,ι2,x2,S2,ok⟩:=h2;refine Zib (own:=own) (g:=g) (ts:=ts) (f:=f) O hc hb I2 T st2 f2 S2 (E.mono x2) ok (h.up x2) (λacc C=>rO (Y4 X.prog X.w) X.A X.xe Yh (EP X pins σ Q) acc C) ?_;intro acc C s' m H' hn hf I' hq;obtain⟨f0,f1,f2',f3,f4,f5⟩:=hf;exact⟨m,hn,λh' sb=>⟨.ref acc,H',I'.turned (t':=s'.toks) (λb o hb e=>(sb.2 b hb).trans e) f0 f1 f3 f4 f5,rfl,hq⟩⟩
theorem Zkw(j:Nat){x:aj}{pos' spos:aM}(O:xZ X scope N' own)(xW:X.xe=λ_ _=>False)(hc:X.calm=true)(hN:X.N.Nodup)(hi:CI X tg iter i)(hb:∀C cl s H ex,CG (jW X scope N' C cl s H ex) tg g/\vM (jW X scope N' C cl s H ex) ifs ts/\C3 (jW X scope N' C cl s H ex) elt f)(hj:X.N[j]?=Ya x:=by rfl)(hx:Loc X.env.scope x:=by first|exact Or.inl rfl|exact Or.inr rfl)(hf:X.fn x=true\/X.env.scope.names.lookup x=Ya .local:=by first|exact .inl rfl|exact .inr rfl)(hsw:nO (.ListComp elt [⟨tg,iter,ifs,0⟩] scope pos) (Ya (.Name x pos')) spos.line X.env=pure true:=by rfl)(hs:∀x,wN iter X.env x=pure x:=by intro _;rfl):CS X (.Assign [.Name x pos'] (.ListComp elt [⟨tg,iter,ifs,0⟩] scope pos) spos) (aF j (lW i own g ts f)):=by
 intro pins s σ H D I h;obtain⟨ι,M,env,S,E,h⟩:=h;have h0:Zy X.K H ι (λv H'=>D.nx (σ.set j (Ya v)) H') (lW i own g ts f env M):=by
  unfold aF at h;cases q:lW i own g ts f env M with
  |ok d M1=>rw[q]at h;exactλv H1 ι1 x1 S1 r1=>h _ H1 ι1 x1 S1 ((E.mono x1).set j r1)|exc _ _=>rw[q]at h;exact h.elim|bad=>rw[q]at h;exact h.elim
 obtain⟨aC,M1,e1,h1⟩:=Zy.bind h0;have hc0:∀y∈scope.names,y.2= .free->∃c,X.env.cells.lookup y.1=Ya c:=λy hy e=>I.ok.has y.1 (O.free y hy e);rw[Xz _ _ _ _ hsw];refine Yc (DY (Yc ?_));show Yz _ X.A (do let _ ←comprehension (.ListComp elt [⟨tg,iter,ifs,0⟩] scope pos) scope X.env _ (Jh []) false (aG iter X.env) (Ya (lH (.Name x pos') X.env))) _ _ s;refine Yc (eE (Ov (use:=Ya (lH (.Name x pos') X.env)) (Q:=λ_ s'=>SP X pins D .next s') rfl hs (SM hc0) O.kind O.names ?_) (λ_ s' hq=>Yk (Yk hq)) λ_ _ e=>e);refine aH (hi pins s σ H (λJ H'=>∃ι',Ext X.K H ι H' ι'/\ao X.K H' ι' M1/\jT X.K H' ι' aC J) I ⟨ι,M,env,S,E,by rw[e1];exactλJ H' ι' x S' o=>⟨ι',x,S',o⟩⟩) λv s1 h1'=>aH h1' λitv s2 h2=>?_;obtain⟨it,fp,tn,J,H2,rfl,I2,T,st2,f2,ι2,x2,S2,ok⟩:=h2;refine Zib (own:=own) (g:=g) (ts:=ts) (f:=f) O hc hb I2 T st2 f2 S2 (E.mono x2) ok (h1.up x2) (λacc C=>rO (Y4 X.prog X.w) X.A X.xe (Ya (lH (.Name x pos') X.env)) (λ_ s'=>SP X pins D .next s') acc C) ?_;intro acc C s' m H' hn Tf I' hq;obtain⟨f0,f1,f2',f3,f4,f5⟩:=Tf;show Yz _ X.A (lH (.Name x pos') X.env (.ref acc)) _ _ s';refine Oz (QT I' hN hj hx (show RelV (.ref acc) (.ref acc)from rfl) (λs'' Tg ⟨a,sb,ha⟩=>?_) hf);have Th:C≠a:=by
  rcases ha with rfl|ha
  .exact f1
  .exact bW (f4 x a ha)
 exact⟨m,hn.sameBut sb Th,λh' Ti=>⟨_,H',Tg.turned (t':=s''.toks) (λb o hb e=>(Ti.2 b hb).trans e) f0 f1 f3 f4 f5,hq⟩⟩
end
theorem gn{k:Nat}(r:b_ k A):A.units+80<fP:=by have:=r.un;exact lC 1 0x2502b0c12c82b110d0cc11 T1 this
noncomputable def Its(x:aj):It:=⟨λi _=>i<x.cps.size,λi H y H'=>H'=H/\∃c,x.cps[i]?=Ya c/\y= .str ⟨#[c]⟩,λi _=>i=x.cps.size⟩
variable{w:aK}
theorem ZoW{P:Y5}{tg:Expr}{x:aj}{t:gY}{ty:String}(W:∀A':bj,A'.handled=Yh->Walks P w A' it [it] [it] x.cps.size (SignAt x) (λi h=>h.IsStrIter it ty x t i))(hs:∀(A:bj) (i:Nat) (s:Yg) (Q:Yd->Yg->Prop) (E:Yd->Yg->Prop),s.heap.IsStrIter it ty x t i->Q (.ref it) s->Yz (Y4 P w) A (zE (.ref it)) Q E s)(hty:["enumerate","zip","dict_itemiterator","dict_reverseitemiterator","odict_iterator","itertools.zip_longest","itertools.pairwise"].contains ty=false):Turn P w K tg (Its x) [it] it (λi h=>h.IsStrIter it ty x t i)where
 mem:=by simp
 obj:=λi h st b hb=>by
  have e:b=it:=by simpa using hb
  subst e;obtain⟨o,e,c,d⟩:=st;exact⟨o,e,λv z=>by rw[d]at z;cases z⟩
 keep:=λi h h' st k=>let⟨o,e,r⟩:=st;⟨o,k it (by simp) o e,r⟩
 item:=by intro X hP hw hK hc i pins s σ H E I hf st hg;subst hP hw hK;obtain⟨f0,f1,f2,f3,f4,f5⟩:=hf it (by simp);refine(W X.A (I.ok.hd hc)).item i s _ _ hg st λv h' tk hv st' kk=>?_;obtain⟨c,u,hx,rfl⟩:=hv;have I1:Inv X pins σ H {s with heap:=h',toks:=tk}:=I.turned (λb o hb e=>kk b o (by simpa using hb) e) f0 f1 f3 f4 f5;obtain⟨o,e,cc,d⟩:=id st';exact⟨_,rfl,J2 (s:={s with heap:=h',toks:=tk}) e cc d hty ⟨.str ⟨#[c]⟩,H,I1,⟨u,rfl⟩,⟨rfl,c,hx,rfl⟩,st',λb hb=>(hf b hb).1⟩⟩
 done:=by intro X hP hw hK hc i pins s σ H E I hf st hg;subst hP hw hK;obtain⟨f0,f1,f2,f3,f4,f5⟩:=hf it (by simp);have e:i=x.cps.size:=hg;subst e;exact(W X.A (I.ok.hd hc)).done s _ _ st λh' tk kk=>⟨rfl,I.turned (λb o hb e=>kk b o (by simpa using hb) e) f0 f1 f3 f4 f5⟩
 self:=hs
section
variable {X:Cx} {tg e o:Expr} {es:List Expr} {pos p apos cpos:aM} {f:E3} {gl:bU}
theorem Zuw(h:C3 X e f):PI X tg e (λσ H R=>lY X.K f σ H λx H1=>∃z:aj,x= .str z/\z.length<=SZ/\∀J,(∀ι,jT X.K H1 ι ⟨z.cps.toList.map λc=>.str [c],Yh⟩ J)->R J H1):=by
 intro pins s σ H R I hw;refine aH (h pins s σ H _ I hw) λv s1 ak=>?_;obtain⟨x,H1,I1,r1,z,ex,hz,q⟩:=ak;subst ex;obtain⟨t,rfl⟩:=r1;have key:∀(ty:String) (o:aD),(∀A':bj,A'.handled=Yh->Walks X.prog X.w A' s1.heap.objs.size [s1.heap.objs.size] [s1.heap.objs.size] z.cps.size (SignAt z) (λi h=>h.IsStrIter s1.heap.objs.size ty z t i)) ->
   (∀(A:bj) (i:Nat) (s:Yg) (Q:Yd->Yg->Prop) (E:Yd->Yg->Prop),s.heap.IsStrIter s1.heap.objs.size ty z t i->Q (.ref s1.heap.objs.size) s->Yz (Y4 X.prog X.w) A (zE (.ref s1.heap.objs.size)) Q E s) ->
   ["enumerate","zip","dict_itemiterator","dict_reverseitemiterator","odict_iterator","itertools.zip_longest","itertools.pairwise"].contains ty=false->(s1.heap.push o).IsStrIter s1.heap.objs.size ty z t 0 ->
   PIE X pins σ tg R (.ref s1.heap.objs.size) {s1 with heap:=s1.heap.push o}:=by
  intro ty o W hs hty st;refine⟨s1.heap.objs.size,[s1.heap.objs.size],_,_,H1,rfl,I1.kept (t':=s1.toks) λb o e=>Yi _ e,ZoW W hs hty,st,λb hb=>?_,q _ λι=>?_⟩
  .have e:b=s1.heap.objs.size:=by simpa using hb
   subst e;exact I1.ug (Yl _) (I1.hok.fresh (Yl _))
  .intro i H2 ι2 M2 x S _;refine⟨λd hd=>?_,λhl=>?_⟩
   .rw[mL]at hd;cases hq:z.cps.toList[i]? with
    |none=>rw[hq]at hd;cases hd|some c=>
     rw[hq]at hd;have hd':D.str [c]=d:=by simpa using hd
     subst hd';have hi:i<z.cps.size:=by have:=(Yf.mp hq).1;simpa using this
     refine⟨hi,λy H3 hy=>⟨hy.1,?_⟩⟩;obtain⟨_,c',hc',rfl⟩:=hy;have:c'=c:=by rw[←Qq,hq]at hc';exact(gP hc').symm
     subst this;exact Rep.str
   .show i=z.cps.size;rw[hl];simp
 cases ha:z.cps.all (· <128)
 .exact wpAny_pyIter_wide ha (key "str_iterator" _ (λA' hA=>Walks.strWide hA _ z t) (λ_ _ _ _ _ st h=>wpAny_pyIter_striter_wide st h) (by decide) ⟨_,Y1 _ rfl,rfl,rfl⟩)
 .exact wpAny_pyIter_ascii ha (key "str_ascii_iterator" _ (λA' hA=>Walks.strAscii hA _ z t) (λ_ _ _ _ _ st h=>wpAny_pyIter_striter_ascii st h) (by decide) ⟨_,Y1 _ rfl,rfl,rfl⟩)
theorem vN(h:C3 X e f):CI X tg e (kY f):=ZuD h (Zuw h)
theorem Ztf{T:String}{ty:D->Store->Bool}{m:D->List D->Store->R3 D}(hty:∀H ι M a x,ao K H ι M->Rep K H ι a x->ty a M=true->Ae K T x H)(σ:St)(H:Hp)(Q:VK)(h:lY K (bD ty m f gl) σ H Q):tBM K T (rM K m) (lY K f) (R8 K gl) σ H Q:=by
 obtain⟨ι,M,env,S,E,h⟩:=h;obtain⟨a,M1,e1,h⟩:=Zy.bind h;refine⟨ι,M,env,S,E,?_⟩;rw[e1];intro v H1 ι1 x1 S1 r1;by_cases ht:ty a M1=true
 .rw[if_pos ht]at h;obtain⟨ds,M2,e2,h⟩:=Zy.bind h;refine⟨hty _ _ _ _ _ S1 r1 ht,ι1,M1,env,S1,E.mono x1,?_⟩;rw[e2];intro vs H2 ι2 x2 S2 r2;exact⟨ι2,M2,a,ds,S2,r1.mono x2,r2,(h.up x1).up x2⟩
 .rw[if_neg ht]at h;exact h.elim
theorem Tj(H:Hp)(ι:List Ym)(M:Store)(a:D)(x:V)(S:ao K H ι M)(r:Rep K H ι a x)(h:bI a M=true):Ae K "list" x H:=by
 cases a with
 | ref n=>
  rw[Ao]at h;cases hn:M[n]? with
  |none=>rw[hn]at h;exact ft h|some o=>
   cases o with
   |dct _=>rw[hn]at h;exact ft h|dJ _=>rw[hn]at h;exact ft h|ins _ _=>rw[hn]at h;exact ft h|lst xs=>obtain⟨p,hp,rfl⟩:=r.fK;obtain⟨vs,e,_⟩:=S.obj n _ p hn hp;exact .inl ⟨rfl,vs,cB.of e⟩
 |_=>exact ft h
theorem _root_.L2.qD.imp{id:String}{r r':V->List V->Hp->VK->Prop}(h:qD X id r)(i:∀x xs H Q,r' x xs H Q->r x xs H Q):qD X id r':=λpins s σ H x xs v us Q I rx rs q=>h pins s σ H x xs v us Q I rx rs (i x xs H Q q)
theorem Zla:qD X "list.append" (rM X.K cj):=qD.imp (r:=Zm8) Rj λx xs H Q ak=>by
 obtain⟨ι,M,a,ds,S,ra,rd,h⟩:=ak;cases a with
 | ref n=>
  cases ds with
  |nil=>exact h.elim|cons d ds=>
   cases ds with
   |cons _ _=>exact h.elim|nil=>
    simp only[Ks]at h;cases hn:M[n]? with
    |none=>simp only[hn]at h;exact h.elim|some o=>
     cases o with
     |dct _=>simp only[hn]at h;exact h.elim|dJ _=>simp only[hn]at h;exact h.elim|ins _ _=>simp only[hn]at h;exact h.elim|lst z=>
      simp only[hn]at h;split at h
      .rename_i hz;obtain⟨p,hp,rfl⟩:=ra.fK;obtain⟨v,ws,rfl,r1,r2⟩:=rd.cons_inv;have:=r2.nil_inv;subst this;obtain⟨vs,e,rv⟩:=S.obj n _ p hn hp;obtain⟨x2,S2⟩:=S.Dv (.inr (.inl ⟨_,e⟩)) hp (rv.append (Zv.cons r1 Zv.nil));exact⟨p,vs,v,rfl,rfl,e,by rw[rv.length];exact Yn hz lq,h _ _ _ x2 S2 Rep.non⟩
      .exact h.elim
 |_=>exact h.elim
theorem jB(ho:C3 X o f)(ha:CA X (e::es) gl)(hbase:p7 o "append" X.env (aG o X.env)=aG o X.env:=by rfl)(hfew:((dm cpos (Yq (e::es) X.env)).all (λx=>!x.1)&&(pA cpos (pq [] X.env)).all (λx=>x.1.isSome)
   &&decide ((e::es).length+([]:List Keyword).length+(if([]:List Keyword).isEmpty then 0 else 1)<30))=true:=by rfl)(hline:(apos.endLine==cpos.line)=true:=by rfl)(hs:Yq (e::es) X.env=(false,aG e X.env)::Yq es X.env:=by rfl)(hplain:(dm cpos (Yq es X.env)).any (·.1)=false:=by rfl):
  C3 X (.Call (.Attribute o "append" apos) (e::es) [] cpos) (bD bI cj f gl):=
 (ZsN Qn Ygm Ygn Zla ho ha hbase hfew hline hs hplain).imp (Ztf Tj)
end
variable{items:Array Yd}
section
variable {X:Cx}
theorem Tn(hu:X.A.units+80<fP):aX X (j8 .NotEq) (r2 X.K sW):=by
 intro pins s σ H x y v u Q I rx ry h;obtain⟨ι,M,a,b,S,ra,rb,h⟩:=h;unfold sW at h;cases q:mX a b M with
 |none=>rw[q]at h;exact h.elim|some k=>rw[q]at h;exact(Zns hu I S ra rb rx ry q).2 X.prog X.w X.xe _ ⟨.bl (!k),H,I,rfl,Zy.ok h S Rep.bl⟩
theorem Zqi(x:List Nat)(n:Nat)(a:List Nat):(Ye n x.toArray).foldl (· ++ ·) a.toArray=(a++(Ye n x).flatten).toArray:=by
 induction n generalizing a with
 |zero=>simp|succ n ih=>rw[ju,qi,ju,qb];have:=ih (a++x);simp only[List.append_toArray]at this ⊢;rw[this];simp
theorem ZuM(x:List Nat)(k:Int):Txt.mul (⟨x.toArray⟩:aj) k=⟨(Ye k.toNat x).flatten.toArray⟩:=by
 unfold Txt.mul;split
 .rename_i h;have:k.toNat=0:=iK (su (Int.toNat_of_nonpos (iN [] [_] 1 235446417 T1 h))) (eG _);rw[this];rfl
 .split
  .rename_i h1 h2;simp only[uM,beq_iff_eq,qt,Ys]at h2;rcases h2 with h2|h2
   .subst h2;simp
   .have:x=[]:=Eh h2;subst this;simp
  .have:=Zqi x k.toNat [];rw[qj]at this;exact congrArg Str.mk this
theorem Zv.repl(r:Zv K H ι ds vs):∀k:Nat,Zv K H ι (Ye k ds).flatten (Ye k vs).flatten
 |0=>Zv.nil|k+1=>by rw[ju,ju,qb,qb];exact r.append (Zv.repl r k)
theorem pQ:aX X (gO .Mult) (r2 X.K eU):=by
 have hs:aX X (gO .Mult) (λx y H Q=>∃(z:List Nat) (k:Int),x= .str ⟨z.toArray⟩/\y= .int k/\z.length*k.toNat<=1000000/\k<1000000/\ -1000000<k/\Q (.str ⟨(Ye k.toNat z).flatten.toArray⟩) H):=by
  intro pins s σ H x y v u Q I rx ry h;obtain⟨z,k,rfl,rfl,h1,h2,h3,q⟩:=h;obtain⟨t,rfl⟩:=rx;obtain⟨t',rfl⟩:=ry;refine SB.mul ⟨?_,λh4 h5=>?_,λh4 h5=>?_⟩ λt'' tk=>?_
  .simp;omega
  .simp only[qt,Ys];simp at h4 h5;have hk:2<=k:=by
    simp only[qt,Ys]at h5;omega
   have e:(k.toNat:Int)=k:=Int.le_antisymm (Ew (sE (iN [] [_] 1 3892452225 T1 hk))) ((Eu _));have hm:(z.length:Int)*k<=1000000:=by have h1':((z.length*k.toNat:Nat):Int)<=1000000:=zV.mpr h1;rw[Qh,e]at h1';exact h1'
   have hd:(z.length:Int)<=9223372036854775807 / k:=Int.le_ediv_of_mul_le (iN [] [_] 1 3909229441 T1 hk) (by omega);show¬((z.length:Int)>(2^63-1) / k);have e3:((2:Int)^63-1)=9223372036854775807:=by decide
   rw[e3];exactλz=>iN [_] [_] 2 6599352549521 T1 z hd
  .unfold Builtin.Str.tooLong;simp only[qt,Ys,decide_eq_false_iff_not];have hsz:(1000000:Nat)<=Y8:=lq;exactλz=>lB 3 0x6f42405b1010f42405b011011 T1 z hsz h1
  .rw[ZuM];exact⟨.str _,H,I.tok _,⟨_,rfl⟩,q⟩
 refine aX.imp (aX.or ZsZ (aX.or hs Ztq)) λx y H Q ak=>?_;obtain⟨ι,M,a,b,S,ra,rb,h⟩:=ak;cases a with
 | int i=>cases b with
  |int j=>obtain⟨hm,h⟩:=vD h;refine .inl ⟨i,j,ra.int_inv,rb.int_inv,?_,Zy.ok h S Rep.int⟩;simp only[xN,uM,jb,decide_eq_true_eq]at hm;exact hm|_=>exact h.elim
 | str z=>cases b with
  |int k=>obtain⟨hz,h⟩:=vD h;exact .inr (.inl ⟨z,k,ra.str_inv,rb.int_inv,hz.1,hz.2.1,hz.2.2,Zy.ok h S Rep.str⟩)|_=>exact h.elim
 | ref n=>cases b with
  |int k=>
   have h:Zy X.K H ι Q (Ss M[n]? λx=>@ite _ (x.length*k.toNat<=SZ/\k<1000000/\ -1000000<k) (Yr _) (alloc (.lst (Ye k.toNat x).flatten) M) .bad):=h;obtain⟨z,hn,h⟩:=ZmP h;obtain⟨hz,h⟩:=vD h;obtain⟨p,hp,e'⟩:=ra.fK;obtain⟨vs,e,r⟩:=S.obj n _ p hn hp;refine .inr (.inr ⟨p,k,vs,e',rb.int_inv,e,?_,?_,by rw[r.length];exact Yv hz.1 lq,λq hq=>?_⟩)
   .exact Ey (by decide) (Jq hz.2.2)
   .exact Z6 hz.2.1 (by decide)
   obtain⟨x2,S2,r2⟩:=S.lst hq (Zv.repl r k.toNat);exact h _ _ _ x2 S2 r2
  |_=>exact h.elim
 |_=>cases b<;>exact h.elim
theorem Znk(n d:Nat)(hd:d<=n)(o:Option Int):(match o with|none=>(d:Int)|some i=>gQ 0 (iM (if i<0 then i+(n:Int)else i) (n:Int)))=((aB n d o:Nat):Int):=by
 cases o with
 |none=>rfl|some v=>
  show gQ 0 (iM (if v<0 then v+(n:Int)else v) (n:Int))=(((if v<0 then(v+(n:Int)).toNat else iM v.toNat n):Nat):Int);by_cases h:v<0
  .rw[if_pos h,if_pos h];exact QH v n h
  .rw[if_neg h,if_neg h];exact QJ v n h
theorem Zhg(lo hi:Option Int)(n:Nat):JB lo hi 1 n=(dX (aB n n hi-aB n 0 lo)).map (λk=>aB n 0 lo+k):=by
 have e1:=Znk n 0 (eG _) lo;have e2:=Znk n n (Yl _) hi;have key:JB lo hi 1 n=sliceRange ((aB n 0 lo:Nat):Int) ((aB n n hi:Nat):Int) 1:=by rw[←e1,←e2];simp only[JB,show((1:Int)>0)=True from by simp,if_true];cases lo<;>cases hi<;>rfl
 rw[key];generalize aB n 0 lo=a;generalize aB n n hi=b;simp only[sliceRange,show((1:Int)>0)=True from by simp,if_true];by_cases hlt:(a:Int)<b
 .have e3:(((b:Int)-a+1-1) / 1).toNat=b-a:=by first|exact iK (iN [_,_,_,_] [_] 3 0x230038a112c001aa1808fcf001d81 T1 (Int.mul_ediv_self_le (by decide)) (pG _ _) (sE (iN [_,_] [_] 2 0xe8a001dcaa0818fcf91180891 T1 hlt (Z5 (by decide))))) (iN [_,_,_,_] [_] 3 0x230013c2128081a001dcaa1808fcf91 T1 (Z5 (by decide)) (Eu _) (pC (iN [_,_] [] 1 4296542353 T1 hlt)))|(simp;done)|(simp;omega)
  simp only[hlt,if_true,e3];refine YW λk _=>?_;exact iK (iN [_,_,_] [] 1 0x21c002801d18c08a1 T1 (sE (iN [_,_] [] 0 103109659880 T1))) (iN [_,_,_] [] 1 0x210c0281801d08c81 T1 (Eu _))
 .have:b-a=0:=iK (su (ZV (iN [_,_] [] 1 270010577 T1 hlt))) (eG _);simp[hlt,this]
theorem J_(n d:Nat)(hd:d<=n)(o:Option Int):aB n d o<=n:=by
 cases o with
 |none=>exact hd|some v=>simp only[aB];split <;>omega
theorem ZlV(z:List Nat)(lo hi:Option Int)(l u:Option (Int×gY))(hl:l.map (·.1)=lo)(hu:u.map (·.1)=hi):
  (if((1:Int)==1&&(wW ⟨z.toArray⟩ l u Yh).length==(⟨z.toArray⟩:aj).length)=true then(⟨z.toArray⟩:aj)else⟨((wW ⟨z.toArray⟩ l u Yh).filterMap ((⟨z.toArray⟩:aj).cps[·]?)).toArray⟩)=⟨(cutD z lo hi).toArray⟩:=by
 have e0:wW ⟨z.toArray⟩ l u Yh=(dX (aB z.length z.length hi-aB z.length 0 lo)).map (λk=>aB z.length 0 lo+k):=by unfold wW;rw[hl,hu];simp only[qt,Ys];exact Zhg lo hi z.length
 have hb:=J_ z.length z.length (Yl _) hi;rw[e0];have pick:((dX (aB z.length z.length hi-aB z.length 0 lo)).map (λk=>aB z.length 0 lo+k)).filterMap ((⟨z.toArray⟩:aj).cps[·]?)=cutD z lo hi:=by
  unfold cutD;by_cases hab:aB z.length 0 lo<=aB z.length z.length hi
  .have h:=StrLaws.picks z (aB z.length z.length hi-aB z.length 0 lo) (aB z.length 0 lo) (lD 2 82120338080600065 T1 hb (pC hab));simpa using h
  .have:aB z.length z.length hi-aB z.length 0 lo=0:=iK (su (ZV (lB 1 1052737 T1 hab))) (eG _);rw[this];simp
 rw[pick];split
 .rename_i hc;simp only[iz,PJ,qt,Ys,jb,beq_iff_eq]at hc;have hc2:=hc.2;have h0:aB z.length 0 lo=0\/z.length=0:=by omega
  have:cutD z lo hi=z:=by
   unfold cutD;rcases h0 with h0|h0
   .rw[h0,ZK,wZ (by exact lD 3 0x3102001e3c2011031 T1 hc2 (pG _ _) (Er _ _))]
   .have:z=[]:=Eh h0;subst this;simp
  rw[this]
 .rfl
theorem ZsY:jj X (λx lo hi H Q=>∃z:List Nat,x= .str ⟨z.toArray⟩/\z.length<=SZ/\Q (.str ⟨(cutD z lo hi).toArray⟩) H):=by
 intro pins s σ H x v vl vu lo hi sl Q I rx hs pl pu h;obtain⟨z,rfl,hz,q⟩:=h;obtain⟨t,rfl⟩:=rx;have part:∀{v:Yd} {o:Option Int},IsPart v o->∃p:Option (Int×gY),v=partValue p/\p.map (·.1)=o:=by
  intro v o h;cases h with
  |none=>exact⟨Yh,rfl,rfl⟩|int i t=>exact⟨Ya (i,t),rfl,rfl⟩
 obtain⟨l,rfl,hl⟩:=part pl;obtain⟨u,rfl,hu⟩:=part pu;refine⟨"str",_,PySem.F.slot_str_getitem.lookup,Pj _ _ _,?_⟩;refine wpAny_getItem_str_slice (l:=l) (u:=u) (st:=Yh) hs rfl ?_;unfold sliceMade;refine post_val_or_made (λ_=>?_) λt' k=>?_
 .show((wW ⟨z.toArray⟩ l u Yh).filterMap ((⟨z.toArray⟩:aj).cps[·]?)).toArray.size<=Y8;rw[Ys];refine Yv (List.length_filterMap_le _ _) ?_;show(JB (l.map (·.1)) (u.map (·.1)) 1 (⟨z.toArray⟩:aj).length).length<=Y8;rw[Zhg];simp only[iz,PJ,qt,Ys];have:=J_ z.length z.length (Yl _) (u.map (·.1));have:=lq;omega
 .have e:=ZlV z lo hi l u hl hu;have e':(if(((Yh:Option (Int×gY)).map (·.1)).getD 1==1&&(wW ⟨z.toArray⟩ l u Yh).length==(⟨z.toArray⟩:aj).length)=true then(⟨z.toArray⟩:aj)else⟨((wW ⟨z.toArray⟩ l u Yh).filterMap ((⟨z.toArray⟩:aj).cps[·]?)).toArray⟩)=⟨(cutD z lo hi).toArray⟩:=e;rw[e'];exact⟨.str _,H,I.tok _,⟨_,rfl⟩,q⟩
theorem ZfX{prog:Y5}{t sl:Ym}{vl vu:Yd}{lo hi:Option Int}{Q:Yd->Yg->Prop}(ht:IsTup s.heap t items)(hs:s.heap.IsSliceOf sl vl vu .none)(pl:IsPart vl lo)(pu:IsPart vu hi)(hw:HT.aB items.size 0 lo=0/\HT.aB items.size items.size hi=items.size)(h:Q (.ref t) s):Yz (Y4 prog w) A (wX (.ref t) (.ref sl)) Q E s:=by
 obtain⟨os,hos,hcs,hds⟩:=id hs;have hTs:s.TypeIs (.ref sl) "slice":=⟨os,hos,hcs⟩;unfold wX
 try with_reducible refine mK ?_
 first|refine Yc (Yk ?_)|skip
 refine Yc (X4 ht.typeIs (by decide) ?_);refine Yc (rG (name:=nY "__getitem__") ht.typeIs Ju
  (rJ Ju ht.typeIs Yin ?_ (Yi2 _ _)))
 show Yz _ _ (Yfs (.ref t)>>=_) _ _ s;refine Yc (tupleItemsOf_ ht ?_);refine Yc (Ea hTs ?_);rw[if_pos (by decide)];refine Yc (HT.VN hs pl pu ?_);have Ada:(((HT.aB items.size 0 lo:Nat):Int)==0&&(1:Int)==1&&(HT.aB items.size items.size hi-HT.aB items.size 0 lo)==items.size)=true:=by rw[hw.1,hw.2];simp
 show Yz _ _ (if(((HT.aB items.size 0 lo:Nat):Int)==0&&(1:Int)==1&&(HT.aB items.size items.size hi-HT.aB items.size 0 lo)==items.size)=true then _ else _) _ _ s;rw[if_pos Ada];unfold Builtin.Tuple.tupleIsExact;refine Yc (Yc (Ea ht.typeIs (Yk ?_)));rw[if_pos (by decide)];exact Yc (zq (Yk ⟨_,rfl,Yk h⟩))
theorem ZrX:jj X (λx lo hi H Q=>∃a xs,x= .ref a/\cP X.K H a xs/\(HT.aB xs.length 0 lo=0/\HT.aB xs.length xs.length hi=xs.length)/\Q (.ref a) H):=by
 intro pins s σ H x v vl vu lo hi sl Q I rx hs pl pu h;obtain⟨a,xs,rfl,hx,hw,q⟩:=h;cases rx;obtain⟨its,r,ht,hz⟩:=I.tuple hx;have hlen:its.toArray.size=xs.length:=by rw[Ys];exact r.length.symm
 refine⟨"tuple",_,PyProof.Rows.slot_tuple_getitem.lookup,ht.typeIs,?_⟩;exact ZfX ht hs pl pu (by rw[hlen];exact hw) ⟨.ref a,H,I,rfl,q⟩
theorem Gy:jj X (rS X.K):=jj.imp (jj.or (jj.or ZtF ZrX) (jj.or Zq3 ZsY)) λx lo hi H Q ak=>by
 obtain⟨ι,M,a,S,ra,h⟩:=ak;have ex:∀n d o,HT.aB n d o=aB n d o:=λn d o=>by cases o<;>rfl
 cases a with
 | tup ds=>
  simp only[Ko,Kp,Kq,FJ]at h;obtain⟨p,vs,rfl,s,r⟩:=ra.jh;by_cases hw:aB ds.length 0 lo=0/\aB ds.length ds.length hi=ds.length
  .refine .inl (.inr ⟨p,vs,rfl,s,by rw[ex,ex,r.length];exact hw,?_⟩);have e:cutD ds lo hi=ds:=by unfold cutD;rw[hw.1,hw.2];simp
   rw[e]at h;exact Zy.ok h S (Rep.tup s r)
  .refine .inl (.inl ⟨p,vs,rfl,s,by rw[ex,ex,r.length];exact hw,λq hq=>?_⟩);obtain⟨x2,S2,r2⟩:=S.uh hq (SJ r lo hi);exact h _ _ _ x2 S2 r2
 |bH ds=>simp only[Ko,Kp,Kq,FJ]at h;obtain⟨p,vs,rfl,s,r⟩:=ra.t7;refine .inr (.inl ⟨p,vs,rfl,s.sq,λq hq=>?_⟩);obtain⟨x2,S2,r2⟩:=S.lst hq (SJ r lo hi);exact h _ _ _ x2 S2 r2|str z=>
  simp only[Ko,Kp,Kq,FJ]at h;split at h
  .rename_i hz;exact .inr (.inr ⟨z,ra.str_inv,hz,Zy.ok h S Rep.str⟩)
  .exact h.elim
 | ref n=>
  simp only[Ko,Kp,Kq,FJ]at h;cases hn:M[n]? with
  |none=>simp only[hn]at h;exact h.elim|some o=>
   cases o with
   |dct _=>simp only[hn]at h;exact h.elim|dJ _=>simp only[hn]at h;exact h.elim|ins _ _=>simp only[hn]at h;exact h.elim|lst ds=>simp only[hn]at h;obtain⟨p,hp,rfl⟩:=ra.fK;obtain⟨vs,e,r⟩:=S.obj n _ p hn hp;refine .inr (.inl ⟨p,vs,rfl,cB.of e,λq hq=>?_⟩);obtain⟨x2,S2,r2⟩:=S.lst hq (SJ r lo hi);exact h _ _ _ x2 S2 r2
 |_=>exact h.elim
theorem K_{xs:List V}(r:Zv K H ι [d] xs):∃x,xs=[x]/\Rep K H ι d x:=by obtain⟨v,ws,rfl,r1,r2⟩:=r.cons_inv;have:=r2.nil_inv;subst this;exact⟨v,rfl,r1⟩
theorem iV:aZ X (.builtin "len") (rB X.K bM):=aZ.imp Zqa λxs H Q ak=>by
 obtain⟨ι,M,ds,S,rd,h⟩:=ak;cases ds with
 |nil=>exact h.elim|cons d ds=>
  cases ds with
  |cons _ _=>cases d<;>exact h.elim|nil=>
   obtain⟨x,rfl,r⟩:=K_ rd;cases d with
   |tup z=>obtain⟨p,vs,rfl,s,r'⟩:=r.jh;exact⟨_,vs.length,rfl,.inr ⟨vs,s,rfl⟩,by rw[r'.length];exact Zy.ok h S Rep.int⟩|bH z=>obtain⟨p,vs,rfl,s,r'⟩:=r.t7;exact⟨_,vs.length,rfl,.inl ⟨vs,s.sq,rfl⟩,by rw[r'.length];exact Zy.ok h S Rep.int⟩|str z=>
    simp only[FN,Kr,RK,xO]at h;split at h
    .rename_i hz;have:=r.str_inv;subst this;refine⟨_,z.length,rfl,⟨?_,?_⟩,Zy.ok h S Rep.int⟩
     .show z.toArray.size<=Y8;rw[Ys];exact Yv hz lq
     .show z.length=z.toArray.size;rw[Ys]
    .exact h.elim
   | ref n=>
    cases hn:M[n]? with
    |none=>rw[xO,hn]at h;exact h.elim|some o=>
     cases o with
     |dct _=>rw[xO,hn]at h;exact h.elim|dJ _=>rw[xO,hn]at h;exact h.elim|ins _ _=>rw[xO,hn]at h;exact h.elim|lst z=>simp only[FN,Kr,RK,xO,hn]at h;obtain⟨p,hp,rfl⟩:=r.fK;obtain⟨vs,e,r'⟩:=S.obj n _ p hn hp;exact⟨_,vs.length,rfl,.inl ⟨vs,cB.of e,rfl⟩,by rw[r'.length];exact Zy.ok h S Rep.int⟩
   |_=>exact h.elim
theorem x_:aZ X (.type "tuple") (rB X.K kW):=aZ.imp ZiS λxs H Q ak=>by
 obtain⟨ι,M,ds,S,rd,h⟩:=ak;cases ds with
 |nil=>exact h.elim|cons d ds=>
  cases ds with
  |cons _ _=>cases d<;>exact h.elim|nil=>
   obtain⟨x,rfl,r⟩:=K_ rd;cases d with
   |tup z=>obtain⟨p,vs,rfl,s,r'⟩:=r.jh;exact⟨p,vs,rfl,.inr ⟨s,Zy.ok h S (Rep.tup s r')⟩⟩|bH z=>obtain⟨p,vs,rfl,s,r'⟩:=r.t7;refine⟨p,vs,rfl,.inl ⟨s.sq,λq hq=>?_⟩⟩;obtain⟨x2,S2,r2⟩:=S.uh hq r';exact h _ _ _ x2 S2 r2|ref n=>
    cases hn:M[n]? with
    |none=>rw[Am,hn]at h;exact h.elim|some o=>
     cases o with
     |dct _=>rw[Am,hn]at h;exact h.elim|dJ _=>rw[Am,hn]at h;exact h.elim|ins _ _=>rw[Am,hn]at h;exact h.elim|lst z=>simp only[Zi5,ZiY,Am,hn]at h;obtain⟨p,hp,rfl⟩:=r.fK;obtain⟨vs,e,r'⟩:=S.obj n _ p hn hp;refine⟨p,vs,rfl,.inl ⟨cB.of e,λq hq=>?_⟩⟩;obtain⟨x2,S2,r2⟩:=S.uh hq r';exact h _ _ _ x2 S2 r2
   |_=>exact h.elim
end
theorem iW:i_ "len" =Ya (.builtin "len"):=by decide +kernel
theorem ZfP:i_ "isinstance" =Ya (.builtin "isinstance"):=by decide +kernel
theorem Zp3:i_ "int" =Ya (.type "int"):=by decide +kernel
theorem yc:i_ "tuple" =Ya (.type "tuple"):=by decide +kernel
theorem Zse:i_ "dict" =Ya (.type "dict"):=by decide +kernel
section
variable {X:Cx} {a:Expr} {pos p p2:aM} {f:E3}
noncomputable def tQ:qG->String
 | .int=>"int" | .bool=>"bool" | .str=>"str" | .list=>"list" | .tuple=>"tuple"
theorem yd(K:Yb)(t:String)(T:qG)(ht:t∈["NoneType","bool","int","str","list","tuple","dict"]):
  Oq K (.type t) (.type (tQ T))=Ya (t==tQ T|| (t== "bool" &&tQ T== "int")):=by
 simp only[Y6,zK,or_false]at ht;rcases ht with rfl|rfl|rfl|rfl|rfl|rfl|rfl <;>cases T<;>kernel_rfl
theorem Zwu(T:qG):i_ (tQ T)=Ya (.type (tQ T)):=by cases T<;>decide +kernel
noncomputable def Zvj(T:qG)(o:Option MO):Option Bool:=match o with
 |some (.lst _)=>Ya (T== .list)|some (.dct _)=>Ya false|some (.dJ _)=>Yh|some (.ins _ _)=>Yh
 |none=>Yh
theorem Zq7{Q:Yd->Yg->Prop}{T:qG}{x:V}{b:Bool}(I:Inv X pins σ H s)(S:ao X.K H ι M)(r:Rep X.K H ι d x)(ru:RelV x u)(e:qH T d M=Ya b)(h:∀tk,Q (.bool b) {s with toks:=tk}):Yz (Y4 X.prog X.w) A (call (.builtin "isinstance") [u,.type (tQ T)]) Q E s:=by
 cases d with
 |non=>rw[r.oW]at ru;exact Ac I ru .non ((yd X.K "NoneType" T (by decide)).trans (uQ (by cases T<;>rfl) e)) h|bl c=>rw[r.j6]at ru;exact Ac I ru (.bl c) ((yd X.K "bool" T (by decide)).trans (uQ (by cases T<;>rfl) e)) h|int i=>rw[r.int_inv]at ru;exact Ac I ru (.int i) ((yd X.K "int" T (by decide)).trans (uQ (by cases T<;>rfl) e)) h|str z=>rw[r.str_inv]at ru;exact Ac I ru (.str _) ((yd X.K "str" T (by decide)).trans (uQ (by cases T<;>rfl) e)) h
 |tup ds=>obtain⟨p,vs,its,_,eu,⟨o,h1,h2,_⟩,_⟩:=vL I r ru;rw[eu];exact mG Xl I.cL ⟨o,h1,h2⟩ ((yd X.K "tuple" T (by decide)).trans (uQ (by cases T<;>rfl) e)) (λz=>nomatch z) h|bH ds=>exact e_ e|ref n=>
  have e:Zvj T M[n]?=Ya b:=e;obtain⟨a,ha,ex⟩:=r.fK;rw[ex]at ru;cases hn:M[n]? with
  |none=>rw[hn]at e;exact e_ e|some o=>
   rw[hn]at e;cases o with
   |lst z=>obtain⟨vs,ev,_⟩:=S.obj n _ a hn ha;exact Ac I ru (.lst ev) ((yd X.K "list" T (by decide)).trans (uQ (by cases T<;>rfl) e)) h|dct z=>obtain⟨vs,ev,_⟩:=S.obj n _ a hn ha;exact Ac I ru (.dK ev) ((yd X.K "dict" T (by decide)).trans (uQ (by cases T<;>rfl) e)) h|dJ z=>exact e_ e|ins _ _=>exact e_ e
theorem La(T:qG){x:aj}(hm:X.mg "isinstance" =Yh)(hm2:X.mg x=Yh)(h:C3 X a f)(hx:x=(nY (tQ T)):=by rfl)(hg:Gl X "isinstance":=by rfl)(hg2:Gl X x:=by rfl)(hn:x≠ "__name__":=by decide)(hd:(x==("__debug__":aj))=false:=by decide)(hs:Yq (a::[.Name x p2]) X.env=(false,aG a X.env)::Yq [.Name x p2] X.env:=by rfl)(hs2:Yq (.Name x p2::[]) X.env=(false,aG (.Name x p2) X.env)::Yq [] X.env:=by rfl)(hpl:(dm pos (Yq [.Name x p2] X.env)).any (·.1)=false:=by rfl):C3 X (.Call (.Name "isinstance" p) [a,.Name x p2] [] pos) (e1 (m8 T) f):=by
 subst hx;have hc:aZ X (.builtin "isinstance") (λxs H Q=>∃ι M d x,xs=[x,.ty (tQ T)]/\ao X.K H ι M/\Rep X.K H ι d x/\Zy X.K H ι Q (m8 T d M)):=by
  intro pins s σ H xs us Q I r q;obtain⟨ι,M,d,x,rfl,S,rd,q⟩:=q;obtain⟨u,w',rfl,ru,mU⟩:=vals2 r;cases mU;unfold m8 at q;cases e:qH T d M with
  |none=>rw[e]at q;exact q.elim|some b=>rw[e]at q;exact Zq7 I S rd ru e λtk=>⟨.bl b,H,I.tok _,rfl,Zy.ok q S Rep.bl⟩
 refine(Rc hc hg hm ZfP (Ad h (Ad (Zm4 hg2 hm2 (Zwu T) (v:=.ty (tQ T)) rfl hn hd) J8 hs2) hs) (by decide) (by decide) hs hpl).imp λσ H Q ak=>?_;obtain⟨ι,M,env,S,E,h⟩:=ak;obtain⟨d,M1,e1,h⟩:=Zy.bind h;refine⟨ι,M,env,S,E,?_⟩;rw[e1];intro v H1 ι1 x1 S1 r1;exact⟨ι1,M1,d,v,rfl,S1,r1,h.up x1⟩
end
noncomputable def Zsy(outer:List (aj×NameKind))(N:List aj)(scope:Scope)(N':List aj)(own:Nat):Bool:=
 (scope.names.all λy=>decide (y.2≠ .cell)&&(decide (y.2≠ .free)|| decide (outer.lookup y.1=Ya .cell)|| decide (outer.lookup y.1=Ya .free))&&(decide (y.2≠ .local)|| decide (scope.names.lookup y.1=Ya .local)))&&
  decide (N'.length=N.length+own)&&SN N N' scope
theorem Gz{scope:Scope}{N':List aj}{own:Nat}(hk:scope.kind= .function)(h:Zsy X.env.scope.names X.N scope N' own=true):xZ X scope N' own:=by
 simp only[Zsy,jb,decide_eq_true_eq,nU,uM]at h;obtain⟨⟨h1,h2⟩,h3⟩:=h;refine⟨hk,λy hy=>(h1 y hy).1.1,λy hy e=>?_,λy hy e=>?_,h2,h3⟩
 .rcases(h1 y hy).1.2 with(q|q)|q
  .exact absurd e q
  .exact .inl q
  .exact .inr q
 .rcases(h1 y hy).2 with q|q
  .exact absurd e q
  .exact q
theorem jX{h:au}{mg:aj->Option Yd}(KX:K.In h)(G:h.Ns Yy mg){x:aj}{st:Yc6}{f:Ym}{oc:Yd}{od an:Option Ym}{osl:Array (Option Yd)}{dV kV doc pm cdv ct:Yd}(a:Ou K Yy x=Ya (Ya (.ref f)))(l:K.lookup f=Ya ⟨oc,od,.func (jL x x (cC st) (bJ st) (Zj st) dV kV doc pm an cdv ct),osl⟩)(c:wG K cdv x=true)(k:mH K (.ref f)=true)(b:Binds K (jL x x (cC st) (bJ st) (Zj st) dV kV doc pm an cdv ct) ps []):di K mg x st ps:=⟨f,_,Rm l c k,Ot KX G a,b⟩
theorem ZvX{l:PySem.W.OpenLaw}{k:Nat}{q:Y5}{loose:List aj}{XP:(aj->Option Yd)->au->Prop}{YP:aK->au->Prop}{d:DefRec}{K:Params->Yb}(hn:l.most=Ya 63)(hdf:d.params.defaults=[])(hr:b_ k uw)(hY:∀(w:aK) (h:au),YP w h->(K w.params).In h)(G:∀(w:aK) (mg:aj->Option Yd) (fa:Ym) (h:au),(K w.params).In h->h.Ns Yy mg->mg d.name=Ya (.ref fa) ->
   ∃fd:iJ,(∀(s:Yg) (u:Yd),rP s fd ⟨[u],[]⟩ [("script",u)])/\∀base:au,(K w.params).In base->base.Ns Yy mg->eQ l.prog w (K w.params) mg base jQ k fa fd ["script"] (qM (K w.params) 1 F))(hF:∀ns:List Int,ns.length<=63->∃M',F [.bH (ns.map D.int)] []= .ok (.bl true) M'):
  Xr q loose XP YP l.row.toRowW d [] (λf vs=>Pk f vs):=
 L2.Znp (n:=63) (k:=k) (x:="script") (CX:=λ_=>jQ) (sp:=λw=>qM (K w.params) 1 F) hn (by decide) hdf hr hY G (λw H a ns hl hO hS=>by
  obtain⟨M',e⟩:=hF ns hl;refine⟨[],[],[.bH (ns.map D.int)],⟨rfl,ZL,λn o a h=>by simp at h⟩,Zv.cons ?_ Zv.nil,rfl,?_⟩
  .refine⟨a,ns.map V.int,rfl,?_,Zv.ints ns⟩;rcases hS with(h|⟨o,h⟩)|h
   .rcases hO a with z|⟨ob,xs,z⟩
    .rw[h]at z;cases z
    .rw[h]at z;cases z
   .exact .inl ⟨o,h⟩
   .exact .inr h
  .rw[e]
   exactλv H' ι' _ _ r=>r.j6) λ_ _ _ _ _ z=>z
theorem Tp{a b:a_}(h:dk a=dk b):a=b:=by
 cases a with
 |inl i=>cases b with
  |inl j=>simp only[dk,Sum.inl.injEq]at h;rw[h]|inr y=>simp[dk]at h
 | inr x=>cases b with
  |inl j=>simp[dk]at h|inr y=>simp only[dk,Sum.inr.injEq,Str.mk.injEq]at h;have:=congrArg JD h;simp at this;rw[this]
theorem Tq{b:D}{y:V}{k:a_}(h:gF b=Ya k)(r:Rep K H ι b y):y=kV (dk k):=by
 cases b with
 |int i=>cases h;exact r.int_inv|str x=>cases h;exact r.str_inv|_=>exact e_ h
variable{kvs:List (a_×D)}{ws:List (Key×V)}
section
variable {K:Yb} {H H':Hp} {ι ι':List Ym} {M:Store} {p:Ym}
theorem bK.nil:bK K H ι [] []:=⟨rfl,Zv.nil⟩
theorem bK.cons{k:a_}{d:D}{v:V}{kvs:List (a_×D)}{ws:List (Key×V)}(h:Rep K H ι d v)(r:bK K H ι kvs ws):bK K H ι ((k,d)::kvs) ((dk k,v)::ws):=⟨by simp[r.1],Zv.cons h r.2⟩
theorem bK.cons_inv{q:a_×D}(r:bK K H ι (q::kvs) ws):∃v ws',ws=(dk q.1,v)::ws'/\Rep K H ι q.2 v/\bK K H ι kvs ws':=by
 obtain⟨h1,h2⟩:=r;cases ws with
 |nil=>simp at h1|cons w ws=>simp only[Y9,Ykx]at h1;obtain⟨v,us,e,r1,r2⟩:=Zv.cons_inv h2;simp only[Y9,Ykx]at e;exact⟨w.2,ws,by rw[←h1.1],e.1▸r1,h1.2,e.2▸r2⟩
theorem bK.nil_inv(r:bK K H ι [] ws):ws=[]:=by simpa using r.1
theorem bK.mono(r:bK K H ι kvs ws)(e:Ext K H ι H' ι'):bK K H' ι' kvs ws:=⟨r.1,r.2.mono e⟩
theorem bK.length(r:bK K H ι kvs ws):ws.length=kvs.length:=by have:=congrArg Eo r.1;simpa using this
theorem bK.val(k:a_):∀{ws:List (Key×V)},bK K H ι kvs ws->match dD kvs k with|some d=>∃v,jx ws (dk k)=Ya v/\Rep K H ι d v|none=>jx ws (dk k)=Yh:=by
 induction kvs with
 |nil=>intro ws r;rw[r.nil_inv];exact Zpy|cons q kvs ih=>
  intro ws r;obtain⟨v,ws',rfl,r1,r2⟩:=r.cons_inv;obtain⟨k',d⟩:=q;unfold dD;by_cases e:k'=k
  .rw[if_pos e];exact⟨v,Kc (by rw[e]),r1⟩
  .rw[if_neg e,Kd λz=>e (Tp z)];exact ih r2
theorem bK.append{k1 k2:List (a_×D)}{w1 w2:List (Key×V)}(a:bK K H ι k1 w1)(b:bK K H ι k2 w2):bK K H ι (k1++k2) (w1++w2):=⟨by simp[a.1,b.1],by rw[PN,PN];exact a.2.append b.2⟩
theorem bK.any(k:a_):∀{ws:List (Key×V)},bK K H ι kvs ws->(ws.any λkv=>decide (kv.1=dk k))=(kvs.any λq=>decide (q.1=k)):=by
 induction kvs with
 |nil=>intro ws r;rw[r.nil_inv];rfl|cons q kvs ih=>
  intro ws r;obtain⟨v,ws',rfl,r1,r2⟩:=r.cons_inv;rw[xg,xg,ih r2];congr 1;by_cases e:q.1=k
  .simp[e]
  .simp[e];exactλz=>e (Tp z)
theorem bK.put{k:a_}{v:V}(r:bK K H ι kvs ws)(rd:Rep K H ι d v):bK K H ι (putD k d kvs) (putK ws (dk k) v):=by
 unfold putD putK;rw[r.any k];by_cases c:(kvs.any λq=>decide (q.1=k))=true
 .rw[if_pos c,if_pos c];clear c
  induction kvs generalizing ws with
  |nil=>rw[r.nil_inv];exact bK.nil|cons q kvs ih=>
   obtain⟨u,ws',rfl,r1,r2⟩:=r.cons_inv;rw[Y9,Y9];by_cases e:q.1=k
   .rw[if_pos e,if_pos (by rw[e])];exact bK.cons rd (ih r2)
   .rw[if_neg e,if_neg λz=>e (Tp z)];exact bK.cons r1 (ih r2)
 .rw[if_neg c,if_neg c];exact r.append (bK.cons rd bK.nil)
theorem bK.merge{l:List (a_×D)}:∀{kvs:List (a_×D)} {ws us:List (Key×V)},bK K H ι l us->bK K H ι kvs ws->bK K H ι (l.foldl (λacc p=>putD p.1 p.2 acc) kvs) (Ag ws us):=by
 induction l with
 |nil=>intro kvs ws us r r0;rw[r.nil_inv];exact r0|cons q l ih=>intro kvs ws us r r0;obtain⟨v,us',rfl,r1,r2⟩:=r.cons_inv;exact ih (ws:=putK ws (dk q.1) v) (us:=us') r2 (r0.put r1)
theorem ao.dct(S:ao K H ι M)(hp:H p=Yh)(r:bK K H ι kvs ws):Ext K H ι (upd H p (.dK ws)) (ι++[p])/\ao K (upd H p (.dK ws)) (ι++[p]) (M++[.dct kvs])/\Rep K (upd H p (.dK ws)) (ι++[p]) (.ref M.length) (.ref p):=by have e:Ext K H ι (upd H p (.dK ws)) (ι++[p]):=Loose.Du (.inl hp);exact⟨e,S.new hp ⟨ws,mO,r.mono e⟩,Rep.ref (by rw[←S.len];simp)⟩
theorem ao.Adb(S:ao K H ι M)(l0:Loose H p)(hn:ι[n]?=Ya p)(r:bK K H ι kvs ws):Ext K H ι (upd H p (.dK ws)) ι/\ao K (upd H p (.dK ws)) ι (M.set n (.dct kvs)):=by have e:Ext K H ι (upd H p (.dK ws)) ι:=Loose.ext l0;exact⟨e,S.put l0 hn ⟨ws,mO,r.mono e⟩⟩
end
section
variable {X:Cx} {a b c e o:Expr} {es:List Expr} {pos p pos' apos cpos:aM} {f g h:E3} {gl:bU}
def Tr(K:Yb)(H:Hp)(ι:List Ym)(Q:List (V×V)->Hp->Prop)(r:R3 (List (a_×D))):Prop:=match r with
 | .ok l M'=>∀ws H' ι',Ext K H ι H' ι'->ao K H' ι' M'->bK K H' ι' l ws->Q (ws.map λkv=>(kV kv.1,kv.2)) H'|_=>False
theorem Tr.bind{Q:List (V×V)->Hp->Prop}{r:R3 α}{k:α->Store->R3 (List (a_×D))}(h:Tr K H ι Q (r.bind k)):∃a M,r= .ok a M/\Tr K H ι Q (k a M):=by
 cases r with
 |ok a M=>exact⟨a,M,rfl,h⟩|exc x M=>exact h.elim|bad=>exact h.elim
theorem Zt3:C3 X (.Dict [] [] pos) Zsw:=Zpb.imp λσ H Q ⟨ι,M,env,S,E,h⟩ p hp=>by obtain⟨x1,S1,r1⟩:=S.dct hp bK.nil;exact h _ _ _ x1 S1 r1
theorem hu1(hu:X.A.units+80<fP):X.A.units+1<fP:=lB 1 7331617893452817 T1 hu
theorem Zqs(S:ao K H ι M){a:Ym}(h:jl M[n]?=Ya kvs)(ha:ι[n]?=Ya a):∃ws,Rd H a (.dK ws)/\bK K H ι kvs ws:=by
 cases hn:M[n]? with
 |none=>simp[hn]at h|some ob=>
  cases ob with
  |lst _=>simp[hn]at h|dct k=>
   have e:k=kvs:=by simpa[hn]using h
   subst e;obtain⟨ws,hw,kr⟩:=S.obj n _ a hn ha;exact⟨ws,.inl hw,kr⟩
  |dJ k=>
   have e:k=kvs:=by simpa[hn]using h
   subst e;obtain⟨ws,⟨o,hw⟩,kr⟩:=S.obj n _ a hn ha;exact⟨ws,.inr ⟨o,hw⟩,kr⟩
  |ins _ _=>simp[hn]at h
theorem Zre{op:D->D->D->Store->R3 D}(h':Zy K H ι Q (e3 op f g h env M)):
  ∃a M1 b M2 c M3,f env M= .ok a M1/\g env M1= .ok b M2/\h env M2= .ok c M3/\Zy K H ι Q (op a b c M3):=by
 obtain⟨a,M1,e1,h'⟩:=Zy.bind h';obtain⟨b,M2,e2,h'⟩:=Zy.bind h';obtain⟨c,M3,e3,h'⟩:=Zy.bind h';exact⟨a,M1,b,M2,c,M3,e1,e2,e3,h'⟩
theorem ZkJ{D':Ends}(E:aY K H ι env σ)(h':jA K H ι D' (Zw f env M)):Zy K H ι (λ_ H'=>D'.nx σ H') (f env M):=by
 unfold Zw at h';cases q:f env M with
 |ok d M1=>rw[q]at h';exactλv H1 ι1 x1 S1 r1=>h' σ H1 ι1 x1 S1 (E.mono x1)|exc x M1=>rw[q]at h';exact h'.elim|bad=>rw[q]at h';exact h'.elim
end
section
variable {X:Cx} {a b c e o:Expr} {es:List Expr} {pos p apos cpos:aM} {f g h:E3} {gl:bU}
theorem ZvY:aZ X (.type "int") (rB X.K FT):=aZ.imp Zoc λxs H Q ak=>by
 obtain⟨ι,M,ds,S,rd,h⟩:=ak;cases ds with
 |nil=>exact h.elim|cons d ds=>
  cases ds with
  |cons _ _=>cases d<;>exact h.elim|nil=>
   obtain⟨x,rfl,r⟩:=K_ rd;cases d with
   |int i=>exact .inl ⟨i,by rw[r.int_inv],Zy.ok h S Rep.int⟩|bl k=>exact .inr ⟨k,by rw[r.j6],Zy.ok h S Rep.int⟩|_=>exact h.elim
theorem Zji{K:Yb}{H:Hp}{ι:List Ym}:∀{x:List D} {ns:List Int} {vs:List V} {us:List Yd},ou x=Ya ns->Zv K H ι x vs->Vals vs us->IntsAre us ns
 |[],ns,vs,us,h,r,v=>by
  have e:=r.nil_inv;subst e;cases v;have:ns=[]:=by simpa[ou]using h.symm
  subst this;exact .nil
 | .int i::x,ns,vs,us,h,r,v=>by
  obtain⟨u,vs',rfl,r1,r2⟩:=r.cons_inv;have e:=r1.int_inv;subst e;cases v with
  | @cons _ z _ us' rz rzs=>
  obtain⟨t,rfl⟩:=rz;simp only[ou]at h;cases hx:ou x with
  |none=>rw[hx]at h;cases h|some ms=>
   rw[hx]at h;have:ns=i::ms:=by simpa using h.symm
   subst this;exact .cons i t (Zji hx r2 rzs)
 | .non::_,_,_,_,h,_,_=>by simp[ou]at h|.bl _::_,_,_,_,h,_,_=>by simp[ou]at h|.str _::_,_,_,_,h,_,_=>by simp[ou]at h|.tup _::_,_,_,_,h,_,_=>by simp[ou]at h
 | .bH _::_,_,_,_,h,_,_=>by simp[ou]at h|.ref _::_,_,_,_,h,_,_=>by simp[ou]at h
theorem Tt{l:Ym}{x:List D}{ns:List Int}(hc:X.calm=true)(I:Inv X pins σ H s)(sq:cB X.K H l vs)(r:Zv X.K H ι x vs)(hx:ou x=Ya ns)(q:Q (.int ns.sum) H):
  Yz (Y4 X.prog X.w) X.A (call (.builtin "sum") [.ref l]) (EP X pins σ Q) X.xe s:=by
 obtain⟨its,rr,pl,zl⟩:=I.list sq;have ia:=Zji hx r rr;obtain⟨ys,hy⟩:=ia.allInts.items;refine sum_intListG (I.ok.hd hc) (by rw[←hy];exact pl.isList) λh' tk t' hk=>⟨.int ns.sum,H,I.kept hk,⟨t',?_⟩,q⟩;have e1:ns=ys.toList.map (·.1):=by rw[←nums_intItems,←hy];exact(show numsOf its.toArray.toList=ns from ia.numsOf).symm
 rw[preSum_eq,wZ (by simp),←e1]
theorem ZtX(S:ao K H ι M){a:Ym}(h:(jl M[n]?).isSome=true)(ha:ι[n]?=Ya a):Rr H a:=by
 cases hn:jl M[n]? with
 |none=>rw[hn]at h;cases h|some kvs=>obtain⟨ws,hw,_⟩:=Zqs S hn ha;exact .inl ⟨ws,hw⟩
theorem Zqh{z:V}(kr:bK K H ι kvs ws)(k:a_)(rd:Rep K H ι d z):Rep K H ι ((dD kvs k).getD d) ((jx ws (dk k)).getD z):=by
 have hv:=kr.val k;cases q:dD kvs k with
 |none=>rw[q]at hv;rw[hv];exact rd|some w=>rw[q]at hv;obtain⟨v,ev,rv⟩:=hv;rw[ev];exact rv
theorem Zp5{e':Expr}(hu:X.A.units+80<fP)(ho:C3 X o f)(he:C3 X e g)(he':C3 X e' h)(m:M2 X o "get" apos e e' cpos:=by exact⟨rfl,rfl,rfl,rfl⟩):C3 X (.Call (.Attribute o "get" apos) [e,e'] [] cpos) (bD Ku FQ f (Za g (Za h Ze))):=(Zpd (hu1 hu) ho he he' m).imp λσ H Q ak=>by
 obtain⟨ι,M,env,S,E,hh⟩:=ak;obtain⟨d,M1,e1,hh⟩:=Zy.bind hh;refine⟨ι,M,env,S,E,?_⟩;rw[e1];intro x H1 ι1 x1 S1 r1;cases d with
 | ref n=>
  by_cases hD:(jl M1[n]?).isSome=true
  .simp only[Kv,hD,if_true]at hh;obtain⟨ad,ha,rfl⟩:=r1.fK;obtain⟨ds,M2,e2,hh⟩:=Zy.bind hh;refine⟨ad,rfl,ZtX S1 hD ha,ι1,M1,env,S1,E.mono x1,?_⟩;cases q:g env M1 with
   |bad=>simp[q]at e2|exc x' M'=>simp[q]at e2|ok b M2'=>
    cases q':h env M2' with
    |bad=>simp[q,q']at e2|exc x' M'=>simp[q,q']at e2|ok b' M3'=>
     simp only[Za,q,q',R3.bind,Ze]at e2;cases e2;intro y H2 ι2 x2 S2 r2;refine⟨ι2,M2',env,S2,(E.mono x1).mono x2,?_⟩;rw[q'];intro z H3 ι3 x3 S3 r3;simp only[ZrW,RN]at hh;cases hn:jl M2[n]? with
     |none=>simp only[hn]at hh;exact hh.elim|some kvs=>
      cases hk:gF b with
      |none=>simp only[hn,hk]at hh;exact hh.elim|some kk=>simp only[hn,hk]at hh;obtain⟨ws,hw,kr⟩:=Zqs S3 hn (x3.pre _ _ (x2.pre _ _ ha));refine⟨jx ws (dk kk),.inl ⟨ws,dk kk,hw,Tq hk r2,rfl⟩,hh _ H3 ι3 ((x1.trans x2).trans x3) S3 (Zqh kr kk r3)⟩
  .simp only[Kv,hD]at hh;exact hh.elim
 |_=>exact hh.elim
end
section
variable {prog:Y5} {w:aK} {A:bj} {E:Yd->Yg->Prop} {s:Yg}
theorem Zfq:entryFor table "dict.update.loop" =Ya Builtin.«dict.update.loop»:=entryFor_of_tree (by kernel_rfl)
theorem Lb:plainId "dict.update.loop" =true:=by decide +kernel
end
section
variable {X:Cx}
theorem Zma{x:List D}{l:List (a_×D)}(h:pM (d::x)=Ya l):∃a b k l',d= .tup [a,b]/\gF a=Ya k/\pM x=Ya l'/\l=(k,b)::l':=by
 cases d with
 | tup ds=>cases ds with
  |nil=>exact e_ h|cons a ds=>cases ds with
   |nil=>exact e_ h|cons b ds=>cases ds with
    |cons _ _=>exact e_ h|nil=>
     have h:(match gF a with|some k=>(pM x).map λl=>(k,b)::l|none=>Yh)=Ya l:=h;cases hk:gF a with
     |none=>rw[hk]at h;exact e_ h|some k=>
      rw[hk]at h;cases hx:pM x with
      |none=>rw[hx]at h;exact e_ h|some l'=>rw[hx]at h;exact⟨a,b,k,l',rfl,hk,rfl,(gP h).symm⟩
 |_=>exact e_ h
end
section
variable {X:Cx} {o e:Expr} {es:List Expr} {apos cpos:aM} {f:E3} {gl:bU}
theorem Zv.erase:∀{ds:List D} {vs:List V} (i:Nat),Zv K H ι ds vs->Zv K H ι (ds.eraseIdx i) (vs.eraseIdx i)
 |[],_,_,h=>by rw[h.nil_inv];exact Zv.nil|d::ds,_,0,h=>by obtain⟨v,us,rfl,r,t⟩:=h.cons_inv;exact t|d::ds,_,i+1,h=>by obtain⟨v,us,rfl,r,t⟩:=h.cons_inv;exact Zv.cons r (t.erase i)
theorem Zv.dropLast(r:Zv K H ι ds vs):Zv K H ι ds.dropLast vs.dropLast:=by rw[YS,YS,r.length];exact r.take _
theorem ZvD:qD X "list.pop" (rM X.K sX):=qD.imp (r:=λx xs H Q=>ZpX x xs H Q\/Zwa x xs H Q) (λpins s σ H x xs v us Q I rx rs q=>q.elim (Zpc pins s σ H x xs v us Q I rx rs) (ZtN pins s σ H x xs v us Q I rx rs)) λx xs H Q ak=>by
 obtain⟨ι,M,a,ds,S,ra,rd,h⟩:=ak;cases a with
 | ref n=>
  cases ds with
  | nil=>
   simp only[Zm1,RL]at h;cases hn:M[n]? with
   |none=>simp only[hn]at h;exact h.elim|some ob=>
    cases ob with
    |dct _=>simp only[hn]at h;exact h.elim|dJ _=>simp only[hn]at h;exact h.elim|ins _ _=>simp only[hn]at h;exact h.elim|lst z=>
     simp only[hn]at h;cases hx:z[z.length-1]? with
     |none=>simp only[hx]at h;exact h.elim|some d=>simp only[hx]at h;obtain⟨p,hp,rfl⟩:=ra.fK;have:=rd.nil_inv;subst this;obtain⟨vs,e,rv⟩:=S.obj n _ p hn hp;obtain⟨y,hy,ry⟩:=rv.get hx;obtain⟨x2,S2⟩:=S.Dv (.inr (.inl ⟨_,e⟩)) hp rv.dropLast;exact .inr ⟨p,vs,y,rfl,rfl,e,by rw[rv.length];exact hy,h _ _ _ x2 S2 (ry.mono x2)⟩
  | cons d ds=>
   cases ds with
   |cons _ _=>cases d<;>exact h.elim|nil=>
    cases d with
    | int i=>
     simp only[Zm1,RL]at h;cases hn:M[n]? with
     |none=>simp only[hn]at h;exact h.elim|some ob=>
      cases ob with
      |dct _=>simp only[hn]at h;exact h.elim|dJ _=>simp only[hn]at h;exact h.elim|ins _ _=>simp only[hn]at h;exact h.elim|lst z=>
       simp only[hn]at h;by_cases hb:-1000000<=i/\i<=1000000
       .rw[if_pos hb]at h;cases hk:mY z.length i with
        |none=>simp only[hk]at h;exact h.elim|some k=>
         simp only[hk]at h;cases hx:z[k]? with
         |none=>simp only[hx]at h;exact h.elim|some d=>simp only[hx]at h;obtain⟨p,hp,rfl⟩:=ra.fK;obtain⟨v,ws,rfl,r1,r2⟩:=rd.cons_inv;have:=r2.nil_inv;subst this;have:=r1.int_inv;subst this;obtain⟨vs,e,rv⟩:=S.obj n _ p hn hp;obtain⟨y,hy,ry⟩:=rv.get hx;obtain⟨x2,S2⟩:=S.Dv (.inr (.inl ⟨_,e⟩)) hp (rv.erase k);obtain⟨q1,q2,q3,q4⟩:=ZmX (n:=z.length) (i:=i) (j:=k) hk;exact .inl ⟨p,vs,i,k,y,rfl,rfl,e,by omega,by omega,by rw[rv.length];exact q1,hy,h _ _ _ x2 S2 (ry.mono x2)⟩
       .rw[if_neg hb]at h;exact h.elim
    |_=>exact h.elim
 |_=>cases ds<;>exact h.elim
end
section
variable {X:Cx} {a b c e o:Expr} {es:List Expr} {pos p apos cpos:aM} {f g h:E3} {gl:bU}
theorem ZiR:aZ X (.type "int") (λxs H Q=>∃x n,xs=[.str x]/\intText? x=Ya n/\x.length<=640/\Q (.int n) H):=by intro pins s σ H xs us Q I r h;obtain⟨x,n,rfl,hn,hz,q⟩:=h;obtain⟨u,rfl,t,rfl⟩:=vals1 r;exact PySem.W.KIN.call_text hn hz ⟨.int n,H,I.tok _,⟨_,rfl⟩,q⟩
theorem ZpW:aZ X (.type "int") (rB X.K tE):=aZ.imp (aZ.or ZvY ZiR) λxs H Q ak=>by
 obtain⟨ι,M,ds,S,rd,h⟩:=ak
 match ds,rd,h with
 | [.str x],rd,h=>
  obtain⟨v,rfl,r⟩:=K_ rd;simp only[ZpR,ZoU]at h;cases hn:O2 ⟨x.toArray⟩with
  |none=>rw[hn]at h;exact h.elim|some n=>
   rw[hn]at h;dsimp only at h;split at h
   .rename_i hz;exact .inr ⟨_,n,by rw[r.str_inv],hn,by simpa[qt]using hz,Zy.ok h S Rep.int⟩
   .exact h.elim
 |[],rd,h=>exact h.elim|[.int i],rd,h=>exact .inl ⟨ι,M,_,S,rd,h⟩|[.bl i],rd,h=>exact .inl ⟨ι,M,_,S,rd,h⟩|[.non],rd,h=>exact h.elim
 |[.tup _],rd,h=>exact h.elim|[.bH _],rd,h=>exact h.elim|[.ref _],rd,h=>exact h.elim|.str _::_::_,rd,h=>exact h.elim
 | .int _::_::_,rd,h=>exact h.elim|.bl _::_::_,rd,h=>exact h.elim|.non::_::_,rd,h=>exact h.elim|.tup _::_::_,rd,h=>exact h.elim
 | .bH _::_::_,rd,h=>exact h.elim|.ref _::_::_,rd,h=>exact h.elim
end
def Zvg(K:Yb)(H:Hp)(ι:List Ym)(it:Ay)(J:It):Prop:=∀(i:Nat) H2 ι2 M2,Ext K H ι H2 ι2->ao K H2 ι2 M2->qK it.lk M2=true ->
 (∀d,it.items[i]?=Ya d->J.go i H2/\∀x H3,J.J1 i H2 x H3->Ext K H2 ι2 H3 ι2/\ao K H3 ι2 M2/\Rep K H3 ι2 d x)/\(i=it.items.length->J.stop i H2)
def GC(K:Yb)(H:Hp)(ι:List Ym)(R:It->Hp->Prop)(r:R3 Ay):Prop:=match r with
 | .ok it M'=>∀J H' ι',Ext K H ι H' ι'->ao K H' ι' M'->Zvg K H' ι' it J->R J H'|_=>False
def tIL(K:Yb)(g:xQ):TI:=λσ H R=>∃ι M env,ao K H ι M/\aY K H ι env σ/\GC K H ι R (g env M)
def CIL(X:Cx)(tg e:Expr)(g:xQ):Prop:=PI X tg e (tIL X.K g)
theorem GC.bind{Q:It->Hp->Prop}{r:R3 α}{k:α->Store->R3 Ay}(h:GC K H ι Q (r.bind k)):∃a M,r= .ok a M/\GC K H ι Q (k a M):=by
 cases r with
 |ok a M=>exact⟨a,M,rfl,h⟩|exc x M=>exact h.elim|bad=>exact h.elim
section
variable {X:Cx} {tg:Expr} {pos:aM}
theorem ZrT{iter:Expr}{body:List Yc6}{i:xQ}{g:G3}{u:S3}(xW:X.xe=λ_ _=>False)(hc:X.calm=true)(hi:CIL X tg iter i)(hg:CG X tg g)(hb:lz X body u)(hs:∀x,wN iter X.env x=pure x:=by intro _;rfl):
  CS X (.For tg iter body [] pos) (Gb i g u):=(Q3 (by rw[xW];exact Qy) hc hi hg hb hs).imp λD σ H ak=>by
 obtain⟨ι,M,env,S,E,h⟩:=ak;unfold Gb at h;cases q:i env M with
 |exc x M1=>rw[q]at h;exact h.elim|bad=>rw[q]at h;exact h.elim|ok it M1=>
  rw[q]at h;refine⟨ι,M,env,S,E,?_⟩;rw[q];intro J H1 ι1 x1 S1 ok;refine⟨λi m σ2 H2=>m=it.items.length-i/\i<=it.items.length/\∃ι2 M2 dM,Ext X.K H1 ι1 H2 ι2/\ao X.K H2 ι2 M2/\aY X.K H2 ι2 dM σ2/\jA X.K H2 ι2 D (m9 it.lk g u (it.items.drop i) dM M2),
   ⟨_,rfl,eG _,ι1,M1,env,Ext.refl,S1,E.mono x1,jA.up x1 h⟩,?_⟩
  rintro i m σ2 H2 ⟨rfl,hi,ι2,M2,dM,x2,S2,E2,h2⟩;by_cases hlt:i<it.items.length
  .have hd:it.items[i]?=Ya it.items[i]:=by simp[hlt]
   rw[zG hlt]at h2
   first|rw[RZ]at h2|rw[RX]at h2
   by_cases lk:qK it.lk M2=true
   .rw[if_pos lk]at h2;obtain⟨go,yl⟩:=(ok i H2 ι2 M2 x2 S2 lk).1 _ hd;cases eg:g it.items[i] dM with
    |none=>rw[eg]at h2;exact h2.elim|some oY=>
     rw[eg]at h2;refine .inr ⟨go,λσ' H'=>∃ι3 M3 iI,Ext X.K H2 ι2 H' ι3/\ao X.K H' ι3 M3/\aY X.K H' ι3 iI σ'/\jA X.K H' ι3 D (m9 it.lk g u (it.items.drop (i+1)) iI M3),
      λσ' H' ⟨ι3,M3,iI,x3,S3,E3,h3⟩=>⟨it.items.length-(i+1),lD 2 0x30113c2012a1c0c21 T1 (pC (lB 1 6991908881 T1 hlt)) (pG _ _),rfl,hlt,ι3,M3,iI,x2.trans x3,S3,E3,h3⟩,λx H' hy=>?_⟩
     obtain⟨x7,S7,rx⟩:=yl x H' hy;refine⟨ι2,M2,dM,_,oY,S7,E2.mono x7,rx,eg,λσ' E'=>⟨ι2,M2,oY,S7,E',?_⟩⟩;have h2':=jA.up x7 h2;cases qu:u oY M2 with
     |nx e' M'=>simp only[qu]at h2';exactλσ' H' ι' x' S' E'=>⟨ι',M',e',x7.trans x',S',E',h2'.up x'⟩|ct e' M'=>simp only[qu]at h2';exactλσ' H' ι' x' S' E'=>⟨ι',M',e',x7.trans x',S',E',h2'.up x'⟩|bk e' M'=>simp only[qu]at h2';exact h2'|rt d M'=>simp only[qu]at h2';exact h2'
     |exc x' M'=>simp only[qu]at h2';exact h2'.elim|bad=>simp only[qu]at h2';exact h2'.elim
   .rw[if_neg lk]at h2;exact h2.elim
  .have e0:i=it.items.length:=iK hi (pD hlt);subst e0;rw[El]at h2
   first|rw[RZ]at h2|rw[RX]at h2
   by_cases lk:qK it.lk M2=true
   .rw[if_pos lk]at h2;exact .inl ⟨(ok _ H2 ι2 M2 x2 S2 lk).2 rfl,h2 σ2 H2 ι2 Ext.refl S2 E2⟩
   .rw[if_neg lk]at h2;exact h2.elim
end
theorem _root_.L2.Inv.NT{h':au}{t':Nat}(I:Inv X pins σ H s)(k:∀b o,b∉fp->s.heap.get? b=Ya o->h'.get? b=Ya o)(hf:∀b∈fp,gq X pins H b):
  Inv X pins σ H {s with heap:=h',toks:=t'}:=by
 have Fp:∀b u,H b=Ya u->b∉fp:=λb u e z=>by rw[(hf b z).1]at e;cases e
 refine I.step (g':=s.gens) (d':=s.drawn) (ch:=fp) (λb hb=>⟨(hf b hb).2.2.2.1,(hf b hb).2.1,(hf b hb).2.2.2.2.1,(hf b hb).2.2.2.2.2⟩) (λb o _ _ hc e _=>k b o hc e) (λb o _ _ hc e _=>⟨o.slots,k b o hc e⟩) (λ_ _ _ _ n=>n)
  (λb o hc e=>⟨o,k b o hc e⟩) (λ_ _ e=>e) (λ_ _ _ e=>e) (λb ps e=>⟨#[],by rw[e];simp⟩) (λm hm=>?_) (λb u e=>?_) I.bare
 .obtain⟨o,es,ep,ho,r⟩:=hm;exact⟨o,es,ep,k _ o (λz=>(hf _ z).2.1 rfl) ho,r⟩
 .refine(I.hok b u e).stay (λc v hc q=>k c v ?_ q) (λ_ q=>q) λ_ _ q=>q;rcases hc with z|z
  .rw[z];exact Fp b u e
  .exact Fp c _ z
noncomputable def Ite(S:Hp->List V->Prop):It:=⟨λi H=>∃xs x,S H xs/\xs[i]?=Ya x,λi H x H'=>∃T y,x= .ref T/\H T=Yh/\H'=upd H T (.tup [.int i,y])/\∀xs,S H xs->xs[i]?=Ya y,λi H=>∃xs,S H xs/\xs.length<=i⟩
theorem ZiW{h' h'':au}{e:Ym}{i:Nat}{x:V}{tk tk':Nat}(I:Inv X pins σ H s)(hf:∀b∈[e,it],gq X pins H b)(he:e<s.heap.objs.size)(hi:it<s.heap.objs.size)(ru:RelV x u)(hT:h'.get? s.heap.objs.size=Ya {cls:=.type "tuple",data:=.seq #[.int i tk,u]})(hk:∀b o,b≠e->b≠it->s.heap.get? b=Ya o->h'.get? b=Ya o)(hs:xr e h' h''):
  Inv X pins σ (upd H s.heap.objs.size (.tup [.int i,x])) {s with heap:=h'',toks:=tk'}/\∀b∈[e,it],upd H s.heap.objs.size (.tup [.int i,x]) b=Yh:=by
 have hn:∀b∈[e,it],upd H s.heap.objs.size (.tup [.int i,x]) b=Yh:=λb hb=>by
  have:b≠s.heap.objs.size:=by
   simp only[Y6,zK,or_false]at hb;rcases hb with rfl|rfl
   .exact eF he
   .exact eF hi
  rw[cW this];exact(hf b hb).1
 refine⟨?_,hn⟩;have I1:Inv X pins σ (upd H s.heap.objs.size (.tup [.int i,x])) {s with heap:=s.heap.push {cls:=.type "tuple",data:=.seq ([.int i tk,u]:List Yd).toArray},toks:=s.toks}:=I.laid (t':=s.toks) (λb o e=>Yi _ e) (Yl _) (show eN X.prog X.w _ _ _ (.tup [.int i,x])from⟨by rw[rK];show 2<=_;decide,[.int i tk,u],.cons ⟨tk,rfl⟩ (.cons ru .nil),qy.new _ _⟩);have I3:=I1.NT (t':=tk') (h':=h'') (fp:=[e,it]) (λb o hb q=>by
  have hbe:b≠e:=λz=>hb (by simp[z]);have hbi:b≠it:=λz=>hb (by simp[z]);rcases Heap.get?_push_cases q with⟨rfl,rfl⟩|q
  .exact(hs.2 _ (uH he)).trans hT
  .exact(hs.2 _ hbe).trans (hk b o hbe hbi q)) λb hb=>⟨hn b hb,(hf b hb).2⟩
 exact I3
theorem Zl2{P:Y5}{es:List Expr}{k:Nat}{pos:aM}(a e it:Ym)(hne:e≠it):
  Turn P w K (.Tuple es k pos) (Ite λH xs=>cB K H a xs) [e,it] e (λi h=>(∃old,IsEnum h e it i old)/\h.IsListIter it a i)where
 mem:=by simp
 obj:=λi h st b hb=>by
  obtain⟨⟨old,he⟩,o,ho,c,d⟩:=st;simp only[Y6,zK,or_false]at hb;rcases hb with rfl|rfl
  .exact⟨_,he,λv z=>by cases z⟩
  .exact⟨o,ho,λv z=>by rw[d]at z;cases z⟩
 keep:=λi h h' st k=>by obtain⟨⟨old,he⟩,hit⟩:=st;exact⟨⟨old,k e (by simp) _ he⟩,hit.at λo q=>k it (by simp) o q⟩
 item:=by
  intro X hP hw hK hc i pins s σ H E I hf st hg;subst hP hw hK;obtain⟨xs,x,hq,hx⟩:=hg;obtain⟨its,rv,p,hz⟩:=I.list hq;obtain⟨u,hu,ru⟩:=rv.get hx;obtain⟨⟨old,he⟩,hit⟩:=st;have hel:=Yu he;have hil:it<s.heap.objs.size:=by obtain⟨o,ho,_⟩:=id hit;exact Yu ho
  refine wpAny_pyNext_enum_item he hit p.isList (x:=u) (by simpa using hu) hne λh' ho hit' hT hsz hk=>?_;refine⟨_,rfl,Xv (s:={s with heap:=h',toks:=s.toks+1}) ho λh'' Ob hs''=>?_⟩;obtain⟨I2,n2⟩:=ZiW (x:=x) (tk':=s.toks+1) I hf hel hil ru hT hk hs'';exact⟨.ref s.heap.objs.size,_,I2,rfl,⟨_,x,rfl,I.hok.fresh (Yl _),rfl,λys hy=>by rw[I.Wf hy hq];exact hx⟩,⟨⟨_,by simpa using Ob⟩,hit'.extBut hs''.extBut (bW hne)⟩,n2⟩
 done:=by intro X hP hw hK hc i pins s σ H E I hf st hg;subst hP hw hK;obtain⟨xs,hq,hx⟩:=hg;obtain⟨its,rv,p,hz⟩:=I.list hq;obtain⟨⟨old,he⟩,hit⟩:=st;have hl:=rv.length;exact wpAny_pyNext_enum_end (I.ok.hd hc) he hit p.isList (by simp;exact lC 2 2268279672881 T1 hl hx) λh' eb=>⟨rfl,I.NT (t':=s.toks) (λb o hb q=>eb b o (λz=>hb (by simp[z])) q) hf⟩
 self:=λ_ _ _ _ _ st h=>by obtain⟨⟨old,he⟩,_⟩:=st;exact IW he h
theorem boot_enumerate:i_ "enumerate" =Ya (.type "enumerate"):=by decide +kernel
open AutoSeq1 (wpAny_loadPart')
set_option maxRecDepth 100000
section
variable {prog:Y5} {w:aK} {A:bj} {E:Yd->Yg->Prop} {s:Yg}
theorem Zd5{it t:Ym}{i:Nat}{x:Yd}{Q:Yd->Yg->Prop}(hit:s.heap.IsTupleIter it t i)(ht:s.heap.IsTuple t items)(hx:items[i]?=Ya x)(hQ:∀h',h'.IsTupleIter it t (i+1)->xr it s.heap h'->Q x {s with heap:=h'}):Yz (Y4 prog w) A (Y7 (.ref it)) Q E s:=by
 obtain⟨o,ho,hc,hd⟩:=id hit;obtain⟨ol,hol,_,nl,hdl⟩:=ht;unfold Y7;refine Yc (rG (name:=nY "__next__") hit.typeIs Jv
  (rJ Jv hit.typeIs Z_ ?_ (Yir _)))
 show Yz _ _ (lJ (.ref it) 0>>=_) _ _ s;refine Yc (fO ho hd (x:=.ref t) rfl ?_);show Yz _ _ (if(Value.ref t==Value.none)=true then _ else _) _ _ s;rw[if_neg (show¬((Value.ref t==Value.none)=true)from uK)];show Yz _ _ (lJ (.ref it) 1>>=_) _ _ s;refine Yc (fO ho hd (x:=.int i 0) rfl ?_);show Yz _ _ (Pu (.ref t)>>=_) _ _ s;refine Yc (p6 hol hdl ?_);simp only[qm,hx];refine Yc (I_ ho hd (by simp) (Yk ⟨x,rfl,Yk (hQ _ ?_ (Yis ..))⟩));exact⟨_,ZQ _ ho (Yhy (JM hd _)),(Obj.cls_mapFields ..).trans hc,by rw[JM hd];simp[j_]⟩
theorem Tu{it t:Ym}{i:Nat}{Q:Yd->Yg->Prop}(hh:A.handled=Yh)(hit:s.heap.IsTupleIter it t i)(ht:s.heap.IsTuple t items)(hx:items[i]?=Yh)(hE:∀h' e,Heap.ExtBut it s.heap h'->(∃o,h'.get? e=Ya o/\o.cls= .type "StopIteration")->E (.ref e) {s with heap:=h'}):Yz (Y4 prog w) A (Y7 (.ref it)) Q E s:=by
 obtain⟨o,ho,hc,hd⟩:=id hit;obtain⟨ol,hol,_,nl,hdl⟩:=ht;unfold Y7;refine Yc (rG (name:=nY "__next__") hit.typeIs Jv
  (rJ Jv hit.typeIs Z_ ?_ (Yir _)))
 show Yz _ _ (lJ (.ref it) 0>>=_) _ _ s;refine Yc (fO ho hd (x:=.ref t) rfl ?_);show Yz _ _ (if(Value.ref t==Value.none)=true then _ else _) _ _ s;rw[if_neg (show¬((Value.ref t==Value.none)=true)from uK)];show Yz _ _ (lJ (.ref it) 1>>=_) _ _ s;refine Yc (fO ho hd (x:=.int i 0) rfl ?_);show Yz _ _ (Pu (.ref t)>>=_) _ _ s;refine Yc (p6 hol hdl ?_);simp only[qm,hx];refine Yc (zq (Yc (I_ ho hd (by simp) ?_)));show Yz _ _ (newExc (.type "StopIteration") []>>=_) _ _ _;refine Yc ?_;simp only[newExc,newTuple];refine Yc (ur ?_ (by size_fits));refine Yc (m:=firstArgMember _ _) (wpAny_of_eq (a:=Value.none) (by first|rfl|(simp only[firstArgMember];rfl)) ?_);refine ur ?_ (by size_fits);simp only[raiseNew];refine Yc (wpAny_handled ?_)
 first|rw[show A.in1.handled=Yh from hh]|rw[hh]
 refine Yc (Yk (O_ ?_));exact hE _ _ (((Yis ..).extBut.push _).push _) ⟨_,Y1 _ rfl,rfl⟩
end
theorem Zkv{prog:Y5}(hh:A.handled=Yh)(it l:Ym)(hne:l≠it)(items:Array Yd):
  Draws prog w A it [it,l] items.size (λi v=>items[i]?=Ya v) (λi h=>h.IsTupleIter it l i/\h.IsTuple l items)where
 live:=λ_ _ st=>let⟨o,ho,_⟩:=st.1;⟨o,ho⟩
 frame:=λ_ _ _ st hk=>⟨st.1.at λo e=>hk it (by simp) o e,st.2.at λo e=>hk l (by simp) o e⟩
 item:=λi s Q E hi st hQ=>by refine Zd5 st.1 st.2 (x:=items[i]) (by simp[hi]) λh' hit' hs'=>?_;exact hQ _ h' s.toks (by simp[hi]) ⟨hit',st.2.extBut hs'.extBut hne⟩ hs'
 done:=λs Q E st hE=>Tu hh st.1 st.2 (by simp) hE
theorem Zff(l:Ym)(items:Array Yd)(n:Nat)(dct:Option Ym)(sl:Array (Option Yd)):
  Meets (Builtin.«enumerate.__new__» ⟨[.type "enumerate",.ref l],[]⟩) (λ_ R s=>s.heap.get? l=Ya {cls:=.type "tuple",dict:=dct,data:=.seq items n,slots:=sl}/\
   R (.ok (.ret (.ref (s.heap.push {cls:=.type "tuple_iterator",data:=.fields #[.ref l,.int 0 0]}).objs.size)))
    {s with heap:=(s.heap.push {cls:=.type "tuple_iterator",data:=.fields #[.ref l,.int 0 0]}).push {cls:=.type "enumerate",data:=.fields #[.none,.bool false,.ref s.heap.objs.size,j_ 0,.none,.none]}}):=
 .of_wp λprog w A R s h=>by
  obtain⟨hp,g,d,tk,os⟩:=s;obtain⟨hl,h⟩:=h;have hsub:=sub_enumerate;have hL:Heap.IsTuple (QF ⟨hp,g,d,tk,os⟩) l items:=⟨_,hl,rfl,n,rfl⟩
  wp_walk using wK hl
  refine wpAny_stack_any λst=>Yk ?_;split
  .rename_i c _ _ _ _ _;cases(c==Value.type "enumerate")
   .wp_walk using wK hl,DX hL
    exact⟨_,rfl,h⟩
   .wp_walk using wK hl,DX hL
    exact⟨_,rfl,h⟩
  .wp_walk using wK hl,DX hL
   exact⟨_,rfl,h⟩
theorem Zfc{prog:Y5}{l:Ym}{Q:Yd->Yg->Prop}(hL:s.heap.IsTuple l items)(h:∀h',IsEnum h' (s.heap.objs.size+1) s.heap.objs.size 0 .none->h'.IsTupleIter s.heap.objs.size l 0->h'.objs.size=s.heap.objs.size+2 ->
   (∀b o,s.heap.get? b=Ya o->h'.get? b=Ya o)->Q (.ref (s.heap.objs.size+1)) {s with heap:=h'}):
  Yz (Y4 prog w) A (call (.type "enumerate") [.ref l]) Q E s:=by
 obtain⟨⟨c,dct,dt,sl⟩,hl,hc,n,hd⟩:=hL;replace hc:c= .type "tuple":=hc;replace hd:dt= .seq items n:=hd;subst hc hd;refine callType_new F.called_enumerate (by decide) (F.typeCall_enumerate_1 _) (F.newCall_enumerate_1 _) (λobj=>F.args_object_init_2 obj _) F.entry_enumerate_new
  (Zff l items n dct sl) ⟨hl,?_⟩
 have hz:(s.heap.push {cls:=.type "tuple_iterator",data:=.fields #[.ref l,.int 0 0]}).objs.size=s.heap.objs.size+1:=uG ..;show _/\_;rw[hz];have he:IsEnum ((s.heap.push {cls:=.type "tuple_iterator",data:=.fields #[.ref l,.int 0 0]}).push
   {cls:=.type "enumerate",data:=.fields #[.none,.bool false,.ref s.heap.objs.size,j_ 0,.none,.none]}) (s.heap.objs.size+1) s.heap.objs.size 0 .none:=by
  have:=Y1 (s.heap.push {cls:=.type "tuple_iterator",data:=.fields #[.ref l,.int 0 0]})
   (o:={cls:=.type "enumerate",data:=.fields #[.none,.bool false,.ref s.heap.objs.size,j_ 0,.none,.none]}) rfl
  rw[hz]at this;exact this
 refine⟨⟨_,he,rfl⟩,h _ he ⟨_,Yi _ (Y1 _ rfl),rfl,rfl⟩ (by rw[uG,hz]) λb o x=>Yi _ (Yi _ x)⟩
theorem Zl3{P:Y5}{es:List Expr}{k:Nat}{pos:aM}(a e it:Ym)(hne:e≠it):
  Turn P w K (.Tuple es k pos) (Ite λH xs=>cP K H a xs) [e,it] e (λi h=>(∃old,IsEnum h e it i old)/\h.IsTupleIter it a i)where
 mem:=by simp
 obj:=λi h st b hb=>by
  obtain⟨⟨old,he⟩,o,ho,c,d⟩:=st;simp only[Y6,zK,or_false]at hb;rcases hb with rfl|rfl
  .exact⟨_,he,λv z=>by cases z⟩
  .exact⟨o,ho,λv z=>by rw[d]at z;cases z⟩
 keep:=λi h h' st k=>by obtain⟨⟨old,he⟩,hit⟩:=st;exact⟨⟨old,k e (by simp) _ he⟩,hit.at λo q=>k it (by simp) o q⟩
 item:=by
  intro X hP hw hK hc i pins s σ H E I hf st hg;subst hP hw hK;obtain⟨xs,x,hq,hx⟩:=hg;obtain⟨its,rv,p,hz⟩:=I.tuple hq;obtain⟨u,hu,ru⟩:=rv.get hx;obtain⟨⟨old,he⟩,hit⟩:=st;have hel:=Yu he;have hil:it<s.heap.objs.size:=by obtain⟨o,ho,_⟩:=id hit;exact Yu ho
  have pt:s.heap.IsTuple a its.toArray:=p;have hae:e≠a:=by rintro rfl;obtain⟨o,ho,hc,_⟩:=pt;rw[he]at ho;cases ho;exact absurd hc (by simp)
  have hai:a≠it:=by rintro rfl;obtain⟨o,ho,hc,_⟩:=pt;obtain⟨o',ho',hc',_⟩:=hit;rw[ho']at ho;cases ho;rw[hc']at hc;exact absurd hc (by simp)
  have D:=Zkv (prog:=X.prog) (w:=X.w) (A:=X.A.in1) (I.ok.hd hc) it a hai its.toArray;refine wpAny_pyNext_enum_itemD D he ⟨hit,pt⟩ (by simpa using(Yf.mp hu).1) hne (by simp[hne,hae]) λy h' tk hy ho hst hT hsz hk=>?_;have ey:y=u:=by
   have:its.toArray[i]?=Ya u:=by simpa using hu
   rw[this]at hy;cases hy;rfl
  subst ey;refine⟨_,rfl,Xv (s:={s with heap:=h',toks:=tk+1}) ho λh'' Ob hs''=>?_⟩;obtain⟨I2,n2⟩:=ZiW (x:=x) (tk':=tk+1) I hf hel hil ru hT hk hs'';exact⟨.ref s.heap.objs.size,_,I2,rfl,⟨_,x,rfl,I.hok.fresh (Yl _),rfl,λys hy=>by rw[I.Nr hy hq];exact hx⟩,⟨⟨_,by simpa using Ob⟩,hst.1.extBut hs''.extBut (bW hne)⟩,n2⟩
 done:=by
  intro X hP hw hK hc i pins s σ H E I hf st hg;subst hP hw hK;obtain⟨xs,hq,hx⟩:=hg;obtain⟨its,rv,p,hz⟩:=I.tuple hq;obtain⟨⟨old,he⟩,hit⟩:=st;have hl:=rv.length;have pt:s.heap.IsTuple a its.toArray:=p;have hT:s.TypeIs (.ref e) "enumerate":=⟨_,he,rfl⟩;unfold iy;refine Yc (wR (rG (name:=nY "__next__") hT Yhz
   (rJ Yhz hT F.entry_enumerate_next ?_ (F.args_enumerate_next_1 _))))
  show Yz _ _ (lJ (.ref e) 2>>=_) _ _ _;refine Yc (fO he rfl (x:=.ref it) rfl ?_);refine Yc (Tu (I.ok.hd hc) hit pt (by simp;exact lC 2 2268279672881 T1 hl hx) λh' x he' hx'=>?_);obtain⟨o,ho,hc⟩:=hx';refine Yc (OJ (T:="StopIteration") (b:=true) ⟨o,ho,hc⟩ O5 ?_);exact Yk ⟨rfl,I.NT (t':=s.toks) (λb o hb q=>he' b o (λz=>hb (by simp[z])) q) hf⟩
 self:=λ_ _ _ _ _ st h=>by obtain⟨⟨old,he⟩,_⟩:=st;exact IW he h
section
variable {X:Cx} {es:List Expr} {k:Nat} {a:Expr} {p pos tpos:aM} {f:E3}
def Zs7(K:Yb)(ta:TA):TI:=λσ H R=>ta σ H λvs H1=>∃b,vs=[.ref b]/\((∃xs,cB K H1 b xs/\R (Ite λH xs=>cB K H b xs) H1)\/∃xs,cP K H1 b xs/\R (Ite λH xs=>cP K H b xs) H1)
theorem Zrm{ta:TA}(hg:Gl X "enumerate")(hm:X.mg "enumerate" =Yh)(ha:PA X [a] ta)(hs:Yq [a] X.env=[(false,aG a X.env)]:=by rfl):PI X (.Tuple es k tpos) (.Call (.Name "enumerate" p) [a] [] pos) (Zs7 X.K ta):=by
 intro pins s σ H R I h;refine Call_ (xF I hg hm boot_enumerate (Ez (aH (ha pos pins s σ H _ I h) λus s1 ⟨vs,H1,I1,r1,q1⟩=>?_) hs rfl));obtain⟨b,e,q⟩:=q1;subst e;cases r1 with
 | cons r rr=>
  cases rr
  cases r
  have fp:∀{h':au} {s2:Yg},∀c∈[s1.heap.objs.size+1,s1.heap.objs.size],gq X pins H1 c:=λ{h' s2} c hc=>by
   have hc':s1.heap.objs.size<=c:=by simp only[Y6,zK,or_false]at hc;rcases hc with rfl|rfl <;>omega
   exact I1.ug hc' (I1.hok.fresh hc')
  rcases q with⟨xs,hq,q⟩|⟨xs,hq,q⟩
  .obtain⟨its,rv,pl,hz⟩:=I1.list hq;refine call_enumerate_list pl.isList λh' hE hI hsz hk=>?_;have I2:Inv X pins σ H1 {s1 with heap:=h'}:=I1.kept (t':=s1.toks) hk;exact IW (s:={s1 with heap:=h'}) hE ⟨_,[s1.heap.objs.size+1,s1.heap.objs.size],_,_,H1,rfl,I2,Zl2 b _ _ (Z0 _),⟨⟨_,hE⟩,hI⟩,fp (h':=h') (s2:=s1),q⟩
  .obtain⟨its,rv,pl,hz⟩:=I1.tuple hq;refine Zfc (show s1.heap.IsTuple b its.toArray from pl) λh' hE hI hsz hk=>?_;have I2:Inv X pins σ H1 {s1 with heap:=h'}:=I1.kept (t':=s1.toks) hk;exact IW (s:={s1 with heap:=h'}) hE ⟨_,[s1.heap.objs.size+1,s1.heap.objs.size],_,_,H1,rfl,I2,Zl3 b _ _ (Z0 _),⟨⟨_,hE⟩,hI⟩,fp (h':=h') (s2:=s1),q⟩
theorem ZrJ(hm:X.mg "enumerate" =Yh)(h:C3 X a f)(hg:Gl X "enumerate":=by rfl)(hs:Yq [a] X.env=[(false,aG a X.env)]:=by rfl)(hs':Yq (a::[]) X.env=(false,aG a X.env)::Yq [] X.env:=by rfl):CIL X (.Tuple es k tpos) (.Call (.Name "enumerate" p) [a] [] pos) (R0 f):=
 PI.imp (Zrm hg hm (Zb h Zf hs') hs) λσ H R ak=>by
  obtain⟨ι,M,env,S,E,h⟩:=ak;obtain⟨d,M1,e1,h⟩:=GC.bind h;refine⟨ι,M,env,S,E,?_⟩;have e2:Za f Ze env M= .ok [d] M1:=by unfold Za;rw[e1];rfl
  rw[e2];intro vs H1 ι1 x1 S1 r1;obtain⟨v,ws,rfl,r,q⟩:=r1.cons_inv;have:=q.nil_inv;subst this;cases d with
  | tup ds=>
   obtain⟨b,vs,rfl,s,r⟩:=r.jh;refine⟨b,rfl,.inr ⟨vs,s,h _ H1 ι1 x1 S1 ?_⟩⟩;intro i H2 ι2 M2 x S2 _;refine⟨λd hd=>?_,λhl=>⟨vs,x.tup _ _ s,by rw[r.length,hl,R5];exact Yl _⟩⟩;rw[R4]at hd;cases hq:ds[i]? with
   |none=>rw[hq]at hd;cases hd|some d0=>rw[hq]at hd;simp only[Xi,zR,Z3]at hd;subst hd;obtain⟨v,hv,rv⟩:=r.get hq;refine⟨⟨vs,v,x.tup _ _ s,hv⟩,λy H3 hy=>?_⟩;obtain⟨T,y',rfl,hT,rfl,hall⟩:=hy;have e:=hall vs (x.tup _ _ s);rw[hv]at e;cases e;exact S2.uh hT (Zv.cons Rep.int (Zv.cons (rv.mono x) Zv.nil))
  | ref n=>
   cases hm:M1[n]? with
   |none=>simp only[hm]at h;exact h.elim|some o=>
    cases o with
    |dct kvs=>simp only[hm]at h;exact h.elim|dJ kvs=>simp only[hm]at h;exact h.elim|ins _ _=>simp only[hm]at h;exact h.elim|lst ds=>
     simp only[hm]at h;obtain⟨b,ha,rfl⟩:=r.fK;obtain⟨vs,q,r⟩:=S1.obj n _ b hm ha;refine⟨b,rfl,.inl ⟨vs,cB.of q,h _ H1 ι1 x1 S1 ?_⟩⟩;intro i H2 ι2 M2 x S2 lk;have Sh:M2[n]?=Ya (.lst ds):=by simpa[qK]using lk
     obtain⟨vs2,q2,r2⟩:=S2.obj n _ b Sh (x.pre _ _ ha);refine⟨λd hd=>?_,λhl=>⟨vs2,cB.of q2,by rw[r2.length,hl,R5];exact Yl _⟩⟩;rw[R4]at hd;cases hq:ds[i]? with
     |none=>rw[hq]at hd;cases hd|some d0=>rw[hq]at hd;simp only[Xi,zR,Z3]at hd;subst hd;obtain⟨v,hv,rv⟩:=r2.get hq;refine⟨⟨vs2,v,cB.of q2,hv⟩,λy H3 hy=>?_⟩;obtain⟨T,y',rfl,hT,rfl,hall⟩:=hy;have e:=hall vs2 (cB.of q2);rw[hv]at e;cases e;exact S2.uh hT (Zv.cons Rep.int (Zv.cons rv Zv.nil))
  |_=>exact h.elim
end
end L3
namespace L3
open PySem PySem.Spec PyProof.Rows L2
section
variable {X:Cx}
theorem ZtL:i_ "max" =Ya (.builtin "max"):=by decide +kernel
theorem ZrZ{K:Yb}{H:Hp}{ι:List Ym}{i j:Int}{xs:List V}(r:Zv K H ι [.int i,.int j] xs):xs=[.int i,.int j]:=by obtain⟨v1,vs1,rfl,q1,r⟩:=r.cons_inv;obtain⟨v2,vs2,rfl,q2,r⟩:=r.cons_inv;have:=r.nil_inv;subst this;have e1:=q1.int_inv;have e2:=q2.int_inv;subst e1 e2;rfl
theorem Zui(hc:X.calm=true):aZ X (.builtin "max") (rB X.K Az):=aZ.imp (Zn9 hc) λxs H Q ak=>by
 obtain⟨ι,M,ds,S,rd,h⟩:=ak;unfold Az at h;split at h
 .exact⟨_,_,ZrZ rd,h _ H ι Ext.refl S Rep.int⟩
 .exact h.elim
end
open AutoSeq1 (wpAny_loadPart')
set_option maxRecDepth 100000
section
variable {X:Cx} {o e:Expr} {es:List Expr} {apos cpos:aM} {f:E3} {gl:bU}
theorem Zr1{K:Yb}{T:String}{ty:D->Store->Bool}{m:D->List D->Store->R3 D}(hty:∀H ι M a x,ao K H ι M->Rep K H ι a x->ty a M=true->Ae K T x H)(σ:St)(H:Hp)(Q:VK)(h:lY K (bD ty m f Ze) σ H Q):Zwj K T (rM K m) (lY K f) σ H Q:=by
 obtain⟨ι,M,env,S,E,h⟩:=h;obtain⟨a,M1,e1,h⟩:=Zy.bind h;refine⟨ι,M,env,S,E,?_⟩;rw[e1];intro v H1 ι1 x1 S1 r1;by_cases ht:ty a M1=true
 .rw[if_pos ht]at h;exact⟨hty _ _ _ _ _ S1 r1 ht,ι1,M1,a,[],S1,r1,Zv.nil,h.up x1⟩
 .rw[if_neg ht]at h;exact h.elim
theorem Zio(ho:C3 X o f)(hbase:p7 o "pop" X.env (aG o X.env)=aG o X.env:=by rfl)(hline:(apos.endLine==cpos.line)=true:=by rfl):C3 X (.Call (.Attribute o "pop" apos) [] [] cpos) (bD bI sX f Ze):=(Ztu Qn PySem.F.slot_list_pop PySem.F.type_list_pop ZvD ho hbase hline).imp (Zr1 Tj)
end
end L3
namespace L3
open PySem PySem.Spec PyProof.Rows L2
set_option maxRecDepth 100000
section
variable {X:Cx} {es:List Expr} {k:Nat} {a b:Expr} {p pos tpos:aM} {f g:E3}
theorem Zon:i_ "zip" =Ya (.type "zip"):=by decide +kernel
end
open PySem PySem.W PyProof.Rows
section
variable {M:Model} {A:bj} {E:Yd->Yg->Prop} {G:Yg->Prop}
def TT(M:Model)(A:bj)(E:Yd->Yg->Prop)(G:Yg->Prop){α:Type}(m:StateT SortSt kh α)(Q:α->SortSt->Prop)(st:SortSt):Prop:=∀s,G s->kasC M A E m (λa st' s'=>Q a st'/\G s') st s
end
end L3
namespace L3
open PySem PySem.Spec PyProof.Rows L2
@[simp] noncomputable def Ld(g:bU)(f:E3):bU:=λenv M=>(g env M).bind λds M1=>(f env M1).bind λd M2=>.ok (ds++[d]) M2
@[simp] noncomputable def Tv(F:F3)(dd:List D):F3:=λds M=>F (ds++dd) M
noncomputable def gK{α:Type}(n:Nat)(us ws:List α):List α:=if us.length=n/\ws.length=1 then us++ws else[]
def DefX(K:Yb)(mg:aj->Option Yd)(x:aj)(st:Yc6)(ps:List aj)(dd:List D)(n:Nat)(nm:aj):Prop:=∃f fd ds gw,n_ K x x st f fd/\mg x=Ya (.ref f)/\Binds K fd ps []/\Binds K fd ps ds/\Vals gw ds/\(∀H ι,Zv K H ι dd gw)/\J9 K fd ps [nm] (gK n) (gK n)
section
variable {P:Y5} {w:aK} {K:Yb} {mg:aj->Option Yd} {base:au} {dd:List D} {n:Nat} {nm:aj}
theorem Zsa{fd:iJ}{ps:List aj}(hps:ps≠[])(h:∀(s:Yg) (us:List Yd) (u:Yd),K.In s.heap->us.length=n->rP s fd ⟨us,[(nm,u)]⟩ (ps.zip (us++[u]))):J9 K fd ps [nm] (gK n) (gK n):=by
 refine⟨λs us ws hK hl=>?_,λ{vs us zs ws} r1 r2=>?_⟩
 .unfold gK at hl ⊢;by_cases c:us.length=n/\ws.length=1
  .rw[if_pos c]
   match ws,c with
   |[u],c=>exact h s us u hK c.1
  .rw[if_neg c]at hl;exact absurd (Eh hl.symm) hps
 .unfold gK;rw[r1.length,r2.length];by_cases c:us.length=n/\ws.length=1
  .rw[if_pos c,if_pos c];exact r1.append r2
  .rw[if_neg c,if_neg c];exact .nil
theorem Zrp{h:au}(KX:K.In h)(G:h.Ns Yy mg){x:aj}{st:Yc6}{f:Ym}{oc:Yd}{od an:Option Ym}{osl:Array (Option Yd)}{dV kV doc pm cdv ct:Yd}(a:Ou K Yy x=Ya (Ya (.ref f)))(l:K.lookup f=Ya ⟨oc,od,.func (jL x x (cC st) (bJ st) (Zj st) dV kV doc pm an cdv ct),osl⟩)(c:wG K cdv x=true)(k:mH K (.ref f)=true){ps:List aj}(b:Binds K (jL x x (cC st) (bJ st) (Zj st) dV kV doc pm an cdv ct) ps []){i:Int}{t:gY}(b1:Binds K (jL x x (cC st) (bJ st) (Zj st) dV kV doc pm an cdv ct) ps [.int i t])(kb:J9 K (jL x x (cC st) (bJ st) (Zj st) dV kV doc pm an cdv ct) ps [nm] (gK n) (gK n)):DefX K mg x st ps [.int i] n nm:=⟨f,_,_,[.int i],Rm l c k,Ot KX G a,b,b1,.cons ⟨t,rfl⟩ .nil,λ_ _=>Zv.cons Rep.int Zv.nil,kb⟩
end
open PySem PySem.W PySem.Spec PyProof.Rows L2
end L3
namespace L3
open PySem PySem.Spec PyProof.Rows L2
noncomputable abbrev nm(f:List Nat):aj:=⟨f.toArray⟩
variable{f:List Nat}
theorem ZoI{g:List Nat}(h:nm f=nm g):f=g:=by have:=congrArg (λs:aj=>s.cps.toList) h;simpa using this
section
variable {K:Yb} {H H':Hp} {ι ι':List Ym} {fs:List (List Nat×D)} {gs:List (aj×V)}
theorem fU.mono(e:Ext K H ι H' ι')(h:fU K H ι fs gs):fU K H' ι' fs gs:=⟨h.1,h.2.mono e⟩
theorem fU.nil:fU K H ι [] []:=⟨rfl,Zv.nil⟩
theorem fU.nil_inv(h:fU K H ι [] gs):gs=[]:=List.map_eq_nil_iff.mp h.1
theorem fU.cons_inv{d:D}(h:fU K H ι ((f,d)::fs) gs):∃v gs',gs=(nm f,v)::gs'/\Rep K H ι d v/\fU K H ι fs gs':=by
 cases gs with
 |nil=>cases h.1|cons p gs'=>obtain⟨g,v⟩:=p;obtain⟨h1,h2⟩:=h;rw[Y9,Y9]at h1 h2;obtain⟨e1,e2⟩:=QC h1;obtain⟨v',ws,e,r,q⟩:=h2.cons_inv;obtain⟨rfl,rfl⟩:=QC e;exact⟨v,gs',by rw[show g=nm f from e1],r,e2,q⟩
theorem fU.cons{f:List Nat}{d:D}{v:V}(r:Rep K H ι d v)(h:fU K H ι fs gs):fU K H ι ((f,d)::fs) ((nm f,v)::gs):=⟨by rw[Y9,Y9,h.1],Zv.cons r h.2⟩
theorem fU.length(h:fU K H ι fs gs):gs.length=fs.length:=by have:=congrArg Eo h.1;simpa using this
theorem fU.look:∀{fs:List (List Nat×D)} {gs:List (aj×V)},fU K H ι fs gs->(fs.lookup f=Yh->gs.lookup (nm f)=Yh)/\∀d,fs.lookup f=Ya d->∃v,gs.lookup (nm f)=Ya v/\Rep K H ι d v
 |[],_,h=>by rw[h.nil_inv];exact⟨λ_=>rfl,λd e=>by cases e⟩|(g,x)::fs,_,h=>by
  obtain⟨v,gs',rfl,r,t⟩:=h.cons_inv;rw[jM,jM];by_cases e:f=g
  .subst e;rw[beq_self_eq_true,beq_self_eq_true];exact⟨λq=>(by cases q),λd q=>(by cases q;exact⟨v,rfl,r⟩)⟩
  .rw[beq_false_of_ne e,beq_false_of_ne λq=>e (ZoI q)];exact t.look
theorem fU.put{d:D}{v:V}(r:Rep K H ι d v):∀{fs:List (List Nat×D)} {gs:List (aj×V)},fU K H ι fs gs->fU K H ι (tG f d fs) (iQ (nm f) v gs)
 |[],_,h=>by rw[h.nil_inv];exact fU.cons r fU.nil|(g,x)::fs,_,h=>by
  obtain⟨w,gs',rfl,r',t⟩:=h.cons_inv;unfold tG iQ;by_cases e:g=f
  .subst e;rw[if_pos rfl,if_pos rfl];exact fU.cons r t
  .rw[if_neg e,if_neg λq=>e (ZoI q)];exact fU.cons r' (t.put r)
end
structure vO(K:Yb)(c:List Nat)(C:Ym):Prop where
 at_:ClsAt K c C
 cls:sV K C
 nz:c.head?≠Ya 0
variable{C:Ym}{c:List Nat}
theorem vO.same{K:Yb}{C':Ym}(h:vO K c C)(q:ClsAt K c C'):C'=C:=by have:=q.symm.trans h.at_;cases this;rfl
variable{ps:List aj}{F:F3}{H:Hp}{ι:List Ym}{fd:iJ}
section
variable {X:Cx} {o e:Expr} {es:List Expr} {f g:E3} {gl:bU} {c m:List Nat} {C:Ym} {fn:aj} {pos pos' apos p:aM} {x:aj}
theorem Tw{M:Store}{n:Nat}{a:Ym}(kc:vO X.K c C)(S:ao X.K H ι M)(ha:ι[n]?=Ya a){fs:List (List Nat×D)}(hn:M[n]?=Ya (.ins c fs)):∃dx gs,H a=Ya (.ins C dx gs)/\fU X.K H ι fs gs:=by
 rcases S.obj n _ a hn ha with⟨C',dx,gs,q,ca,fr⟩|⟨_,_,z,_⟩
 .rw[kc.same ca.1]at q;exact⟨dx,gs,q,fr⟩
 .exact absurd z kc.nz
theorem qP(kc:vO X.K c C)(nf:mR X.K C (nm m))(he:C3 X e f)(hf:fn=nm m:=by decide +kernel)(hb:p7 e fn X.env (aG e X.env)=aG e X.env:=by rfl):C3 X (.Attribute e fn pos) (e1 (jz c m) f):=by
 subst hf;refine(Zt5 he hb).imp λσ H Q ak=>?_;obtain⟨ι,M,env,S,E,h⟩:=ak;obtain⟨d,M1,e1,hh⟩:=Zy.bind h;refine⟨ι,M,env,S,E,?_⟩;rw[e1];intro v H1 ι1 x1 S1 r1;cases d with
 | ref n=>
  simp only[A_]at hh;cases hn:M1[n]? with
  |none=>simp only[hn]at hh;exact hh.elim|some ob=>
   cases ob with
   | ins c' fs=>
    simp only[hn]at hh;split at hh
    .rename_i ec;subst ec;obtain⟨a,ha,rfl⟩:=r1.fK;obtain⟨dx,gs,q,fr⟩:=Tw kc S1 ha hn;split at hh
     .rename_i d hl;obtain⟨w,lw,mU⟩:=(fr.look (f:=m)).2 d hl;exact⟨a,C,dx,gs,w,rfl,q,kc.cls,nf,lw,hh w H1 ι1 x1 S1 mU⟩
     .exact hh.elim
    .exact hh.elim
   |_=>simp only[hn]at hh;exact hh.elim
 |_=>exact hh.elim
theorem Bl(kc:vO X.K c C)(nf:mR X.K C (nm m))(ho:C3 X o f)(hv:C3 X e g)(hf:fn=nm m:=by decide +kernel)(hs:nO e (Ya (.Attribute o fn pos')) pos.line X.env=pure false:=by rfl):CS X (.Assign [.Attribute o fn pos'] e pos) (xT c m f g):=by
 subst hf;refine(Ztb ho hv hs).imp λD' σ H ak=>?_;obtain⟨ι,M,env,S,E,hh⟩:=ak;have hh:=ZkJ E hh;obtain⟨d,M1,e1,hh⟩:=Zy.bind hh;obtain⟨b,M2,e2,hh⟩:=Zy.bind hh;refine⟨ι,M,env,S,E,?_⟩;rw[e1];intro y H1 ι1 x1 S1 r1;refine⟨ι1,M1,env,S1,E.mono x1,?_⟩;rw[e2];intro w H2 ι2 x2 S2 r2;cases b with
 | ref n=>
  simp only[R6]at hh;cases hn:M2[n]? with
  |none=>simp only[hn]at hh;exact hh.elim|some ob=>
   cases ob with
   | ins c' fs=>
    simp only[hn]at hh;split at hh
    .rename_i ec;obtain⟨ec,lf⟩:=ec;subst ec;obtain⟨a,ha,rfl⟩:=r2.fK;obtain⟨dx,gs,q,fr⟩:=Tw kc S2 ha hn;have l0:Loose H2 a:=.inr (.inr (.inr ⟨C,dx,gs,q⟩));have x3:Ext X.K H2 ι2 (upd H2 a (.ins C dx (iQ (nm m) y gs))) ι2:=l0.ext;have S3:ao X.K (upd H2 a (.ins C dx (iQ (nm m) y gs))) ι2 (M2.set n (.ins c' (tG m d fs))):=S2.put l0 ha (.inl ⟨C,dx,_,mO,⟨kc.at_,kc.nz⟩,(fr.put (r1.mono x2)).mono x3⟩);exact⟨a,C,dx,gs,rfl,q,kc.cls,nf,by rw[fr.length];exact lf,hh .non _ _ ((x1.trans x2).trans x3) S3 Rep.non⟩
    .exact hh.elim
   |_=>simp only[hn]at hh;exact hh.elim
 |_=>exact hh.elim
def Zxw(P:Y5)(w:aK)(K:Yb)(mg:aj->Option Yd)(base:au)(k:Nat)(C:Ym)(m:aj)(ps:List aj)(F:F3):Prop:=(∀ds M,ds.length≠ps.length->F ds M= .bad)/\∃f fd,Meth K C m f/\Binds K fd ps []/\eQ P w K mg base jQ k f fd ps (qM K ps.length F)
theorem Zqq{ps:List aj}{F:F3}{a:D}{M1:Store}{n:Nat}(hi:tH c m a M1=true):∃n fs,a= .ref n/\M1[n]?=Ya (.ins c fs)/\fs.lookup m=Yh:=by
 cases a with
 | ref n=>
  simp only[Zlu]at hi;cases hn:M1[n]? with
  |none=>simp[hn]at hi|some ob=>
   cases ob with
   |ins c' fs=>simp only[hn,jb,decide_eq_true_eq,Option.isNone_iff_eq_none]at hi;obtain⟨rfl,hl⟩:=hi;exact⟨n,fs,rfl,hn,hl⟩|_=>simp[hn]at hi
 |_=>exact ft hi
theorem ZtW{k:Nat}{fa:Ym}(at_:ClsAt X.K c C/\c.head?≠Ya 0)(Mc:Mk X.K C fa)(hF:∀ds M,ds.length≠ps.length->F ds M= .bad)(ok:eQ X.prog X.w X.K X.mg X.base jQ k fa fd ps (qM X.K ps.length F))(bi:Binds X.K fd ps [])(hm:X.mg x=Ya (.ref C))(hr:b_ (k+1) X.A)(ha:CA X (e::es) gl)(hg:Gl X x:=by rfl)(hdb:(x==("__debug__":aj))=false:=by decide)(he:Yq (e::es) X.env=(false,aG e X.env)::Yq es X.env:=by rfl)(hpl:(dm pos (Yq es X.env)).any (·.1)=false:=by rfl):C3 X (.Call (.Name x p) (e::es) [] pos) (Gd c F gl):=by
 refine(Zrt Mc ok hr hg hm bi .nil ZsF ha hdb he hpl).imp λσ H Q ak=>?_;obtain⟨ι,M,env,S,E,h⟩:=ak;obtain⟨ds,M1,e1,h⟩:=Zy.bind h;refine⟨ι,M,env,S,E,?_⟩;rw[e1];intro vs H1 ι1 x1 S1 r1 y dx hy hd ne;have y2:upd H1 dx (.own y) y=Yh:=by rw[cW (bW ne)];exact hy
 have x2:Ext X.K H1 ι1 (upd H1 dx (.own y)) ι1:=Loose.ext (.inl hd);have S2:ao X.K (upd H1 dx (.own y)) ι1 M1:=S1.other (.inl hd) (S1.fresh hd);have x3:Ext X.K (upd H1 dx (.own y)) ι1 (upd (upd H1 dx (.own y)) y (.ins C dx [])) (ι1++[y]):=Loose.Du (.inl y2);have S3:ao X.K (upd (upd H1 dx (.own y)) y (.ins C dx [])) (ι1++[y]) (M1++[.ins c []]):=S2.new y2 (.inl ⟨C,dx,[],mO,at_,fU.nil⟩);have hy':(ι1++[y])[M1.length]?=Ya y:=by rw[←S1.len];simp
 have rr:Rep X.K (upd (upd H1 dx (.own y)) y (.ins C dx [])) (ι1++[y]) (.ref M1.length) (.ref y):=Rep.ref hy';cases q:F (.ref M1.length::ds) (M1++[.ins c []])with
 |bad=>simp only[q]at h;exact h.elim|exc _ _=>simp only[q]at h;exact h.elim|ok d M2=>
  have hl:(D.ref M1.length::ds).length=ps.length:=by refine uO λz=>?_;rw[hF _ _ z]at q;cases q
  refine⟨ι1++[y],M1++[.ins c []],.ref M1.length::ds,S3,by rw[qd];exact Zv.cons rr ((r1.mono x2).mono x3),hl,?_⟩;rw[q];simp only[q]at h;cases d with
  |non=>intro v H4 ι4 x4 S4 r4;exact⟨r4.oW,h _ H4 ι4 (((x1.trans x2).trans x3).trans x4) S4 (rr.mono x4)⟩|_=>exact h.elim
end
noncomputable def vP(s:Yc6):List Yc6:=match s with
 | .ClassDef _ _ _ b _ _ _ _ _ _ _=>b|_=>[]
def jY(K:Yb)(C:Ym)(m qual:aj)(st:Yc6)(ps:List aj):Prop:=∃f fd,n_ K m qual st f fd/\Meth K C m f/\Binds K fd ps []
def Le(K:Yb)(C:Ym)(qual:aj)(st:Yc6)(ps:List aj):Prop:=∃f fd,n_ K "__init__" qual st f fd/\Mk K C f/\Binds K fd ps []
def Bm(P:Y5)(w:aK)(K:Yb)(mg:aj->Option Yd)(base:au)(k:Nat)(C:Ym)(ps:List aj)(F:F3):Prop:=(∀ds M,ds.length≠ps.length->F ds M= .bad)/\∃f fd,Mk K C f/\Binds K fd ps []/\eQ P w K mg base jQ k f fd ps (qM K ps.length F)
section
variable {P:Y5} {w:aK} {K:Yb} {mg:aj->Option Yd} {base:au} {C f:Ym} {m qual:aj} {st:Yc6} {N ps:List aj} {k:Nat} {body:S3} {oc:Yd} {od an:Option Ym} {osl:Array (Option Yd)} {dV kV doc pm cdv ct:Yd}
theorem ye(a:Y0 K (.ref C) m=Ya (Ya (.ref f)))(i:mJ K (.ref f)=true)(l:K.lookup f=Ya ⟨oc,od,.func (jL m qual (cC st) (bJ st) (Zj st) dV kV doc pm an cdv ct),osl⟩)(c:wG K cdv qual=true)(kp:mH K (.ref f)=true)(b:Binds K (jL m qual (cC st) (bJ st) (Zj st) dV kV doc pm an cdv ct) ps []):jY K C m qual st ps:=⟨f,_,⟨⟨oc,od,dV,kV,doc,pm,an,cdv,ct,osl,rfl,l,c⟩,kp⟩,⟨a,i,kp⟩,b⟩
theorem Zrj(mk:Iw K C=true)(kc:mH K (.ref C)=true)(a:Y0 K (.ref C) "__init__" =Ya (Ya (.ref f)))(i:mJ K (.ref f)=true)(l:K.lookup f=Ya ⟨oc,od,.func (jL "__init__" qual (cC st) (bJ st) (Zj st) dV kV doc pm an cdv ct),osl⟩)(c:wG K cdv qual=true)(kp:mH K (.ref f)=true)(b:Binds K (jL "__init__" qual (cC st) (bJ st) (Zj st) dV kV doc pm an cdv ct) ps []):Le K C qual st ps:=⟨f,_,⟨⟨oc,od,dV,kV,doc,pm,an,cdv,ct,osl,rfl,l,c⟩,kp⟩,⟨mk,a,i,kc⟩,b⟩
theorem Bm.of(d:Le K C qual st ps)(S:cX N ps (Zj st))(hb:∀(f:Ym) (cdv:Yd) (A:bj) (outer:List cQ) (s:Yg) (H:Hp) (E:XK),b_ k (A.deeper (jN qual (Zj st) s.heap.objs.size f cdv))->lz (lU jQ P w K mg base N qual (Zj st) f cdv A outer s H E).eO (bJ st) body):
  Bm P w K mg base (k+1) C ps (bh ps.length N.length body):=by
 obtain⟨f,fd,F,mk,bi⟩:=d;exact⟨λds M h=>if_neg h,f,fd,mk,bi,Sg F S (hb f)⟩
end
variable{X:Cx}{pos:aM}
theorem Zxv{e:Expr}{es:List Expr}{gl:bU}{p:aM}{x:aj}{k:Nat}(kc:vO X.K c C)(G:Bm X.prog X.w X.K X.mg X.base k C ps F)(hm:X.mg x=Ya (.ref C))(hr:b_ (k+1) X.A)(ha:CA X (e::es) gl)(hg:Gl X x:=by rfl)(hdb:(x==("__debug__":aj))=false:=by decide)(he:Yq (e::es) X.env=(false,aG e X.env)::Yq es X.env:=by rfl)(hpl:(dm pos (Yq es X.env)).any (·.1)=false:=by rfl):C3 X (.Call (.Name x p) (e::es) [] pos) (Gd c F gl):=by obtain⟨hF,f,fd,mk,bi,ok⟩:=G;exact ZtW ⟨kc.at_,kc.nz⟩ mk hF ok bi hm hr ha hg hdb he hpl
theorem ZpM{P:Y5}{w:aK}{h:au}{e:Ym}(x:vz e C h):eN P w H h e (pO e C):=⟨x,(let⟨o,_,q,_⟩:=x;⟨o,q⟩),λ_ _ z k=>let⟨o,vs,a,b,c⟩:=z;⟨o,vs,k o a,b,c⟩⟩
theorem Q8{P:Y5}{w:aK}{h:au}{a:Ym}{o:HO}(x:eN P w H h a o):∃u,h.get? a=Ya u:=by
 cases o with
 |lst xs=>obtain⟨_,_,_,_,e⟩:=x;exact⟨_,e⟩|tup xs=>obtain⟨_,_,_,o,e,_⟩:=x;exact⟨o,e⟩|dK kvs=>obtain⟨_,_,_,_,o,_,_,e,_⟩:=x;exact⟨o,e⟩|dT kvs=>obtain⟨_,_,_,_,o,_,_,e,_⟩:=x;exact⟨o,e⟩
 |set S n=>obtain⟨o,_,_,_,e,_⟩:=x;exact⟨o,e⟩|ins C dx fs=>obtain⟨_,_,_,e,_⟩:=x;exact⟨_,e⟩|own y=>exact x|xd fs=>obtain⟨_,⟨o,_,_,e,_⟩,_⟩:=x;exact⟨o,e⟩
 |JV lo hi=>obtain⟨_,_,_,e⟩:=x;exact⟨_,e⟩|fB ob u=>obtain⟨e,_⟩:=x;exact⟨_,e⟩|uU ps=>exact⟨_,x⟩|met f y=>exact⟨_,x⟩
 |ext φ=>exact x.2.1
def Bo(B:au)(l:List cQ)(e C:Ym)(a0:Yd)(h:au):Prop:=B.StaysIn h/\B.get? e=Yh/\h.FunFrames B l/\∃fl,h.TracedAtW B e (.ref C) a0 fl
def oG(B:au)(l:List cQ)(e C:Ym)(h:au):Prop:=∃a0,Bo B l e C a0 h\/(B.StaysIn h/\B.get? e=Yh/\h.FunFrames B l/\∃oe vs,h.get? e=Ya oe/\oe.cls= .ref C/\oe.data= .fields vs/\vs[0]?=Ya a0/\vs[1]?=Ya .none)
section
variable {B h h':au} {l:List cQ} {e C:Ym}
theorem Bp{a0:Yd}(f:Heap.FlyingW B l e (.ref C) a0 h):vz e C h:=let⟨o,vs,a,b,c,_⟩:=f.first;⟨o,vs,a,b,c⟩
theorem Bo.GD{a0:Yd}(f:Bo B l e C a0 h):vz e C h:=let⟨_,_,_,_,o,vs,_,_,_,a,b,c,_⟩:=f;⟨o,vs,a,b.1,c⟩
theorem oG.stays(f:oG B l e C h):B.StaysIn h:=by
 obtain⟨a0,f|f⟩:=f
 .exact f.1
 .exact f.1
theorem oG.GD(f:oG B l e C h):vz e C h:=by
 obtain⟨a0,f|⟨_,_,_,oe,vs,a,b,c,_⟩⟩:=f
 .exact f.GD
 .exact⟨oe,vs,a,b,c⟩
end
section
variable {M:Model} {A:bj} {E:Yd->Yg->Prop} {s:Yg} {B:au} {env:cQ} {outer:List cQ} {L e C:Ym} {Q:Unit->Yg->Prop}
theorem ZpG{a0:Yd}(hfr:A.frames=Ya (env::outer))(hf:env.frame=Ya L)(f:Bo B (env::outer) e C a0 s.heap)(hQ:∀h',Heap.HeldW B (env::outer) e (.ref C) a0 L h'->s.heap.UpToSlots h'->Q () {s with heap:=h'}):Yz M A (nP (.ref e) env) Q E s:=by
 obtain⟨f1,f2,f3,fl,ht⟩:=f;by_cases q:fl=j_ L
 .subst q;exact wpAny_noteFrame_againW hf ht (hQ s.heap ⟨f1,f2,f3,ht⟩ (Heap.UpToSlots.refl _))
 .obtain⟨oe,vs,T,oT,ts,he,⟨hcls,h0⟩,hd,h1,hnT,hTe,hT,hdT,h3⟩:=ht;unfold nP;simp only[hf];refine Yc (fO he hd h1 ?_);rw[if_pos (show(Value.ref T !=Value.none)=true from by simp)];refine Yc (fO hT hdT h3 ?_);rw[if_neg (show¬((fl==j_ L)=true)from by simpa using q)];refine Yc (I_ hT hdT (JC.mp h3).1 ?_);have other:∀b,b≠T->(s.heap.update T (EY (·.setIfInBounds 3 Value.none))).get? b=s.heap.get? b:=λb hb=>PQ _ _ (bW hb);have noRecord:∀b o,s.heap.get? b=Ya o->(∀vs,o.data≠ .fields vs)->b≠T:=λb o hb hnf q=>by
   rw[q,hT]at hb;injection hb with hb;subst hb;exact hnf ts hdT
  refine wpAny_entryW hfr (f3.of_keeps λb o hb hnf=>⟨o,(other b (noRecord b o hb hnf)).trans hb,rfl⟩) hf ((other e (bW hTe)).trans he)
   (λb o hbo=>(other b λq=>by rw[q,hnT]at hbo;cases hbo).trans (f1 b o hbo)) f2 hd (JC.mp h1).1 h0 λh' hN=>?_
  obtain⟨x1,x2,x3,x4⟩:=hN;rw[hcls]at x3;exact hQ h' ⟨x1,f2,x2,x3⟩ λb o hb hnf=>x4 b o ((other b (noRecord b o hb hnf)).trans hb) hnf
theorem Tz(hfr:A.frames=Ya (env::outer))(hf:env.frame=Ya L)(f:oG B (env::outer) e C s.heap)(hQ:∀h' a0,Heap.HeldW B (env::outer) e (.ref C) a0 L h'->s.heap.UpToSlots h'->Q () {s with heap:=h'}):Yz M A (nP (.ref e) env) Q E s:=by
 obtain⟨a0,f|⟨f1,f2,f3,oe,vs,he,hc,hd,h0,h1⟩⟩:=f
 .exact ZpG hfr hf f λh' x y=>hQ h' a0 x y
 .unfold nP;simp only[hf];refine Yc (fO he hd h1 ?_);rw[if_neg (by decide)];refine wpAny_entryW hfr f3 hf he f1 f2 hd (JC.mp h1).1 h0 λh' hN=>?_;obtain⟨k1,k2,k3,k4⟩:=hN;rw[hc]at k3;exact hQ h' a0 ⟨k1,f2,k2,k3⟩ k4
theorem ZqP(hfr:A.frames=Ya (env::outer))(hf:env.frame=Ya L)(f:oG B (env::outer) e C s.heap)(hQ:∀h',oG B outer e C h'->s.heap.UpToSlots h'->Q () {s with heap:=h'}):Yz M A (Jg env (.ref e)) Q E s:=by
 obtain⟨a0,f|⟨f1,f2,f3,oe,vs,he,hc,hd,h0,h1⟩⟩:=f
 .unfold Jg;refine Yc (ZpG hfr hf f λh1 x y=>O9 x λh' z y'=>?_);obtain⟨k1,k2,⟨_,_,k3⟩,k4⟩:=z;exact hQ h' ⟨a0,.inl ⟨k1,k2,k3,_,k4⟩⟩ (y.trans y')
 .refine wpAny_leaving_firstW hfr f3 hf he f1 f2 hd h1 h0 λh' hL=>?_;obtain⟨k1,⟨_,_,k2⟩,k3,k4⟩:=hL;rw[hc]at k3;exact hQ h' ⟨a0,.inl ⟨k1,f2,k2,_,k3⟩⟩ k4
end
structure vQ(B:au)(fs ex:List Ym)(H₀:Hp)(h₀:au)(H:Hp)(e:Ym):Prop where
 uV:∀b,H b≠Yh->b≠e->∃o,B.get? b=Ya o
 old:∀b o,h₀.get? b=Ya o->H₀ b=Yh->b∉fs->b∉ex->B.get? b=Ya o
 there:∀b o,h₀.get? b=Ya o->b∉fs->b∉ex->∃o',B.get? b=Ya o'
section
variable {B h h' h₀:au} {fs ex:List Ym} {H H₀:Hp} {e C:Ym} {P:Y5} {w:aK}
theorem vQ.hok(c:vQ B fs ex H₀ h₀ H e)(ok:dz P w H h)(he:H e=Ya (pO e C))(s1:B.StaysIn h)(s2:B.StaysIn h')(x:vz e C h'):dz P w H h':=λb u q=>by
 by_cases hb:b=e
 .subst hb;rw[he]at q;cases q;exact ZpM x
 .refine(ok b u q).stay (λd v hd z=>?_) (λ_ z=>z) λ_ _ z=>z;have hd':H d≠Yh/\d≠e:=by
   rcases hd with rfl|hd
   .exact⟨by rw[q];simp,hb⟩
   .exact⟨by rw[hd];simp,by rintro rfl;rw[he]at hd;cases hd⟩
  obtain⟨o,ho⟩:=c.uV d hd'.1 hd'.2;have:=(s1 d o ho).symm.trans z;cases this;exact s2 d _ ho
theorem vQ.un(c:vQ B fs ex H₀ h₀ H e)(u:Un fs ex H₀ H h₀ h)(s2:B.StaysIn h')(sl:h.UpToSlots h')(nf:∀b∈fs,H₀ b=Yh/\∀o,h₀.get? b=Ya o->∀vs,o.data≠ .fields vs):Un fs ex H₀ H h₀ h' where
 keep:=λb o q n hb hx=>s2 b o (c.old b o q n hb hx)
 slot:=λb o q n hb hx=>by obtain⟨s,e1⟩:=u.slot b o q n hb hx;obtain⟨s',e2⟩:=sl b _ e1 ((nf b hb).2 o q);exact⟨s',e2⟩
 free:=u.free
 there:=λb o q hx=>by
  by_cases hb:b∈fs
  .obtain⟨s,e1⟩:=u.slot b o q (nf b hb).1 hb hx;obtain⟨s',e2⟩:=sl b _ e1 ((nf b hb).2 o q);exact⟨_,e2⟩
  .exact let⟨o',z⟩:=c.there b o q hb hx;⟨o',s2 b o' z⟩
 tups:=u.tups
 j7:=u.j7
 lG:=u.lG
end
noncomputable def m_(P:Y5)(w:aK):pK:=λouter H s E ev s'=>∃e C H' B,ev= .ref e/\s'.os=s.os/\qp s'.gens/\Un (frs outer) [] H H' s.heap s'.heap/\dz P w H' s'.heap/\H' e=Ya (pO e C)/\
 oG B outer e C s'.heap/\vQ B (frs outer) [] H s.heap H' e/\E (.ref C) (Ya e) H'
def TF(X:Cx)(e C:Ym)(H':Hp)(s':Yg):Prop:=H' e=Ya (pO e C)/\∃B,oG B X.stack e C s'.heap/\vQ B X.fs X.ex X.H₀ X.s₀.heap H' e/\∀p∈X.pn,B.get? p.1=Ya p.2
def XW(X:Cx)(σ:St)(e C:Ym)(H':Hp):Prop:=∀pins s',Inv X pins σ H' s'->TF X e C H' s'->X.xe (.ref e) s'
noncomputable def EX(X:Cx)(σ:St):XK:=λcv oe H'=>∀e C,cv= .ref C->oe=Ya e->XW X σ e C H'
section
variable {X:Cx} {pins:List (Ym×aD)} {σ:St} {H:Hp} {s s':Yg}
theorem Bq(I:Inv X pins σ H s){b:Ym}{o:aD}(q:X.s₀.heap.get? b=Ya o)(hb:b∉X.fs):b∉frs X.stack:=λz=>by
 rcases Y6.mp (I.uc b z)with e|e
 .exact absurd (Yn (Yu q) I.ok.above) (by rw[e];exact rZ _)
 .exact hb e
theorem Zo7(I:Inv X pins σ H s):∀b∈X.fs,X.H₀ b=Yh/\∀o,X.s₀.heap.get? b=Ya o->∀vs,o.data≠ .fields vs:=λb hb=>⟨I.ok.pI b hb,λo q=>by obtain⟨_,o',ho,hd⟩:=I.ok.jJ.mem hb;rw[ho]at q;cases q;exact hd⟩
theorem ZsP(I:Inv X pins σ H s){E:XK}{ev:Yd}(h:m_ X.prog X.w X.stack H s E ev s'):∃e C H',ev= .ref e/\Inv X pins σ H' s'/\TF X e C H' s'/\E (.ref C) (Ya e) H':=by
 obtain⟨e,C,H',B,rfl,os,bare,un,hok,he,fl,cv,hE⟩:=h;refine⟨e,C,H',rfl,I.call' os un hok bare (λb z=>nomatch z),⟨he,B,fl,⟨cv.uV,λb o q n hb hx=>?_,λb o q hb hx=>?_⟩,λp hp=>?_⟩,hE⟩
 .exact cv.old b o (I.base.keep b o q n hb hx) (I.base.free b o q n hx) (Bq I q hb) (λz=>nomatch z)
 .obtain⟨o1,q1⟩:=I.base.there b o q hx;exact cv.there b o1 q1 (Bq I q hb) (λz=>nomatch z)
 .obtain⟨e,n,ne,nf,_⟩:=I.pin p (zJ _ hp);exact cv.old p.1 p.2 e n (λz=>(Y6.mp (I.uc p.1 z)).elim ne nf) (λz=>nomatch z)
theorem Zrd(I:Inv X pins σ H s){h':au}{e:Ym}{vs:List Yd}(m:Heap.MadeExcOf s.heap h' e (.ref C) vs):
  H e=Yh/\Inv X pins σ (upd H e (pO e C)) {s with heap:=h'}/\TF X e C (upd H e (pO e C)) {s with heap:=h'}:=by
 have hn:H e=Yh:=by
  cases q:H e with
  |none=>rfl|some u=>obtain⟨o,ho⟩:=Q8 (I.hok e u q);rw[m.new]at ho;cases ho
 obtain⟨t,ht,_,_⟩:=m.there;have xo:vz e C h':=⟨_,_,ht,rfl,rfl⟩;have ne:∀b o,s.heap.get? b=Ya o->b≠e:=λb o q z=>by subst z;rw[m.new]at q;cases q
 have un:Un X.fs [] H (upd H e (pO e C)) s.heap h':=
  ⟨λb u q _ _ _=>m.keeps b u q,
   λb u q _ _ _=>⟨u.slots,m.keeps b u q⟩,
   λb u q n _=>by rw[cW (ne b u q)];exact n,
   λb u q _=>⟨u,m.keeps b u q⟩,
   λb xs q=>by rw[cW (qx q hn)];exact q,
   λb u xs q=>by rw[cW (qx q hn)];exact q,
   λb ps q=>⟨#[],by rw[cW (qx q hn),q];simp⟩⟩
 have hok:dz X.prog X.w (upd H e (pO e C)) h':=λb u q=>by
  by_cases hb:b=e
  .subst hb;rw[mO]at q;cases q;exact ZpM xo
  .rw[cW hb]at q;exact(I.hok b u q).stay (λc v _ z=>m.keeps c v z) (λc z=>by rw[cW (qx z hn)];exact z) λc xs z=>by rw[cW (qx z hn)];exact z
 refine⟨hn,I.un (t':=s.toks) un hok,mO,mF s.heap (frs X.stack),⟨.ref t,.inr ⟨λb o q=>m.keeps b o (Iv _ q),?_,?_,_,_,ht,rfl,rfl,rfl,rfl⟩⟩,⟨λb hb hne=>?_,λb o q n hb hx=>?_,λb o q hb hx=>?_⟩,λp hp=>?_⟩
 .cases q:(mF s.heap (frs X.stack)).get? e with
  |none=>rfl|some o=>have:=Iv _ q;rw[m.new]at this;cases this
 .exact(PySem.W.funFrames_hide I.stack λenv he a ha=>w6.mpr ⟨env,he,ha⟩).of_keeps λb o hb _=>⟨o,m.keeps b o hb,rfl⟩
 .rw[cW hne]at hb;obtain⟨u,q⟩:=Option.ne_none_iff_exists'.mp hb;obtain⟨o,ho⟩:=Q8 (I.hok b u q);exact⟨o,zm _ ho λz=>hb (I.NP b z)⟩
 .exact zm _ (I.base.keep b o q n hb hx) (Bq I q hb)
 .obtain⟨o1,q1⟩:=I.base.there b o q hx;exact⟨o1,zm _ q1 (Bq I q hb)⟩
 .obtain⟨e,n,ne,nf,_⟩:=I.pin p (zJ _ hp);exact zm _ e λz=>(Y6.mp (I.uc p.1 z)).elim ne nf
end
def fj(K:Yb)(H:Hp)(ι:List Ym)(Q:VK)(E:XK)(r:R3 D):Prop:=match r with
 | .ok d M'=>∀v H' ι',Ext K H ι H' ι'->ao K H' ι' M'->Rep K H' ι' d v->Q v H'|.exc x M'=>∀e C H' ι',Ext K H ι H' ι'->ao K H' ι' M'->Rep K H' ι' x.arg (.ref e)->ClsAt K x.cls C->E (.ref C) (Ya e) H'|.bad=>False
theorem fj.up{K:Yb}{H1:Hp}{ι1:List Ym}{Q:VK}{E:XK}{r:R3 D}(e:Ext K H ι H1 ι1)(h:fj K H ι Q E r):fj K H1 ι1 Q E r:=by
 cases r with
 |ok d M=>exactλv H' ι' e' S r=>h v H' ι' (e.trans e') S r|exc x M=>exactλa C H' ι' e' S r=>h a C H' ι' (e.trans e') S r|bad=>exact h
theorem Zy.x{K:Yb}{H:Hp}{ι:List Ym}{Q:VK}{E:XK}{r:R3 D}(h:Zy K H ι Q r):fj K H ι Q E r:=by
 cases r with
 |ok d M=>exact h|exc x M=>exact h.elim|bad=>exact h
noncomputable def GF(K:Yb)(n:Nat)(F:F3):Sp:=λvs H Q E=>∃ι M ds,ao K H ι M/\Zv K H ι ds vs/\ds.length=n/\fj K H ι Q E (F ds M)
def Zxz(X:Cx)(f:E3):TE:=λσ H Q=>∃ι M env,ao X.K H ι M/\aY X.K H ι env σ/\fj X.K H ι Q (EX X σ) (f env M)
def jZ(X:Cx)(any:Bool)(σ:St)(H:Hp)(ι:List Ym)(E:Ends)(r:O3):Prop:=match r with
 | .nx env' M'=>∀σ' H' ι',Ext X.K H ι H' ι'->ao X.K H' ι' M'->aY X.K H' ι' env' σ'->E.nx σ' H'|.bk env' M'=>∀σ' H' ι',Ext X.K H ι H' ι'->ao X.K H' ι' M'->aY X.K H' ι' env' σ'->E.bk σ' H'|.ct env' M'=>∀σ' H' ι',Ext X.K H ι H' ι'->ao X.K H' ι' M'->aY X.K H' ι' env' σ'->E.ct σ' H'|.rt d M'=>∀v H' ι',Ext X.K H ι H' ι'->ao X.K H' ι' M'->Rep X.K H' ι' d v->E.rt v H'
 | .exc x M'=>∀σ' e C H' ι',(any=false->σ'=σ)->Ext X.K H ι H' ι'->ao X.K H' ι' M'->Rep X.K H' ι' x.arg (.ref e)->ClsAt X.K x.cls C->XW X σ' e C H'|.bad=>False
def Zvy(X:Cx)(any:Bool)(f:S3):TS:=λE σ H=>∃ι M env,ao X.K H ι M/\aY X.K H ι env σ/\jZ X any σ H ι E (f env M)
def j4(X:Cx)(e:Expr)(f:E3):Prop:=PE X e (Zxz X f)
def oH(X:Cx)(any:Bool)(st:Yc6)(f:S3):Prop:=PS X st (Zvy X any f)
def jC(X:Cx)(any:Bool)(st:List Yc6)(f:S3):Prop:=ji X st (Zvy X any f)
variable{σ:St}
theorem jZ.up{any:Bool}{σ1:St}{H1:Hp}{ι1:List Ym}{Q:Ends}{r:O3}(e:Ext X.K H ι H1 ι1)(hs:any=false->σ1=σ)(h:jZ X any σ H ι Q r):jZ X any σ1 H1 ι1 Q r:=by
 cases r with
 |nx d M=>exactλv H' ι' e' S r=>h v H' ι' (e.trans e') S r|bk d M=>exactλv H' ι' e' S r=>h v H' ι' (e.trans e') S r|ct d M=>exactλv H' ι' e' S r=>h v H' ι' (e.trans e') S r|rt d M=>exactλv H' ι' e' S r=>h v H' ι' (e.trans e') S r
 |exc x M=>exactλσ' a C H' ι' z e' S r=>h σ' a C H' ι' (λq=>(z q).trans (hs q)) (e.trans e') S r|bad=>exact h
theorem TJ{f:S3}{any:Bool}{env:Zo}{M:Store}{E:Ends}(h:jZ X any σ H ι E (gB f env M)):jA X.K H ι E (f env M):=by
 unfold gB at h;cases q:f env M with
 |exc x M1=>rw[q]at h;exact h.elim|bad=>rw[q]at h;exact h.elim|nx e M1=>rw[q]at h;exact h|rt e M1=>rw[q]at h;exact h
 |bk e M1=>rw[q]at h;exact h|ct e M1=>rw[q]at h;exact h
section
variable {X:Cx} {any:Bool} {st:Yc6} {sts:List Yc6} {e c1:Expr} {f:E3} {u w:S3} {pos:aM}
theorem tR(h:CS X.eO st u):oH X any st (gB u):=λpins s σ H D I z=>by obtain⟨ι,M,env,S,E,hf⟩:=z;exact eE (h pins s σ H D (I.wish _) ⟨ι,M,env,S,E,TJ (X:=X) hf⟩) (λ_ _ q=>q.jG) λ_ _ z=>dw z
theorem GJ(h:lz X.eO sts u):jC X any sts (gB u):=λpins s σ H D I z=>by obtain⟨ι,M,env,S,E,hf⟩:=z;exact eE (h pins s σ H D (I.wish _) ⟨ι,M,env,S,E,TJ (X:=X) hf⟩) (λ_ _ q=>q.jG) λ_ _ z=>dw z
theorem dG(h:oH X any st u):jC X any [st] u:=ZmS h
theorem gW(h1:oH X true st u)(h2:jC X true sts w):jC X true (st::sts) (aq u w):=(Zku h1 h2).imp λD σ H ak=>by
 obtain⟨ι,M,env,S,E,h⟩:=ak;refine⟨ι,M,env,S,E,?_⟩;unfold aq at h;cases q:u env M with
 |nx e M1=>rw[q]at h;exactλσ' H' ι' x S' E'=>⟨ι',M1,e,S',E',jZ.up x (λz=>nomatch z) h⟩|rt e M1=>rw[q]at h;exact h|bk e M1=>rw[q]at h;exact h|ct e M1=>rw[q]at h;exact h
 |exc x M1=>rw[q]at h;exact h|bad=>rw[q]at h;exact h
theorem pR{x y:List Yc6}(hc:CT X.eO c1 f)(ha:jC X any x u)(hb:jC X any y w):oH X any (.If c1 x y pos) (aV (aP f) u w):=(Q0 (PT.eO hc) ha hb).imp λD σ H ak=>by
 obtain⟨ι,M,env,S,E,h⟩:=ak;refine⟨ι,M,env,S,E,?_⟩;unfold aV aP at h;cases q:f env M with
 | ok d M1=>
  rw[q]at h;cases d with
  |bl k=>
   intro H1 ι1 x1 S1;cases k with
   |true=>rw[if_pos rfl];exact⟨ι1,M1,env,S1,E.mono x1,jZ.up x1 (λ_=>rfl) h⟩|false=>rw[if_neg (by decide)];exact⟨ι1,M1,env,S1,E.mono x1,jZ.up x1 (λ_=>rfl) h⟩
  |_=>exact h.elim
 |exc x M1=>rw[q]at h;exact h.elim|bad=>rw[q]at h;exact h.elim
theorem gH(h:j4 X e f)(hs:nO e Yh pos.line X.env=pure false:=by rfl):oH X any (.Expr e pos) (Zw f):=(Zna h hs).imp λD σ H ak=>by
 obtain⟨ι,M,env,S,E,h⟩:=ak;refine⟨ι,M,env,S,E,?_⟩;unfold Zw at h;cases q:f env M with
 |ok d M1=>rw[q]at h;exactλv H1 ι1 x1 S1 r1=>h σ H1 ι1 x1 S1 (E.mono x1)|exc x M1=>rw[q]at h;exactλa C H' ι' x1 S1 r1 c1 a' C' e1 e2=>by cases e1;cases e2;exact h σ a C H' ι' (λ_=>rfl) x1 S1 r1 c1|bad=>rw[q]at h;exact h.elim
theorem GK(i:Nat){x:aj}{pos':aM}(hN:X.N.Nodup)(he:j4 X e f)(hi:X.N[i]?=Ya x:=by rfl)(hx:Loc X.env.scope x:=by first|exact Or.inl rfl|exact Or.inr rfl)(hs:nO e (Ya (.Name x pos')) pos.line X.env=pure false:=by rfl)(hf:X.fn x=true\/X.env.scope.names.lookup x=Ya .local:=by first|exact .inl rfl|exact .inr rfl):oH X any (.Assign [.Name x pos'] e pos) (aF i f):=(Zqw hN hi hx he hs hf).imp λD σ H ak=>by
 obtain⟨ι,M,env,S,E,h⟩:=ak;refine⟨ι,M,env,S,E,?_⟩;unfold aF at h;cases q:f env M with
 |ok d M1=>rw[q]at h;exactλv H1 ι1 x1 S1 r1=>h _ H1 ι1 x1 S1 ((E.mono x1).set i r1)|exc x M1=>rw[q]at h;exactλa C H' ι' x1 S1 r1 c1 a' C' e1 e2=>by cases e1;cases e2;exact h σ a C H' ι' (λ_=>rfl) x1 S1 r1 c1|bad=>rw[q]at h;exact h.elim
end
variable{N:List aj}
section
variable {P:Y5} {w:aK} {K:Yb} {mg:aj->Option Yd} {base:au}
theorem ZqJ{qual:aj}{scope:Scope}{f:Ym}{cd:Yd}{A:bj}{outer:List cQ}{s:Yg}{E:XK}{e:Ym}{H':Hp}(hE:E (.ref C) (Ya e) H'):
  XW (lU (m_ P w) P w K mg base N qual scope f cd A outer s H E) σ e C H':=λpins s' I x=>by
 obtain⟨he,B,fl,cv,_⟩:=x;show Yz _ _ (Jg _ (.ref e)) _ _ s';refine ZqP I.ok.frames rfl fl λh' Lf sl=>?_;exact⟨e,C,H',B,rfl,I.os,I.bare,cv.un I.base Lf.stays sl (Zo7 I),cv.hok I.hok he fl.stays Lf.stays Lf.GD,he,Lf,cv,hE⟩
theorem ZkI{H':Hp}{ι':List Ym}{M M':Store}{Q:VK}{E:XK}{d:D}{v:V}(S:ao K H ι M)(x:Ext K H ι H' ι')(S':ao K H' ι' M')(r:Rep K H' ι' d v)(h:fj K H ι Q E (tidy M d M')):Q v H':=Sd S x S' r (by unfold tidy at h ⊢;split at h<;>(rename_i c;first|rw[if_pos c]|rw[if_neg c])<;>exact h)
theorem TQ{x qual:aj}{st:Yc6}{f:Ym}{k:Nat}{body:S3}(F:n_ K x qual st f fd)(S:cX N ps (Zj st))(hb:∀(cdv:Yd) (A:bj) (outer:List cQ) (s:Yg) (H:Hp) (E:XK),b_ k (A.deeper (jN qual (Zj st) s.heap.objs.size f cdv))->jC (lU (m_ P w) P w K mg base N qual (Zj st) f cdv A outer s H E) true (bJ st) body):
  eQ P w K mg base (m_ P w) (k+1) f fd ps (GF K ps.length (bh ps.length N.length body)):=by
 obtain⟨oc,od,dV,kV,doc,pm,an,cdv,ct,osl,rfl,lk,hcd⟩:=F.ex;refine Zsj lk hcd S (λvs H Q E ⟨ι,M,ds,_,r,l,_⟩=>by rw[r.length,l]) λA outer s H vs Q E hr ak=>?_;obtain⟨ι,M,ds,SR,r,l,h⟩:=ak;refine⟨_,hb cdv A outer s H E hr,ι,M,ds.map Ya++Ye (N.length-ps.length) Yh,SR,?_,?_⟩
 .have e:L2.start N vs=vs.map Ya++Ye (N.length-ps.length) Yh:=by unfold L2.start;rw[r.length,l]
  rw[e];exact aY.start r _
 .unfold bh at h;rw[if_pos l]at h;cases q:body (ds.map Ya++Ye (N.length-ps.length) Yh) M with
  |nx env' M'=>rw[q]at h;exactλσ' H' ι' x S' E'=>ZkI SR x S' Rep.non h|rt d M'=>rw[q]at h;exactλv H' ι' x S' r'=>ZkI SR x S' r' h|bk _ _=>rw[q]at h;exact h.elim|ct _ _=>rw[q]at h;exact h.elim
  |exc _ _=>rw[q]at h;exactλσ' a C H' ι' _ x S' r' c'=>ZqJ (h a C H' ι' x S' r' c')|bad=>rw[q]at h;exact h.elim
end
section
variable {P:Y5} {w:aK} {K:Yb} {mg:aj->Option Yd} {base:au}
theorem Zm6{k n:Nat}{f:Ym}(G:eQ P w K mg base (m_ P w) k f fd ps (GF K n F)):eQ P w K mg base jQ k f fd ps (qM K n F):=
 ⟨λvs H Q E z=>let⟨ι,M,ds,S,r,l,h⟩:=z;G.len vs H Q E0 ⟨ι,M,ds,S,r,l,h.x⟩,λA outer s H args us vs Q E hr he hb hv z=>let⟨ι,M,ds,S,r,l,h⟩:=z;wU (G.run A outer s H args us vs Q E0 hr he hb hv ⟨ι,M,ds,S,r,l,h.x⟩) λr s' z=>by
  cases r with
  |error e=>obtain⟨_,_,_,_,_,_,_,_,_,_,_,_,z⟩:=z;exact z.elim|ok fl=>cases fl<;>exact z⟩
def nj(P:Y5)(w:aK)(K:Yb)(mg:aj->Option Yd)(base:au)(k:Nat)(x:aj)(ps:List aj)(F:F3):Prop:=(∀ds M,ds.length≠ps.length->F ds M= .bad)/\∃f fd,mg x=Ya (.ref f)/\mH K (.ref f)=true/\Binds K fd ps []/\eQ P w K mg base (m_ P w) k f fd ps (GF K ps.length F)
def dj(P:Y5)(w:aK)(K:Yb)(mg:aj->Option Yd)(base:au)(k:Nat)(C:Ym)(m:aj)(ps:List aj)(F:F3):Prop:=(∀ds M,ds.length≠ps.length->F ds M= .bad)/\∃f fd,Meth K C m f/\Binds K fd ps []/\eQ P w K mg base (m_ P w) k f fd ps (GF K ps.length F)
theorem nj.fn{k:Nat}{x:aj}(h:nj P w K mg base k x ps F):bx P w K mg base k x ps F:=let⟨n,f,fd,a,b,c,d⟩:=h;⟨n,f,fd,a,b,c,Zm6 d⟩
theorem dj.yg{k:Nat}{x:aj}(h:dj P w K mg base k C x ps F):Zxw P w K mg base k C x ps F:=let⟨n,f,fd,a,b,d⟩:=h;⟨n,f,fd,a,b,Zm6 d⟩
theorem nj.of{x:aj}{st:Yc6}{k:Nat}{body:S3}(d:di K mg x st ps)(S:cX N ps (Zj st))(hb:∀(f:Ym) (cdv:Yd) (A:bj) (outer:List cQ) (s:Yg) (H:Hp) (E:XK),b_ k (A.deeper (jN x (Zj st) s.heap.objs.size f cdv))->jC (lU (m_ P w) P w K mg base N x (Zj st) f cdv A outer s H E) true (bJ st) body):
  nj P w K mg base (k+1) x ps (bh ps.length N.length body):=by
 obtain⟨f,fd,F,m,bi⟩:=d;exact⟨λds M h=>if_neg h,f,fd,m,F.kp,bi,TQ F S (hb f)⟩
theorem dj.of{m qual:aj}{st:Yc6}{k:Nat}{body:S3}(d:jY K C m qual st ps)(S:cX N ps (Zj st))(hb:∀(f:Ym) (cdv:Yd) (A:bj) (outer:List cQ) (s:Yg) (H:Hp) (E:XK),b_ k (A.deeper (jN qual (Zj st) s.heap.objs.size f cdv))->jC (lU (m_ P w) P w K mg base N qual (Zj st) f cdv A outer s H E) true (bJ st) body):
  dj P w K mg base (k+1) C m ps (bh ps.length N.length body):=by
 obtain⟨f,fd,F,mt,bi⟩:=d;exact⟨λds M h=>if_neg h,f,fd,mt,bi,TQ F S (hb f)⟩
end
section
variable {X:Cx} {o e:Expr} {es:List Expr} {f:E3} {gl:bU} {c m:List Nat} {C:Ym} {fn x:aj} {pos pos' apos p:aM} {k:Nat} {ps:List aj} {F:F3}
theorem Zst{fa:Ym}{sp:Sp}{pins:List (Ym×aD)}{s:Yg}{Q:VK}{us:List Yd}{vs:List V}(G:eQ X.prog X.w X.K X.mg X.base (m_ X.prog X.w) k fa fd ps sp)(hr:b_ k X.A)(hb:Binds X.K fd ps [])(I:Inv X pins σ H s)(r:Vals vs us)(h:sp vs H Q (EX X σ)):Yz (Y4 X.prog X.w) X.A (call (.ref fa) us) (EP X pins σ Q) X.xe s:=by
 have hl:(us++[]).length=ps.length:=by rw[qd,←r.length];exact G.len _ _ _ _ h
 have hb':=hb s us I.cL hl;rw[qd]at hb';refine Ec (wU (G.run X.A X.stack s H ⟨us,[]⟩ us vs Q (EX X σ) hr I.env0 hb' r h) λr s' hq=>?_);cases r with
 |error e=>obtain⟨e,C,H',rfl,I',x,hE⟩:=ZsP I hq;exact hE e C rfl rfl pins s' I' x|ok fl=>
  cases fl with
  |ret u=>exact I.after hq|next=>exact dw hq|brk=>exact dw hq|cont=>exact dw hq
theorem GP{es:List Expr}{pins:List (Ym×aD)}{s:Yg}{M M1:Store}{env:Zo}{ds:List D}{R:List Yd->Yg->Prop}(ha:CA X.eO es gl)(I:Inv X pins σ H s)(S:ao X.K H ι M)(E:aY X.K H ι env σ)(q:gl env M= .ok ds M1)(h:∀us s1 vs H1 ι1,Inv X pins σ H1 s1->Vals vs us->Ext X.K H ι H1 ι1->ao X.K H1 ι1 M1->Zv X.K H1 ι1 ds vs->R us s1):Yz (Y4 X.prog X.w) X.A (spliced (dm pos (Yq es X.env))) R X.xe s:=by
 refine eE (ha pos pins s σ H (λvs H1=>∃ι1,Ext X.K H ι H1 ι1/\ao X.K H1 ι1 M1/\Zv X.K H1 ι1 ds vs) (I.wish _) ⟨ι,M,env,S,E,?_⟩) (λus s1 z=>?_) λ_ _ z=>dw z
 .rw[q];exactλvs H1 ι1 x1 S1 r1=>⟨ι1,x1,S1,r1⟩
 .obtain⟨vs,H1,I1,r,ι1,x1,S1,r1⟩:=z;exact h us s1 vs H1 ι1 I1.jG r x1 S1 r1
theorem GQ(G:nj X.prog X.w X.K X.mg X.base k x ps F)(hr:b_ k X.A)(ha:CA X.eO (e::es) gl)(hg:Gl X x:=by rfl)(hdb:(x==("__debug__":aj))=false:=by decide)(he:Yq (e::es) X.env=(false,aG e X.env)::Yq es X.env:=by rfl)(hpl:(dm pos (Yq es X.env)).any (·.1)=false:=by rfl):j4 X (.Call (.Name x p) (e::es) [] pos) (Zu F (aJ gl)):=by
 obtain⟨hn,fa,fd,hm,kp,bi,ok⟩:=G;intro pins s σ H Q I h;obtain⟨ι,M,env,S,E,h⟩:=h;refine wL (sO I hg hm ?_ hdb);unfold Zu aJ at h;cases q:gl env M with
 |exc _ _=>rw[q]at h;exact h.elim|bad=>rw[q]at h;exact h.elim|ok ds M1=>
  rw[q]at h;have h:fj X.K H ι Q (EX X σ) (F ds M1):=h;have hl:ds.length=ps.length:=by refine uO λz=>?_;rw[hn ds M1 z]at h;exact h.elim
  exact DQ (h₀:=X.base) I.ok.mod.pH kp (GP ha I S E q λus s1 vs H1 ι1 I1 r x1 S1 r1=>⟨I1.cL,Zst ok hr bi I1 r ⟨ι1,M1,ds,S1,r1,hl,h.up x1⟩⟩) he hpl
theorem fV{pl:kh Bool}(kc:vO X.K c C)(G:dj X.prog X.w X.K X.mg X.base k C fn ps F)(hr:b_ k X.A)(ho:C3 X.eO o f)(ha:CA X.eO (e::es) gl)(hf:fn=nm m:=by decide +kernel)(hst:Yq (e::es) X.env=(false,aG e X.env)::Yq es X.env:=by rfl)(hpl:(dm pos (Yq es X.env)).any (·.1)=false:=by rfl)(ht:aG (.Call (.Attribute o fn apos) (e::es) [] pos) X.env=(do
   let ov ←aG o X.env
   zu apos.atName
   let(f,first) ←zx [ov] (Pn ov fn pl)
   callWith pos f first (dm pos (Yq (e::es) X.env)) (pA pos (pq [] X.env))):=by rfl):j4 X (.Call (.Attribute o fn apos) (e::es) [] pos) (bG c m F (aP f) (aJ gl)):=by
 subst hf;obtain⟨hn,fa,fd,mt,bi,ok⟩:=G;intro pins s σ H Q I h;obtain⟨ι,M,env,S,E,h⟩:=h;refine PySem.W.methodCall_KW (pl:=pl) ?_ ht;unfold bG aP aJ at h;cases q:f env M with
 |exc _ _=>rw[q]at h;exact h.elim|bad=>rw[q]at h;exact h.elim|ok a M1=>
  rw[q]at h;refine eE (ho pins s σ H (λv H1=>∃ι1,Ext X.K H ι H1 ι1/\ao X.K H1 ι1 M1/\Rep X.K H1 ι1 a v) (I.wish _) ⟨ι,M,env,S,E,by rw[q];exactλv H1 ι1 x1 S1 r1=>⟨ι1,x1,S1,r1⟩⟩) (λu s1 z=>?_) λ_ _ z=>dw z;obtain⟨v,H1,I1,rv,ι1,x1,S1,r1⟩:=z;have I1:=I1.jG;simp only[R3.bind]at h;split at h
  .rename_i hi;obtain⟨n,fs,rfl,hm,hl⟩:=Zqq (ps:=ps) (F:=F) (n:=0) hi;obtain⟨pa,hp,rfl⟩:=r1.fK;obtain⟨dx,gs,ea,fr⟩:=Tw kc S1 hp hm;obtain rfl:u=Value.ref pa:=rv;refine ZlP I1 ea kc.cls mt ((fr.look (f:=m)).1 hl) ?_;cases q2:gl env M1 with
   |exc _ _=>rw[q2]at h;exact h.elim|bad=>rw[q2]at h;exact h.elim|ok ds M2=>
    rw[q2]at h;have h:fj X.K H ι Q (EX X σ) (F (.ref n::ds) M2):=h;have hl:(D.ref n::ds).length=ps.length:=by refine uO λz=>?_;rw[hn _ M2 z]at h;exact h.elim
    exact DQ (first:=[.ref pa]) (h₀:=X.base) I.ok.mod.pH mt.kp (GP ha I1 S1 (E.mono x1) q2 λus s2 vs H2 ι2 I2 r x2 S2 r2=>⟨I2.cL,Zst (us:=.ref pa::us) (vs:=.ref pa::vs) ok hr bi I2 (.cons rfl r) ⟨ι2,M2,.ref n::ds,S2,Zv.cons (Rep.ref (x2.pre _ _ hp)) r2,hl,h.up (x1.trans x2)⟩⟩) hst hpl
  .exact h.elim
end
noncomputable abbrev TV:List Yd:=[.type "ValueError",.type "Exception",.type "BaseException",.type "object"]
def TX(K:Yb)(c:List Nat)(C:Ym):Prop:=ClsAt K c C/\∃(na q:aj) (N:Ym) (bs bm:List Yd) (hdct:Bool) (sn:List aj) (sub:List Yd) (ab:Bool) (col:Option Bool) (dd:Option Ym) (k0 k1 k2 k3 k5:Option Yd),
 K.lookup C=Ya (Eb na q C N bs bm hdct sn sub ab col dd k0 k1 k2 k3 k5 "ValueError.__new__")/\(∀h:au,K.In h->∃mN,h.Ns N mN/\mN "__init__" =Yh)/\∀h:au,K.In h->OwnTail h TV bm
theorem Zjm{any:Bool}{x:aj}{np cpos:aM}{a:Expr}{as:List Expr}{gl:bU}(O:TX X.K c C)(hm:X.mg x=Ya (.ref C))(ha:CA X.eO (a::as) gl)(hc:X.calm=true:=by rfl)(hg:Gl X x:=by rfl)(hdb:(x==("__debug__":aj))=false:=by decide)(he:Yq (a::as) X.env=(false,aG a X.env)::Yq as X.env:=by rfl)(hpl:(dm cpos (Yq as X.env)).any (·.1)=false:=by rfl):oH X any (.Raise (Ya (.Call (.Name x np) (a::as) [] cpos)) Yh pos) (Ba c gl):=by
 obtain⟨at_,na,q,N,bs,bm,hdct,sn,sub,ab,col,dd,k0,k1,k2,k3,k5,lk,hN,hT⟩:=O;intro pins s σ H D I z;obtain⟨ι,M,env,S,E,h⟩:=z;unfold Ba at h;cases qg:gl env M with
 |exc _ _=>rw[qg]at h;exact h.elim|bad=>rw[qg]at h;exact h.elim|ok ds M1=>
  rw[qg]at h
  match ds,h,qg with
  |[],h,_=>exact h.elim|_::_::_,h,_=>exact h.elim|[d],h,qg=>
   obtain⟨mN,hns,hni⟩:=hN X.base I.ok.mod.pH;refine wpAny_Raise_call_subU (C:=C) (nm:=na) (q:=q) (N:=N) (bs:=bs) (bm:=bm) (hdct:=hdct) (sn:=sn) (sub:=sub) (ab:=ab) (col:=col) (dd:=dd) (k0:=k0) (k1:=k1) (k2:=k2) (k3:=k3) (k5:=k5)
    Yfu (bmB:=TV) (by decide) Yfu (mN:=mN) ((hT X.base I.ok.mod.pH).hasType (by decide)) (I.ok.hd hc) (by rw[he];show(false|| (dm cpos (Yq as X.env)).any (·.1))=false;rw[hpl];rfl) hni (sO I hg hm ⟨rfl,?_⟩ hdb)
   have key:=GP (pos:=cpos) (R:=λus s2=>us.length<=Y8/\s2.heap.get? C=Ya (Eb na q C N bs bm hdct sn sub ab col dd k0 k1 k2 k3 k5 "ValueError.__new__")/\s2.heap.Ns N mN/\OwnTail s2.heap TV bm/\∀h' e,Heap.MadeExcOf s2.heap h' e (.ref C) us->X.xe (.ref e) {s2 with heap:=h'}) ha I S E qg (λus s1 vs H1 ι1 I1 r x1 S1 r1=>by
    refine⟨?_,I1.cL _ _ lk,hns.keeps I1.bk,hT _ I1.cL,λh' e mk=>?_⟩
    .rw[←r.length,r1.length];exact(by decide:1<=Y8)
    .obtain⟨hn,I2,yh⟩:=Zrd I1 mk;exact h σ e C _ (ι1++[e]) (λ_=>rfl) (x1.trans (Loose.Du (.inl hn))) (S1.new hn (.inr ⟨C,mO,rfl,at_,rfl⟩)) (Rep.ref (by rw[←S1.len];simp)) at_ pins _ I2 yh)
   rw[he]at key ⊢;exact JG (eE key (λvs s₂ h₂=>⟨rfl,h₂⟩) λ_ _ y=>y)
noncomputable abbrev inX(X:Cx)(A':bj)(E':Yd->Yg->Prop):Cx:={X with A:=A',calm:=false,xe:=E'}
noncomputable abbrev GR(X:Cx)(vR:List (Ym×aD))(E':Yd->Yg->Prop):Cx:={X with pn:=vR,xe:=E'}
variable{oX:List (Ym×aD)}{E':Yd->Yg->Prop}
section
variable {X:Cx} {pins:List (Ym×aD)} {σ:St} {H:Hp} {s:Yg}
theorem Lg(I:Inv X pins σ H s)(A':bj)(E':Yd->Yg->Prop)(hf:A'.frames=X.A.frames):Inv (inX X A' E') pins σ H s:=
 let ok:=I.ok
 ⟨⟨ok.mod,ok.kind,ok.glob,ok.blt,ok.above,ok.inj,ok.has,ok.cab,(λz=>nomatch z),hf.trans ok.frames,ok.z_,ok.Aa,ok.bs,ok.mQ,ok.wF,ok.uf,ok.jJ,ok.pI⟩,I.os,I.bare,I.base,I.loc,I.cell,I.free,I.jH,I.pin,I.hok,I.len⟩
theorem Zkx{σ':St}{H':Hp}{s':Yg}{A':bj}(I:Inv X pins σ H s)(J:Inv (inX X A' E') oX σ' H' s'):Inv X oX σ' H' s':=⟨I.ok,J.os,J.bare,J.base,J.loc,J.cell,J.free,J.jH,J.pin,J.hok,J.len⟩
theorem Zni(I:Inv X pins σ H s)(E':Yd->Yg->Prop):Inv (GR X (X.pn++pins) E') [] σ H s:=
 let ok:=I.ok
 ⟨⟨ok.mod,ok.kind,ok.glob,ok.blt,ok.above,ok.inj,ok.has,ok.cab,ok.hd,ok.frames,ok.z_,ok.Aa,ok.bs,ok.mQ,ok.wF,ok.uf,ok.jJ,ok.pI⟩,I.os,I.bare,I.base,I.loc,I.cell,I.free,I.jH,λp hp=>I.pin p (by simpa using hp),I.hok,I.len⟩
theorem Br{σ':St}{H':Hp}{s':Yg}(I:Inv X pins σ H s)(J:Inv (GR X (X.pn++pins) E') oX σ' H' s'):Inv X pins σ' H' s':=⟨I.ok,J.os,J.bare,J.base,J.loc,J.cell,J.free,J.jH,λp hp=>J.pin p (zJ _ hp),J.hok,J.len⟩
theorem ZmQ{D:Ends}{f:Flow}{s':Yg}(I:Inv X pins σ H s)(h:SP (GR X (X.pn++pins) E') oX D f s'):SP X pins D f s':=by
 cases f with
 |next=>obtain⟨σ',H',J,q⟩:=h;exact⟨σ',H',Br I J,q⟩|brk=>obtain⟨σ',H',J,q⟩:=h;exact⟨σ',H',Br I J,q⟩|cont=>obtain⟨σ',H',J,q⟩:=h;exact⟨σ',H',Br I J,q⟩|ret u=>obtain⟨v,σ',H',J,r,q⟩:=h;exact⟨v,σ',H',Br I J,r,q⟩
theorem Bs{B h':au}{e:Ym}(I:Inv X pins σ H s)(he:H e=Ya (pO e C))(s1:B.StaysIn s.heap)(cv:vQ B X.fs X.ex X.H₀ X.s₀.heap H e)(hp:∀p∈X.pn++pins,B.get? p.1=Ya p.2)(s2:B.StaysIn h')(sl:s.heap.UpToSlots h')(xo:vz e C h'):Inv X pins σ H {s with heap:=h'}:=by
 have cellK:∀c v,s.heap.IsCell c v->h'.IsCell c v:=λc v z=>by
  obtain⟨o,ho,hd⟩:=z;obtain⟨s3,e3⟩:=sl c o ho λvs q=>by rw[hd]at q;cases q
  exact⟨_,e3,hd⟩
 refine⟨I.ok,I.os,I.bare,cv.un I.base s2 sl (Zo7 I),?_,λx c z=>?_,I.free,I.jH,λp hq=>⟨s2 _ _ (hp p hq),(I.pin p hq).2⟩,cv.hok I.hok he s1 s2 xo,I.len⟩
 .obtain⟨m,hn,hl⟩:=I.loc;refine⟨m,sl.ns hn,λi x v e1 e2 e3=>?_⟩;obtain⟨u,r,l⟩:=hl i x v e1 e2 e3;refine⟨u,r,?_⟩;rcases l with l|⟨k,c,e,z⟩
  .exact .inl l
  .exact .inr ⟨k,c,e,cellK _ _ z⟩
 .obtain⟨v,q⟩:=I.cell x c z;exact⟨v,cellK _ _ q⟩
theorem Zup{M:Model}{A:bj}{E:Yd->Yg->Prop}{Q:Unit->Yg->Prop}{j:Nat}{n:aj}(I:Inv X pins σ H s)(hN:X.N.Nodup)(hj:X.N[j]?=Ya n)(hl:X.env.scope.names.lookup n=Ya .local)(h:∀s',Inv X pins (σ.set j Yh) H s'->Q () s'):Yz M A (do bindName X.env n .none;XH X.env n pos) Q E s:=by
 have hl':X.env.kindOf n=Ya .local:=hl;have hp:(X.env.scope.kind== .class|| (X.env.scope.kind== .module&&X.env.locals !=X.env.globals))=false:=by rw[I.ok.kind];rfl
 obtain⟨m,hn,hv⟩:=id I.loc;refine Yc (wpAny_bindName (Xy hl' hn (λh₁ hn₁ hs₁=>?_) hp));unfold XH unbindName deleteName;refine D_ (Yc (wpAny_point (Yc ?_)));simp only[hp,hl'];rw[if_neg (by decide)];refine Yc (wpAny_nsDel_keeps hn₁ λh₂ v hn₂ hs₂=>?_);simp only[Xf,if_true,if_false,Es,Z4];refine Yk (wpAny_point (h _ ?_));have sb:=hs₁.trans hs₂;have ne:∀b o,X.s₀.heap.get? b=Ya o->b≠X.env.locals:=λb o q=>eF (Yn (Yu q) I.ok.above);have nt:∀b,H b≠Yh->b≠X.env.locals:=λb q z=>q (by rw[z];exact I.free);have cellK:∀x c,X.env.cells.lookup x=Ya c->∀v,s.heap.IsCell c v->h₂.IsCell c v:=λx c z v q=>by obtain⟨o,ho,hd⟩:=q;exact⟨o,(sb.2 c (I.uW x c z)).trans ho,hd⟩
 refine⟨I.ok,I.os,I.bare,⟨λb o q n hb hx=>?_,λb o q n hb hx=>?_,I.base.free,λb o q hx=>?_,I.base.tups,I.base.j7,I.base.lG⟩,⟨_,hn₂,λi x v' e1 e2 e3=>?_⟩,λx c z=>?_,I.free,I.jH,λp hp=>?_,λb u q=>?_,by rw[rW];exact I.len⟩
 .exact(sb.2 b (ne b o q)).trans (I.base.keep b o q n hb hx)
 .obtain⟨sl,z⟩:=I.base.slot b o q n hb hx;exact⟨sl,(sb.2 b (ne b o q)).trans z⟩
 .obtain⟨o',z⟩:=I.base.there b o q hx;exact⟨o',(sb.2 b (ne b o q)).trans z⟩
 .have hij:i≠j:=λz=>by
   subst z;rw[YM]at e2;cases q:σ[i]? with
   |none=>rw[q]at e2;simp at e2|some _=>rw[q]at e2;simp at e2
  rw[Yj (bW hij)]at e2;obtain⟨u,r,l⟩:=hv i x v' e1 e2 e3;have hxn:x≠n:=λz=>hij (QS hN e1 (by rw[z];exact hj));refine⟨u,r,?_⟩;rcases l with⟨k,l⟩|⟨k,c,e,z⟩
  .refine .inl ⟨k,?_⟩;show(if x=n then _ else _)=_;rw[if_neg hxn];show(if x=n then _ else _)=_;rw[if_neg hxn];exact l
  .exact .inr ⟨k,c,e,cellK x c e _ z⟩
 .obtain⟨v,q⟩:=I.cell x c z;exact⟨v,cellK x c z v q⟩
 .obtain⟨e,n,ne',r⟩:=I.pin p hp;exact⟨(sb.2 _ ne').trans e,n,ne',r⟩
 .refine(I.hok b u q).stay (λc v hc z=>(sb.2 c (nt c ?_)).trans z) (λ_ z=>z) λ_ _ z=>z;rcases hc with rfl|hc
  .rw[q];simp
  .rw[hc];simp
end
theorem aY.unset{K:Yb}{env:Zo}(r:aY K H ι env σ)(j:Nat):aY K H ι (env.set j Yh) (σ.set j Yh):=by
 refine⟨by simp[r.1],λi d h=>?_⟩;by_cases hij:i=j
 .subst hij;rw[YM]at h;cases q:env[i]? with
  |none=>rw[q]at h;simp at h|some _=>rw[q]at h;simp at h
 .rw[Yj (bW hij)]at h;obtain⟨w,q,z⟩:=r.2 i d h;exact⟨w,by rw[Yj (bW hij)];exact q,z⟩
theorem Zps{x n:aj}{np pos2:aM}{body suite:List Yc6}{b0:Yc6}{cs:List (List Nat)}(j:Nat){b h:S3}{CE:Ym}(hN:X.N.Nodup)(hm:X.mg x=Ya (.ref CE))(hsub:∀c C,cs.contains c=true->ClsAt X.K c C->wH X.K (.ref C) (.ref CE)=Ya true)(hb:∀vR E',jC (GR X vR E') false body b)(hs:∀A' E',lz (inX X A' E') (b0::suite) h)(hst:X.stack=X.env::X.outer:=by rfl)(hfr:X.env.frame=Ya X.env.locals:=by rfl)(hj:X.N[j]?=Ya n:=by rfl)(hl:X.env.scope.names.lookup n=Ya .local:=by rfl)(hg:Gl X x:=by rfl)(hdb:(x==("__debug__":aj))=false:=by decide):CS X (.Try body [.ExceptHandler (Ya (.Name x np)) (Ya n) (b0::suite) pos] [] [] pos2) (Bb cs j b h):=by
 intro pins s σ H D I z;obtain⟨ι,M,env,S,E,hf⟩:=z;refine YB (eE (hb (X.pn++pins) _ [] s σ H D (Zni I _) ⟨ι,M,env,S,E,?_⟩) (λf s1 q=>?_) (λ_ _ z=>z))
 rotate_left
 .have q:=ZmQ I q;cases f with
  |next=>obtain⟨σ',H',J,q⟩:=q;exact zp ⟨σ',H',J,q⟩|brk=>exact q|cont=>exact q|ret u=>exact q
 unfold Bb at hf;cases q:b env M with
 |nx e M1=>rw[q]at hf;exact hf|rt e M1=>rw[q]at hf;exact hf|bk e M1=>rw[q]at hf;exact hf|ct e M1=>rw[q]at hf;exact hf
 |bad=>rw[q]at hf;exact hf|exc x1 M1=>
  rw[q]at hf;dsimp only at hf;have hc:cs.contains x1.cls=true:=uO λz=>by rw[if_neg z]at hf;exact hf
  rw[if_pos hc]at hf;intro σ' e C H' ι' hσ xt S1 r1 c1 oX s' J yh;obtain rfl:=hσ rfl;obtain⟨he,B,fl,cv,hpn⟩:=yh;have I1:Inv X pins σ' H' s':=Br I J;have GX:oG B (X.env::X.outer) e C s'.heap:=by rw[←hst];exact fl
  have Dw:X.A.frames=Ya (X.env::X.outer):=by rw[←hst];exact I1.ok.frames
  show Yz (Y4 X.prog X.w) X.A (nP (.ref e) X.env) _ _ s';refine Tz Dw hfr GX λh₄ a0 held yj=>?_;refine O9 held λh₅ oZ GZ=>?_;have I5:Inv X pins σ' H' {s' with heap:=h₅}:=Bs I1 he fl.stays cv hpn oZ.1 (yj.trans GZ) (Bp oZ);have Fq:=Lg I5 (X.A.mark (Ya (.ref e))) (λ_ _=>False) rfl;refine XM (XC (sO Fq hg hm ?_ hdb)) (by intro q;cases q);have LT:Xu (Y4 X.prog X.w) h₅ (Eg (.ref e)) (.ref C):=by obtain⟨o,vs,a,b,_⟩:=Bp oZ;exact b▸(Ykh a).andThen .now
  refine Xq (K:=X.K) (cls:=.ref C) I5.cL LT (hsub _ _ hc c1) _ _ _ _ (λ_ _ q=>q) ?_;refine codeAny_handlers_suite_as ?_;refine lands_againW oZ λh₆ Dy G4=>?_;have I6:Inv X pins σ' H' {s' with heap:=h₆}:=Bs (s:={s' with heap:=h₅}) I5 he oZ.1 cv hpn Dy.1 G4 (Bp Dy);have TY:=Lg I6 (X.A.mark (Ya (.ref e))) (λ_ _=>False) rfl;refine QV (X:=inX X (X.A.mark (Ya (.ref e))) λ_ _=>False) (v:=.ref e) TY hN hj (.inl hl) rfl (λs7 I7=>?_) (.inr hl);refine eE (hs (X.A.mark (Ya (.ref e))) (λ_ _=>False) pins s7 (σ'.set j (Ya (.ref e))) H' {nx:=λσ2 H2=>D.nx (σ2.set j Yh) H2,rt:=λ_ _=>False} I7 ⟨ι',M1,env.set j (Ya x1.arg),S1,(E.mono xt).set j r1,?_⟩) (λf s8 q=>?_) (λ_ _ z=>dw z)
  .cases qh:h (env.set j (Ya x1.arg)) M1 with
   |nx e' M2=>rw[qh]at hf;exactλσ2 H2 ι2 x2 S2 E2=>hf _ H2 ι2 (xt.trans x2) S2 (E2.unset j)|rt _ _=>rw[qh]at hf;exact hf.elim|bk _ _=>rw[qh]at hf;exact hf.elim|ct _ _=>rw[qh]at hf;exact hf.elim
   |exc _ _=>rw[qh]at hf;exact hf.elim|bad=>rw[qh]at hf;exact hf.elim
  .cases f with
   |next=>obtain⟨σ2,H2,I8,q⟩:=q;exact Zup (Zkx I I8) hN hj hl λs9 I9=>⟨σ2.set j Yh,H2,I9,q⟩|brk=>obtain⟨_,_,_,q⟩:=q;exact q.elim|cont=>obtain⟨_,_,_,q⟩:=q;exact q.elim
   |ret u=>obtain⟨_,_,_,_,_,q⟩:=q;exact q.elim
end L3
namespace PySem.W
open PySem PySem.Spec PySem.Calls PyProof.Rows Builtin Builtin.ObjectAttr Builtin.Getset_descriptor
section
variable {prog:Y5} {w:aK} {K:Frag} {x D:Ym}
def wD(x D:Ym)(h:au):Prop:=∃o,h.get? x=Ya o/\o.cls= .ref D
theorem wD.ty{h:au}(p:wD x D h)(M:Model):Looks M h (Eg (.ref x)) (.ref D):=by obtain⟨o,a,b⟩:=p;exact b▸(Looks.ld a).andThen .now
theorem ZrY{M:Model}{h:au}{name:aj}{a g:Yd}(X:K.In h)(ha:findIn K (.ref D) name=Ya (Ya a))(hg:specialIn K a "__get__" =Ya (Ya g))(ht:takesIn K a=Ya true):Looks M h (find (.ref x) (.ref D) name) (.bind g a):=
 (looks_findIn (M:=M) X ha).andThen ((show Looks M h (getOf (Ya a)) (Ya g)from looks_specialIn X hg).andThen
  ((show Looks M h (dataDescriptor? (Ya a) (Ya g)) (Ya (g,a))from(looks_takesIn (M:=M) X ht).andThen .now).andThen (Looks.tag .now)))
theorem Ztc{A:bj}{R:p_->Yg->Prop}{s:Yg}{tp:Yd}(X:K.In s.heap)(p:wD x D s.heap)(hm:mroIn K D (.type "object")=Ya true)(hq:R (.ok (.ret (.ref D))) s):j9 (Y4 prog w) A (.call (.builtin "getset_descriptor.__get__") ⟨[.builtin "object.__class__",.ref x,tp],[]⟩) R s:=by
 obtain⟨hh,gg,dd,tt,oo⟩:=s;have L0:=p.ty (Y4 prog w);have L1:=looks_mroIn (M:=Y4 prog w) X hm;refine XJ KF.slot_gs.plain KF.entry_gs (KF.slot_gs.check _ _ _ _ _ _ _ _ KF.type_class (KF.args_gs _ _ _) ?_);unfold Builtin.«getset_descriptor.__get__» descrGet;rw[dga_obj];refine Yc (Yk ?_);unfold descrGetter descrCheckInstance descrNameAndClass isInstance;simp only[KF.owner_class]
 repeat lk
 refine⟨Code.quiet_builtin _ (by decide +kernel),O1 KF.entry_class ?_⟩;unfold Builtin.«object.__class__» shownTypeOf;repeat lk
 exact hq
theorem ZwE{A:bj}{R:p_->Yg->Prop}{s:Yg}{tk:gY}(ha:findIn K (.ref D) "__class__" =Ya (Ya (.builtin "object.__class__")))(hn:specialIn K (.builtin "object.__class__") "__get__" =Ya (Ya (.builtin "getset_descriptor.__get__")))(htk:takesIn K (.builtin "object.__class__")=Ya true)(hm:mroIn K D (.type "object")=Ya true)(hb:mroIn K D (.type "BaseException")=Ya true)(X:K.In s.heap)(p:wD x D s.heap)(hq:R (.ok (.ret (.ref D))) s):j9 (Y4 prog w) A (.call (.builtin "BaseException.__getattribute__") ⟨[.ref x,.str "__class__" tk],[]⟩) R s:=by
 obtain⟨hh,gg,dd,tt,oo⟩:=s;have L0:=p.ty (Y4 prog w);have L1:=looks_mroIn (M:=Y4 prog w) X hb;have L3:=ZrY (M:=Y4 prog w) (x:=x) X ha hn htk;have hk:builtinKind "BaseException.__getattribute__" =Ya .slot:=by decide +kernel
 have hs:splitId "BaseException.__getattribute__" =Ya ("BaseException","__getattribute__"):=by decide +kernel
 have hz:=F.args_bexc_ga (.ref x) (.str "__class__" tk);refine XJ F.excAttr_ValueError.ga.plain F.entry_bexc_ga ?_;simp only[checkBuiltinCall,hk,hs];refine Yc ?_;unfold isInstance
 repeat lk
 refine wpAny_run (h:=Yh) (Ztc X p hm ?_);exact Yk (Yk hq)
theorem Zpt{A:bj}{E:Yd->Yg->Prop}{s:Yg}{Q:Option Yd->Yg->Prop}(hg:findIn K (.ref D) "__getattribute__" =Ya (Ya (.builtin "BaseException.__getattribute__")))(hg2:findIn K (.ref D) "__getattr__" =Ya Yh)(ha:findIn K (.ref D) "__class__" =Ya (Ya (.builtin "object.__class__")))(hn:specialIn K (.builtin "object.__class__") "__get__" =Ya (Ya (.builtin "getset_descriptor.__get__")))(htk:takesIn K (.builtin "object.__class__")=Ya true)(hm:mroIn K D (.type "object")=Ya true)(hb:mroIn K D (.type "BaseException")=Ya true)(X:K.In s.heap)(p:wD x D s.heap)(hq:Q (Ya (.ref D)) {s with toks:=s.toks+1}):Yz (Y4 prog w) A (Je (.ref x) "__class__") Q E s:=by obtain⟨hh,gg,dd,tt,oo⟩:=s;have L0:=p.ty (Y4 prog w);have L1:=looks_findIn (M:=Y4 prog w) X hg;have L2:=looks_findIn (M:=Y4 prog w) X hg2;have f3:=F.excAttr_ValueError.ga.bind (.ref x);unfold Je getAttrBy? getAttrBy;refine Yc (wpAny_mkText (Yc (wR (mK (Yc (L0.at (Yc (L1.at ?_))))))));show Yz _ _ (YF _ _ _ _ _ _) _ _ _;unfold YF hookBefore callGetattribute;refine Yc (L2.at (Yc (wR (mK ?_))));show Yz _ _ (boundAndCalled _ _ _) _ _ _;unfold boundAndCalled;rw[f3];refine Yc (Yk ?_);refine Ec (ZwE ha hn htk hm hb X p ?_);exact handed_on rfl (Yk hq)
theorem Ab9(hg:findIn K (.ref D) "__getattribute__" =Ya (Ya (.builtin "BaseException.__getattribute__")))(hg2:findIn K (.ref D) "__getattr__" =Ya Yh)(hb:mroIn K D (.type "BaseException")=Ya true)(hc:(clsIn K D).isSome=true)(ha:findIn K (.ref D) "__class__" =Ya (Ya (.builtin "object.__class__")))(hn:specialIn K (.builtin "object.__class__") "__get__" =Ya (Ya (.builtin "getset_descriptor.__get__")))(htk:takesIn K (.builtin "object.__class__")=Ya true)(hm:mroIn K D (.type "object")=Ya true):
  KitX K (.ref x) (.ref D) (wD x D):=by
 obtain⟨cdD,hcD⟩:=Iu.mp hc;unfold clsIn at hcD;split at hcD
 .rename_i c' d' cd' sl' ho;refine⟨λM h _ p=>p.ty M,λM h X _=>?_,λh tp dd its n sl X htp=>?_,λX p k=>Zpt hg hg2 ha hn htk hm hb X p k⟩
  .intro A' Q' E' s' k q;unfold isType loadHead;exact Yc (wpAny_loadPart (k _ _ (X _ _ ho)) (Yk q))
  .refine Bool.eq_false_iff.mpr λq=>?_;have e:D=tp:=Value.ref.inj (beq_iff_eq.mp q);rw[←e]at htp;cases(X _ _ ho).symm.trans htp
 .cases hcD
theorem zf{t:Yd}{C:Ym}{cd:ClassData}{b:Bool}(cl:clsIn K C=Ya cd)(ty:typeIn K (.ref C)=Ya (.type "type"))(se:subIn K (.ref C) (.ref C)=Ya true)(sb:subIn K t (.ref C)=Ya b):kitOne K t (.ref C)=Ya b:=by
 unfold kitOne;by_cases q:(t== .ref C)=true
 .rw[if_pos q];rw[beq_iff_eq.mp q,se]at sb;exact sb
 .rw[if_neg q];show(if((clsIn K C).isSome&&typeIn K (.ref C)==Ya (.type "type"))=true then subIn K t (.ref C)else Yh)=Ya b;rw[cl,ty,if_pos (by rfl)];exact sb
theorem N7{t:Yd}{T:String}{b:Bool}(hm:kitMeta T=true)(ne:(t== .type T)=false)(sb:subIn K t (.type T)=Ya b):kitOne K t (.type T)=Ya b:=by unfold kitOne;rw[if_neg (by rw[ne];decide)];show(if kitMeta T=true then subIn K t (.type T)else Yh)=Ya b;rw[if_pos hm];exact sb
theorem Dz{t c:Yd}{r:List Yd}{b:Bool}(h:kitOne K t c=Ya false)(hr:kitAny K t r=Ya b):kitAny K t (c::r)=Ya b:=by unfold kitAny;rw[h];exact hr
theorem Im{t c:Yd}{r:List Yd}(h:kitOne K t c=Ya true):kitAny K t (c::r)=Ya true:=by unfold kitAny;rw[h]
theorem DG{t:Yd}:kitAny K t []=Ya false:=rfl
theorem Oc{C CE:Ym}{cd:ClassData}(cl:clsIn K CE=Ya cd)(ty:typeIn K (.ref CE)=Ya (.type "type"))(bs:subIn K (.ref CE) (.type "BaseException")=Ya true)(sb:subIn K (.ref C) (.ref CE)=Ya true):exmOne K (.ref C) (.ref CE)=Ya true:=by unfold exmOne;rw[bs,if_pos (by rfl)];show(if((clsIn K CE).isSome&&typeIn K (.ref CE)==Ya (.type "type"))=true then subIn K (.ref C) (.ref CE)else Yh)=Ya true;rw[cl,ty,if_pos (by rfl)];exact sb
end
end PySem.W
namespace L3
open PySem PySem.Spec PyProof.Rows L2
theorem Zhu:i_ "ValueError" =Ya (.type "ValueError"):=by decide +kernel
structure oJ(K:Yb)(C:Ym):Prop where
 ga:Y0 K (.ref C) "__getattribute__" =Ya (Ya (.builtin "BaseException.__getattribute__"))
 gh:Y0 K (.ref C) "__getattr__" =Ya Yh
 be:wI K C (.type "BaseException")=Ya true
 cl:(IV K C).isSome=true
 fa:Y0 K (.ref C) "__class__" =Ya (Ya (.builtin "object.__class__"))
 sp:Ol K (.builtin "object.__class__") "__get__" =Ya (Ya (.builtin "getset_descriptor.__get__"))
 tk:Oo K (.builtin "object.__class__")=Ya true
 mo:wI K C (.type "object")=Ya true
variable{K:Yb}
theorem oJ.kit{C x:Ym}(h:oJ K C):PySem.W.KitX K (.ref x) (.ref C) (PySem.W.wD x C):=PySem.W.Ab9 h.ga h.gh h.be h.cl h.fa h.sp h.tk h.mo
variable{pins:List (Ym×aD)}{ι:List Ym}{H:Hp}{s:Yg}{σ:St}{M:Store}
section
variable {X:Cx} {a:Expr} {es:List Expr} {f:E3} {p p1 p2 pos pt:aM} {x:aj} {C:Ym} {vs:List V} {yes no:List (List Nat)}
structure yo(K:Yb)(yes no:List (List Nat))(cs:List Yd):Prop where
 non:o_ K (.type "NoneType") cs=Ya false
 yes:∀c C,yes.contains c=true->ClsAt K c C->oJ K C/\o_ K (.ref C) cs=Ya true
 no:∀c C,no.contains c=true->ClsAt K c C->oJ K C/\o_ K (.ref C) cs=Ya false
theorem Zp8{d:D}{v:V}{u:Yd}{cs:List Yd}{Q:VK}(I:Inv X pins σ H s)(S:ao X.K H ι M)(r:Rep X.K H ι d v)(ru:RelV v u)(hk:yo X.K yes no cs)(q:Zy X.K H ι Q (lg yes no d M)):
  ∃(t:Yd) (Hc:au->Prop) (b:Bool),PySem.W.KitX X.K u t Hc/\Hc s.heap/\u≠ .builtin "__main__.__loader__#opaque" /\o_ X.K t cs=Ya b/\Q (.bl b) H:=by
 cases d with
 |non=>have:=r.oW;subst this;cases(show u=Value.none from ru);exact⟨_,_,false,Xm,True.intro,(λz=>nomatch z),hk.non,Zy.ok q S Rep.bl⟩|ref n=>
  rw[R7]at q;cases hn:M[n]? with
  |none=>rw[hn]at q;exact q.elim|some o=>
   rw[hn]at q;cases o with
   | ins c fs=>cases c with
    |nil=>exact q.elim|cons k c=>cases k with
     |succ _=>exact q.elim|zero=>
       obtain⟨a,ha,rfl⟩:=r.fK;cases(show u=Value.ref a from ru);rcases S.obj n _ a hn ha with⟨_,_,_,_,z,_⟩|⟨C,e,_,at_,_⟩
       .exact absurd rfl z.2
       .have at_:ClsAt X.K c C:=at_;obtain⟨⟨o,ws,h1,h2,_⟩,_⟩:=(show eN X.prog X.w H s.heap a (pO a C)from I.hok a _ e);have q:Zy X.K H ι Q (if yes.contains c then .ok (.bl true) M else if no.contains c then .ok (.bl false) M else .bad):=q;by_cases hy:yes.contains c=true
        .rw[if_pos hy]at q;obtain⟨k1,k2⟩:=hk.yes c C hy at_;exact⟨_,_,true,k1.kit,⟨o,h1,h2⟩,(λz=>nomatch z),k2,Zy.ok q S Rep.bl⟩
        .rw[if_neg hy]at q;by_cases hy:no.contains c=true
         .rw[if_pos hy]at q;obtain⟨k1,k2⟩:=hk.no c C hy at_;exact⟨_,_,false,k1.kit,⟨o,h1,h2⟩,(λz=>nomatch z),k2,Zy.ok q S Rep.bl⟩
         .rw[if_neg hy]at q;exact q.elim
   |_=>exact q.elim
 |_=>exact q.elim
theorem ZkY{c:Yd}{cv:V}(hm:X.mg "isinstance" =Yh)(hk:yo X.K yes no [c])(h:C3 X a f)(hv:RelV cv c)(hx:PE X (.Name x p1) (tC cv))(hc:∀u,RelV cv u->u=c)(hg:Gl X "isinstance":=by rfl)(hs:Yq (a::[.Name x p1]) X.env=(false,aG a X.env)::Yq [.Name x p1] X.env:=by rfl)(hs1:Yq (.Name x p1::[]) X.env=(false,aG (.Name x p1) X.env)::Yq [] X.env:=by rfl)(hpl:(dm pos (Yq [.Name x p1] X.env)).any (·.1)=false:=by rfl):C3 X (.Call (.Name "isinstance" p) [a,.Name x p1] [] pos) (e1 (lg yes no) f):=by
 have hcl:aZ X (.builtin "isinstance") (λxs H Q=>∃ι M d x,xs=[x,cv]/\ao X.K H ι M/\Rep X.K H ι d x/\Zy X.K H ι Q (lg yes no d M)):=by
  intro pins s σ H xs us Q I r q;obtain⟨ι,M,d,x,rfl,S,rd,q⟩:=q;obtain⟨u,w',rfl,ru,mU⟩:=vals2 r;obtain rfl:=hc _ mU;obtain⟨t,Hc,b,kx,hh,hl,ht,hq⟩:=Zp8 I S rd ru hk q;have h1:Oq X.K t w'=Ya b:=by
   unfold o_ at ht;split at ht
   .rename_i q;cases ht;exact q
   .rename_i q;rw[q];exact ht
   .cases ht
  exact mG kx I.cL hh h1 hl λtk=>⟨.bl b,H,I.tok _,rfl,hq⟩
 refine(Rc hcl hg hm ZfP (Ad h (Ad hx J8 hs1) hs) (by decide) (by decide) hs hpl).imp λσ H Q ak=>?_;obtain⟨ι,M,env,S,E,h⟩:=ak;obtain⟨d,M1,e1,h⟩:=Zy.bind h;refine⟨ι,M,env,S,E,?_⟩;rw[e1];intro v H1 ι1 x1 S1 r1;exact⟨ι1,M1,d,v,rfl,S1,r1,h.up x1⟩
theorem Zlm(hm:X.mg "isinstance" =Yh)(hx:X.mg x=Ya (.ref C))(hk:yo X.K yes no [.ref C])(h:C3 X a f)(hg1:Gl X x:=by rfl)(hd:(x==("__debug__":aj))=false:=by decide)(hg:Gl X "isinstance":=by rfl)(hs:Yq (a::[.Name x p1]) X.env=(false,aG a X.env)::Yq [.Name x p1] X.env:=by rfl)(hs1:Yq (.Name x p1::[]) X.env=(false,aG (.Name x p1) X.env)::Yq [] X.env:=by rfl)(hpl:(dm pos (Yq [.Name x p1] X.env)).any (·.1)=false:=by rfl):C3 X (.Call (.Name "isinstance" p) [a,.Name x p1] [] pos) (e1 (lg yes no) f):=ZkY (cv:=.ref C) hm hk h rfl (QW hg1 hx (v:=.ref C) rfl hd) (λu q=>q) hg hs hs1 hpl
theorem Zpj{T:String}(hm:X.mg "isinstance" =Yh)(hx:X.mg x=Yh)(hv:i_ x=Ya (.type T))(hk:yo X.K yes no [.type T])(h:C3 X a f)(hg1:Gl X x:=by rfl)(hn:x≠ "__name__":=by decide)(hd:(x==("__debug__":aj))=false:=by decide)(hg:Gl X "isinstance":=by rfl)(hs:Yq (a::[.Name x p1]) X.env=(false,aG a X.env)::Yq [.Name x p1] X.env:=by rfl)(hs1:Yq (.Name x p1::[]) X.env=(false,aG (.Name x p1) X.env)::Yq [] X.env:=by rfl)(hpl:(dm pos (Yq [.Name x p1] X.env)).any (·.1)=false:=by rfl):C3 X (.Call (.Name "isinstance" p) [a,.Name x p1] [] pos) (e1 (lg yes no) f):=ZkY (cv:=.ty T) hm hk h rfl (Zm4 hg1 hx hv (v:=.ty T) rfl hn hd) (λu q=>q) hg hs hs1 hpl
end
noncomputable def G5(es:Array DictEntry):Bool:=es.toList.all λe=>match e.key with
 | .str _ _=>true|_=>false
theorem Zrf{es:Array DictEntry}(h:G5 es=true):StrKeys es:=λe he=>by
 have:=nU.mp h e (Yib.mpr he);split at this
 .rename_i n t q;exact⟨n,t,q⟩
 .cases this
section
variable {K:Yb} {h:au} {a:Ym} {oc:Yd} {od:Option Ym} {es:Array DictEntry} {ep:Nat} {sl:Array (Option Yd)}
theorem Lh(X:K.In h)(l:K.lookup a=Ya ⟨oc,od,.dict es ep,sl⟩)(sk:G5 es=true):h.Ns a (Ef es):=⟨_,es,ep,X _ _ l,rfl,Zrf sk,λ_=>rfl⟩
theorem ZnB{c:List Nat}{C C':Ym}(x:ClsAt K c C)(y:ClsAt K c C'):C'=C:=by have:=y.symm.trans x;cases this;rfl
theorem vU{P:Ym->Prop}:∀c C,([]:List (List Nat)).contains c=true->ClsAt K c C->P C:=λc C z=>by cases z
theorem tU{P:Ym->Prop}{k:List Nat}{ks:List (List Nat)}{C1:Ym}(x:ClsAt K k C1)(p:P C1)(t:∀c C,ks.contains c=true->ClsAt K c C->P C):∀c C,(k::ks).contains c=true->ClsAt K c C->P C:=λc C z at_=>by
 rw[YX,uM]at z;rcases z with z|z
 .rw[beq_iff_eq.mp z]at at_;rw[ZnB x at_];exact p
 .exact t c C z at_
end
variable{body:List Yc6}
section
variable {X:Cx} {tg:Expr} {pos:aM}
theorem ZrQ{iter:Expr}{i:I3}{g:G3}{u:S3}(hp:Jd (Y4 X.prog X.w) X.A X.env X.xe)(hc:X.calm=true)(hi:CI X tg iter i)(hg:CG X tg g)(hb:jC X true body u)(hs:∀x,wN iter X.env x=pure x:=by intro _;rfl):
  oH X true (.For tg iter body [] pos) (Ge i g u):=(Q3 hp hc hi hg hb hs).imp λD σ H ak=>by
 obtain⟨ι,M,env,S,E,h⟩:=ak;unfold Ge at h;cases q:i env M with
 |exc x M1=>rw[q]at h;exact h.elim|bad=>rw[q]at h;exact h.elim|ok it M1=>
  rw[q]at h;refine⟨ι,M,env,S,E,?_⟩;rw[q];intro J H1 ι1 x1 S1 ok;refine⟨λi m σ2 H2=>m=it.items.length-i/\i<=it.items.length/\∃ι2 M2 dM,Ext X.K H1 ι1 H2 ι2/\ao X.K H2 ι2 M2/\aY X.K H2 ι2 dM σ2/\jZ X true σ2 H2 ι2 D (dZ it g u (it.items.drop i) dM M2),
   ⟨_,rfl,eG _,ι1,M1,env,Ext.refl,S1,E.mono x1,jZ.up x1 (λz=>nomatch z) h⟩,?_⟩
  rintro i m σ2 H2 ⟨rfl,hi,ι2,M2,dM,x2,S2,E2,h2⟩;by_cases hlt:i<it.items.length
  .have hd:it.items[i]?=Ya it.items[i]:=by simp[hlt]
   rw[zG hlt]at h2
   first|rw[pN]at h2|rw[sY]at h2
   by_cases lk:locked it M2=true
   .rw[if_pos lk]at h2;obtain⟨go,yl⟩:=(ok i H2 ι2 M2 x2 S2 lk).1 _ hd;cases eg:g it.items[i] dM with
    |none=>rw[eg]at h2;exact h2.elim|some oY=>
     rw[eg]at h2;refine .inr ⟨go,λσ' H'=>∃ι3 M3 iI,Ext X.K H2 ι2 H' ι3/\ao X.K H' ι3 M3/\aY X.K H' ι3 iI σ'/\jZ X true σ' H' ι3 D (dZ it g u (it.items.drop (i+1)) iI M3),
      λσ' H' ⟨ι3,M3,iI,x3,S3,E3,h3⟩=>⟨it.items.length-(i+1),by omega,rfl,hlt,ι3,M3,iI,x2.trans x3,S3,E3,h3⟩,λx H' hy=>?_⟩
     obtain⟨rfl,rx⟩:=yl x H' hy;refine⟨ι2,M2,dM,_,oY,S2,E2,rx,eg,λσ' E'=>⟨ι2,M2,oY,S2,E',?_⟩⟩;cases qu:u oY M2 with
     |nx e' M'=>simp only[qu]at h2;exactλσ' H' ι' x' S' E'=>⟨ι',M',e',x',S',E',h2.up x' (λz=>nomatch z)⟩|ct e' M'=>simp only[qu]at h2;exactλσ' H' ι' x' S' E'=>⟨ι',M',e',x',S',E',h2.up x' (λz=>nomatch z)⟩|bk e' M'=>simp only[qu]at h2;exact h2|rt d M'=>simp only[qu]at h2;exact h2
     |exc x' M'=>simp only[qu]at h2;exactλσ'' a C H' ι' _=>h2 σ'' a C H' ι' (λz=>nomatch z)|bad=>simp only[qu]at h2;exact h2.elim
   .rw[if_neg lk]at h2;exact h2.elim
  .have e0:i=it.items.length:=iK hi (pD hlt);subst e0;rw[El]at h2
   first|rw[pN]at h2|rw[sY]at h2
   by_cases lk:locked it M2=true
   .rw[if_pos lk]at h2;exact .inl ⟨(ok _ H2 ι2 M2 x2 S2 lk).2 rfl,h2 σ2 H2 ι2 Ext.refl S2 E2⟩
   .rw[if_neg lk]at h2;exact h2.elim
end
noncomputable def T3(K:Yb)(d:List aj)(v:Yd):Bool:=match v with
 | .ref a=>(match K.lookup a with
  |some o=>o.cls== .type "tuple" &&o.dict.isNone&&(match o.data with| .seq vs _=>decide (vs.size<=1000)&&KTD.strsLook vs.toList d|_=>false)
  |none=>false)
 |_=>false
noncomputable def ZwD(t:KH):List (aj×List aj):=t.map λp=>(⟨p.1.toArray⟩,p.2.map λy=>⟨y.toArray⟩)
def Zwi(K:Yb)(d:List aj)(v:Yd):Prop:=∃a,v= .ref a/\∀H,cP K H a (d.map V.str)
theorem ZnA:∀{vs:List Yd} {d:List aj},StrsAre vs d->Vals (d.map V.str) vs:=by
 intro vs d h
 induction h with
 |nil=>exact .nil|cons _ _ _ ih=>exact .cons ⟨_,rfl⟩ ih
theorem Zrq{d:List aj}{v:Yd}(h:T3 K d v=true):Zwi K d v:=by
 unfold T3 at h;split at h
 .rename_i a;refine⟨a,rfl,λH=>?_⟩;split at h
  .rename_i o ho;simp only[jb]at h;obtain⟨⟨h1,h2⟩,h3⟩:=h;split at h3
   .rename_i vs n hd;simp only[jb,decide_eq_true_eq]at h3;exact .inr ⟨o,vs,n,ho,⟨beq_iff_eq.mp h1,by simpa using h2⟩,hd,Yv h3.1 (by rw[rK];decide),ZnA (KTD.strs_of_look h3.2)⟩
   .cases h3
  .cases h
 .cases h
abbrev ZvE(K:Yb)(a:Ym)(t:KH):Prop:=KTD.tabLook (T3 K) (λb=>K.lookup b) a (ZwD t)=true
variable{h:au}
theorem ZvE.at{a:Ym}{t:KH}(T:ZvE K a t)(X:K.In h):sH (Zwi K) h a (ZwD t):=Yk3 (λ_ _ q=>Zrq q) X T
variable{Q:Option Yd->Yg->Prop}{δ:Type}
section
variable {prog:Y5} {w:aK} {A:bj} {E:Yd->Yg->Prop} {s:Yg} {a:Ym} {K:Yb} {t:KH} {x:List Nat} {tk:gY}
theorem T4{R:δ->Yd->Prop}{T:List (aj×δ)}(h:sH R s.heap a T):s.TypeIs (.ref a) "dict":=let⟨_,o,_,_,ho,hc,_⟩:=h;⟨o,ho,hc.1⟩
theorem Zo9{R:δ->Yd->Prop}{T:List (aj×δ)}{k:aj}(h:sH R s.heap a T)(hs:∀d v,sG k T=Ya d->R d v->Q (Ya v) {s with toks:=s.toks+1})(hn:sG k T=Yh->Q Yh {s with toks:=s.toks+1}):Yz (Y4 prog w) A (zA a (.str k tk)) Q E s:=by
 obtain⟨_,o,es,ep,ho,hc,hd,hr⟩:=h;unfold zA
 try with_reducible refine mK ?_
 refine Yc (X8 (Yc (KTD.kt_dictFind_strs (s:={s with toks:=s.toks+1}) ho hd (by obtain⟨es⟩:=es;simpa using hr.exact) ?_)));have key:Q (findBy (λq v=>v.isStr q) es k) {s with toks:=s.toks+1}:=by
  rw[show findBy (λq v=>v.isStr q) es k=(es.toList.find? λz=>z.key.isStr k).map (·.val)by obtain⟨es⟩:=es;simp[findBy]];cases e:sG k T with
  |none=>rw[hr.find_none e];exact hn e|some d=>obtain⟨v,hv,r⟩:=hr.find_some e;rw[hv];exact hs d v e r
 rw[findBy_of_findIdx?]at key;cases e:es.findIdx? λz=>z.key.isStr k with
 |none=>rw[e]at key;exact Yk key|some j=>rw[e]at key;exact Yc (X6 (s:={s with toks:=s.toks+1}) ho hd (Yk key))
end
set_option maxRecDepth 100000
def dO(b:Bool)(h:au)(l:Ym)(its:Array Yd):Prop:=match b with
 |true=>h.IsList l its|false=>h.IsTuple l its
def cH(b:Bool)(h:au)(it l:Ym)(i:Nat):Prop:=match b with
 |true=>h.IsListIter it l i|false=>h.IsTupleIter it l i
def yp(b:Bool)(K:Yb)(H:Hp)(l:Ym)(xs:List V):Prop:=match b with
 |true=>cB K H l xs|false=>cP K H l xs
noncomputable def G6:Bool->String
 |true=>"list_iterator"|false=>"tuple_iterator"
variable{its:Array Yd}{b:Bool}{l:Ym}
theorem dO.keep{h':au}(k:∀o,h.get? l=Ya o->h'.get? l=Ya o)(x:dO b h l its):dO b h' l its:=by
 cases b with
 |true=>exact Heap.IsList.at x k|false=>exact Heap.IsTuple.at x k
variable{it:Ym}{i:Nat}
theorem cH.keep{h':au}(k:∀o,h.get? it=Ya o->h'.get? it=Ya o)(x:cH b h it l i):cH b h' it l i:=by
 cases b with
 |true=>exact Heap.IsListIter.at x k|false=>exact Heap.IsTupleIter.at x k
theorem cH.there(x:cH b h it l i):∃o,h.get? it=Ya o/\∀v,o.data≠ .cell v:=by
 cases b with
 |true=>obtain⟨o,ho,_,d⟩:=x;exact⟨o,ho,λv z=>by rw[d]at z;cases z⟩|false=>obtain⟨o,ho,_,d⟩:=x;exact⟨o,ho,λv z=>by rw[d]at z;cases z⟩
theorem dO.there(x:dO b h l its):l<h.objs.size:=by
 cases b with
 |true=>obtain⟨o,ho,_⟩:=x;exact Yu ho|false=>obtain⟨o,ho,_⟩:=x;exact Yu ho
theorem yp.at{X:Cx}{xs:List V}(I:Inv X pins σ H s)(x:yp b X.K H l xs):∃its:List Yd,Vals xs its/\dO b s.heap l its.toArray:=by
 cases b with
 |true=>obtain⟨its,r,p,_⟩:=I.list x;exact⟨its,r,p.isList⟩|false=>obtain⟨its,r,p,_⟩:=I.tuple x;exact⟨its,r,p⟩
variable{xs ys:Array Yd}{k1 k2:Nat}{b1 b2:Bool}
section
variable {prog:Y5} {w:aK} {A:bj} {E:Yd->Yg->Prop} {s:Yg}
theorem nextK{x:Yd}{Q:Yd->Yg->Prop}(hi:cH b s.heap it l i)(ho:dO b s.heap l its)(hx:its[i]?=Ya x)(hQ:∀h',cH b h' it l (i+1)->xr it s.heap h'->Q x {s with heap:=h'}):Yz (Y4 prog w) A (Y7 (.ref it)) Q E s:=by
 cases b with
 |true=>exact wpAny_nextOf_list_item hi ho hx hQ|false=>exact Zd5 hi ho hx hQ
theorem Li{Q:Yd->Yg->Prop}(hh:A.handled=Yh)(hi:cH b s.heap it l i)(ho:dO b s.heap l its)(hx:its[i]?=Yh)(hE:∀h' e,Heap.ExtBut it s.heap h'->(∃o,h'.get? e=Ya o/\o.cls= .type "StopIteration")->E (.ref e) {s with heap:=h'}):Yz (Y4 prog w) A (Y7 (.ref it)) Q E s:=by
 cases b with
 |true=>exact wpAny_nextOf_list_end hh hi ho hx hE|false=>exact Tu hh hi ho hx hE
theorem ZsJ{Q:Yd->Yg->Prop}(ho:dO b s.heap l its)(h:Q (.ref s.heap.objs.size) {s with heap:=s.heap.push {cls:=.type (G6 b),data:=.fields #[.ref l,.int 0 0]}}):
  Yz (Y4 prog w) A (zE (.ref l)) Q E s:=by
 cases b with
 |true=>exact XX ho h|false=>exact DX ho h
theorem cH.new(e:h.get? it=Ya {cls:=.type (G6 b),data:=.fields #[.ref l,.int 0 0]}):cH b h it l 0:=by
 cases b with
 |true=>exact⟨_,e,rfl,rfl⟩|false=>exact⟨_,e,rfl,rfl⟩
theorem Zou{z TI TO i1 i2 l1 l2:Ym}{x y a b:Yd}{Q:Yd->Yg->Prop}(D:ZipApart z TI TO i1 i2 l1 l2)(hz:jt s.heap z TI TO .none)(hTI:eZ s.heap TI (.ref i1) (.ref i2))(hTO:eZ s.heap TO a b)(h1:cH b1 s.heap i1 l1 k1)(h2:cH b2 s.heap i2 l2 k2)(hl1:dO b1 s.heap l1 xs)(hl2:dO b2 s.heap l2 ys)(hx:xs[k1]?=Ya x)(hy:ys[k2]?=Ya y)(hQ:∀h',jt h' z TI TO (j_ s.heap.objs.size)->eZ h' TO x y->cH b1 h' i1 l1 (k1+1)->cH b2 h' i2 l2 (k2+1)->eZ h' s.heap.objs.size x y ->
   (∀c o,c≠z->c≠TO->c≠i1->c≠i2->s.heap.get? c=Ya o->h'.get? c=Ya o)->Q (.ref s.heap.objs.size) {s with heap:=h'}):
  Yz (Y4 prog w) A (Builtin.«zip.__next__» ⟨[.ref z],[]⟩) (λfin s'=>∃v,fin= .done (.ret v)/\Q v s') E s:=by
 show Yz _ _ (lJ (.ref z) 2>>=λo=>_) _ _ _;refine Yc (fO hz rfl (x:=.bool false) rfl (show Yz _ _ (lJ (.ref z) 3>>=λo=>_) _ _ _ from ?_));refine Yc (fO hz rfl (x:=.ref TI) rfl (Yc (p6 hTI rfl ?_)));refine(show Yz _ _ (uI (.ref z)>>=λo=>_) _ _ _ from Yc ?_);unfold uI;refine Yc (fO hz rfl (x:=.none) rfl (Yk ?_));simp only[if_true];refine Yc (zq (Yc (fO hz rfl (x:=.ref TO) rfl ?_)));refine Yc (wM hz (by simp) λg1 hz1 hs1=>Yc ?_);replace hz1:jt g1 z TI TO .ellipsis:=hz1;simp only[ZF,ZJ,Em,Jk];refine Yc (Yc (D_ (show Yz _ _ (Y7 (.ref i1)>>=λo=>_) _ _ _ from ?_)));refine Yc (nextK (h1.keep λo q=>hs1.extBut _ o D.i1z q) (hl1.keep λo q=>hs1.extBut _ o D.l1z q) hx λg2 h12 hs2=>Yk ?_);have DK:eZ g2 TO a b:=hs2.extBut _ _ D.TOi1 (hs1.extBut _ _ D.TOz hTO);refine Yc (p6 DK rfl (Yc (Ow DK λg3 Io hs3=>?_)));replace Io:eZ g3 TO x b:=Io;refine Yc (Pa (Yk (Yc (Yc (D_ (show Yz _ _ (Y7 (.ref i2)>>=λo=>_) _ _ _ from ?_))))));refine Yc (nextK (h2.keep λo q=>hs3.extBut _ o D.TOi2.symm (hs2.extBut _ o D.i12.symm (hs1.extBut _ o D.i2z q))) (hl2.keep λo q=>hs3.extBut _ o D.l2TO (hs2.extBut _ o D.l2i1 (hs1.extBut _ o D.l2z q))) hy λg4 h24 qQ=>Yk ?_);have Wz:eZ g4 TO x b:=qQ.extBut _ _ D.TOi2 Io;refine Yc (p6 Wz rfl (Yc (Ow Wz λg5 Ip vV=>?_)));replace Ip:eZ g5 TO x y:=Ip;refine Yc (Pa (Yk (Yk (Yc (p6 Ip rfl (Yc (wpAny_newTuple ?_)))))));have hsz:g5.objs.size=s.heap.objs.size:=by rw[vV.1,qQ.1,hs3.1,hs2.1,hs1.1]
 have hz5:jt g5 z TI TO .ellipsis:=vV.extBut _ _ D.TOz.symm (qQ.extBut _ _ D.i2z.symm (hs3.extBut _ _ D.TOz.symm (hs2.extBut _ _ D.i1z.symm hz1)));have hk5:∀c o,c≠z->c≠TO->c≠i1->c≠i2->s.heap.get? c=Ya o->g5.get? c=Ya o:=λc o c1 c2 c3 c4 e=>vV.extBut _ _ c2 (qQ.extBut _ _ c4 (hs3.extBut _ _ c2 (hs2.extBut _ _ c3 (hs1.extBut _ _ c1 e))));have h15:cH b1 g5 i1 l1 (k1+1):=h12.keep λo q=>vV.extBut _ o D.TOi1.symm (qQ.extBut _ o D.i12 (hs3.extBut _ o D.TOi1.symm q));have h25:cH b2 g5 i2 l2 (k2+1):=h24.keep λo q=>vV.extBut _ o D.TOi2.symm q;have hzlt:z<g5.objs.size:=Yu hz5;refine(show Yz _ _ (Z2 (.ref z) (.ref g5.objs.size)>>=λo=>_) _ _ _ from Yc ?_);unfold Z2;have hz6:jt (g5.push {cls:=.type "tuple",data:=.seq #[x,y]}) z TI TO .ellipsis:=Yi _ hz5;refine Yc (wM hz6 (by simp) λg7 T5 hs7=>?_);replace T5:jt g7 z TI TO (j_ g5.objs.size):=T5;refine wM T5 (by simp) λg8 hz8 hs8=>?_;replace hz8:jt g8 z TI TO (j_ g5.objs.size):=hz8;have up:∀c o,c≠z->g5.get? c=Ya o->g8.get? c=Ya o:=λc o c1 e=>hs8.extBut _ _ c1 (hs7.extBut _ _ c1 (Yi _ e));have hT8:eZ g8 g5.objs.size x y:=hs8.extBut _ _ (uH hzlt) (hs7.extBut _ _ (uH hzlt) (Y1 _ rfl));rw[hsz]at hz8 hT8;refine Yk ⟨_,rfl,(show Q (.ref g5.objs.size) _ from ?_)⟩;rw[hsz];exact hQ g8 hz8 (up _ _ D.TOz Ip) (h15.keep λo e=>up _ o D.i1z e) (h25.keep λo e=>up _ o D.i2z e) hT8 λc o c1 c2 c3 c4 e=>up c o c1 (hk5 c o c1 c2 c3 c4 e)
theorem Zqk{z TI TO i1 i2 l1 l2:Ym}{a b:Yd}{Q:Fin->Yg->Prop}(hh:A.handled=Yh)(D:ZipApart z TI TO i1 i2 l1 l2)(hz:jt s.heap z TI TO .none)(hTI:eZ s.heap TI (.ref i1) (.ref i2))(hTO:eZ s.heap TO a b)(h1:cH b1 s.heap i1 l1 k1)(h2:cH b2 s.heap i2 l2 k2)(hl1:dO b1 s.heap l1 xs)(hl2:dO b2 s.heap l2 ys)(hend:xs[k1]?=Yh\/ys[k2]?=Yh)(hE:∀h' e,(∀c o,c≠z->c≠TO->c≠i1->c≠i2->s.heap.get? c=Ya o->h'.get? c=Ya o)->(∃o,h'.get? e=Ya o/\o.cls= .type "StopIteration")->E (.ref e) {s with heap:=h'}):
  Yz (Y4 prog w) A (Builtin.«zip.__next__» ⟨[.ref z],[]⟩) Q E s:=by
 show Yz _ _ (lJ (.ref z) 2>>=λo=>_) _ _ _;refine Yc (fO hz rfl (x:=.bool false) rfl (show Yz _ _ (lJ (.ref z) 3>>=λo=>_) _ _ _ from ?_));refine Yc (fO hz rfl (x:=.ref TI) rfl (Yc (p6 hTI rfl ?_)));refine(show Yz _ _ (uI (.ref z)>>=λo=>_) _ _ _ from Yc ?_);unfold uI;refine Yc (fO hz rfl (x:=.none) rfl (Yk ?_));simp only[if_true];refine Yc (zq (Yc (fO hz rfl (x:=.ref TO) rfl ?_)));refine Yc (wM hz (by simp) λg1 hz1 hs1=>Yc ?_);replace hz1:jt g1 z TI TO .ellipsis:=hz1;simp only[ZF,ZJ,Em,Jk];refine Yc (Yc (D_ (show Yz _ _ (Y7 (.ref i1)>>=λo=>_) _ _ _ from ?_)));have h11:cH b1 g1 i1 l1 k1:=h1.keep λo q=>hs1.extBut _ o D.i1z q;have DN:dO b1 g1 l1 xs:=hl1.keep λo q=>hs1.extBut _ o D.l1z q;cases hx:xs[k1]? with
 |none=>
  refine Yc (Li hh h11 DN hx λg2 e hs2 he=>?_);obtain⟨oe,hoe,hce⟩:=he;have hz2:jt g2 z TI TO .ellipsis:=hs2 _ _ D.i1z.symm hz1;have hez:e≠z:=λq=>by subst q;rw[hz2]at hoe;cases hoe;simp at hce
  exact wM hz2 (by simp) λg3 _ hs3=>hE g3 e (λc o c1 _ c3 _ q=>hs3.extBut _ _ c1 (hs2 _ _ c3 (hs1.extBut _ _ c1 q))) ⟨oe,hs3.extBut _ _ hez hoe,hce⟩
 |some x=>
  have hy:ys[k2]?=Yh:=by rcases hend with q|q;rw[hx]at q;cases q;exact q
  refine Yc (nextK h11 DN hx λg2 h12 hs2=>Yk ?_);have DK:eZ g2 TO a b:=hs2.extBut _ _ D.TOi1 (hs1.extBut _ _ D.TOz hTO);refine Yc (p6 DK rfl (Yc (Ow DK λg3 Io hs3=>?_)));refine Yc (Pa (Yk (Yc (Yc (D_ (show Yz _ _ (Y7 (.ref i2)>>=λo=>_) _ _ _ from ?_))))));refine Yc (Li hh (h2.keep λo q=>hs3.extBut _ o D.TOi2.symm (hs2.extBut _ o D.i12.symm (hs1.extBut _ o D.i2z q))) (hl2.keep λo q=>hs3.extBut _ o D.l2TO (hs2.extBut _ o D.l2i1 (hs1.extBut _ o D.l2z q))) hy λg4 e qQ he=>?_);obtain⟨oe,hoe,hce⟩:=he;have hz4:jt g4 z TI TO .ellipsis:=qQ _ _ D.i2z.symm (hs3.extBut _ _ D.TOz.symm (hs2.extBut _ _ D.i1z.symm hz1));have hez:e≠z:=λq=>by subst q;rw[hz4]at hoe;cases hoe;simp at hce
  exact wM hz4 (by simp) λg5 _ vV=>hE g5 e (λc o c1 c2 c3 c4 q=>vV.extBut _ _ c1 (qQ _ _ c4 (hs3.extBut _ _ c2 (hs2.extBut _ _ c3 (hs1.extBut _ _ c1 q))))) ⟨oe,vV.extBut _ _ hez hoe,hce⟩
theorem Zkd{z TI TO i1 i2 l1 l2:Ym}{x y a b:Yd}(D:ZipApart z TI TO i1 i2 l1 l2)(hz:jt s.heap z TI TO .none)(hTI:eZ s.heap TI (.ref i1) (.ref i2))(hTO:eZ s.heap TO a b)(h1:cH b1 s.heap i1 l1 k1)(h2:cH b2 s.heap i2 l2 k2)(hl1:dO b1 s.heap l1 xs)(hl2:dO b2 s.heap l2 ys)(hx:xs[k1]?=Ya x)(hy:ys[k2]?=Ya y)(hQ:∀h',jt h' z TI TO (j_ s.heap.objs.size)->eZ h' TO x y->cH b1 h' i1 l1 (k1+1)->cH b2 h' i2 l2 (k2+1)->eZ h' s.heap.objs.size x y ->
   (∀c o,c≠z->c≠TO->c≠i1->c≠i2->s.heap.get? c=Ya o->h'.get? c=Ya o)->Q (Ya (.ref s.heap.objs.size)) {s with heap:=h'}):
  Yz (Y4 prog w) A (iy (.ref z)) Q E s:=by
 have hT:s.TypeIs (.ref z) "zip":=⟨_,hz,rfl⟩;unfold iy;exact Yc (wR (rG (name:=nY "__next__") hT uP (rJ uP hT Jz
  (Zou D hz hTI hTO h1 h2 hl1 hl2 hx hy λh' a1 a2 a3 a4 a5 a6=>Yk (hQ h' a1 a2 a3 a4 a5 a6)) (Jy _))))
theorem Zlo{z TI TO i1 i2 l1 l2:Ym}{a b:Yd}(hh:A.handled=Yh)(D:ZipApart z TI TO i1 i2 l1 l2)(hz:jt s.heap z TI TO .none)(hTI:eZ s.heap TI (.ref i1) (.ref i2))(hTO:eZ s.heap TO a b)(h1:cH b1 s.heap i1 l1 k1)(h2:cH b2 s.heap i2 l2 k2)(hl1:dO b1 s.heap l1 xs)(hl2:dO b2 s.heap l2 ys)(hend:xs[k1]?=Yh\/ys[k2]?=Yh)(hQ:∀h',(∀c o,c≠z->c≠TO->c≠i1->c≠i2->s.heap.get? c=Ya o->h'.get? c=Ya o)->Q Yh {s with heap:=h'}):Yz (Y4 prog w) A (iy (.ref z)) Q E s:=by
 have hT:s.TypeIs (.ref z) "zip":=⟨_,hz,rfl⟩;unfold iy;refine Yc (wR (rG (name:=nY "__next__") hT uP (rJ uP hT Jz
  (Zqk hh D hz hTI hTO h1 h2 hl1 hl2 hend λh' e hk he=>?_) (Jy _))))
 obtain⟨o,ho,hc⟩:=he;exact Yc (OJ (T:="StopIteration") (b:=true) ⟨o,ho,hc⟩ O5 (Yk (hQ _ hk)))
end
noncomputable abbrev jo(b:Bool)(h:au)(l:Ym):au:=h.push {cls:=.type (G6 b),data:=.fields #[.ref l,.int 0 0]}
noncomputable abbrev Bt(b1 b2:Bool)(h:au)(l1 l2:Ym):au:=(jo b2 (jo b1 h l1) l2).push {cls:=.type "tuple",data:=.seq #[.ref h.objs.size,.ref (jo b1 h l1).objs.size]}
noncomputable abbrev G8(b1 b2:Bool)(h:au)(l1 l2:Ym):au:=(Bt b1 b2 h l1 l2).push {cls:=.type "tuple",data:=.seq #[.none,.none]}
noncomputable abbrev qR(b1 b2:Bool)(h:au)(l1 l2:Ym):au:=(G8 b1 b2 h l1 l2).push {cls:=.type "zip",data:=.fields #[.none,.bool false,.bool false,.ref (jo b2 (jo b1 h l1) l2).objs.size,.ref (Bt b1 b2 h l1 l2).objs.size]}
theorem Zmi(b1 b2:Bool)(l1 l2:Ym)(xs ys:Array Yd):
  Meets (Builtin.«zip.__new__» ⟨[.type "zip",.ref l1,.ref l2],[]⟩) (λ_ R s=>dO b1 s.heap l1 xs/\dO b2 s.heap l2 ys/\R (.ok (.ret (.ref (G8 b1 b2 s.heap l1 l2).objs.size))) {s with heap:=qR b1 b2 s.heap l1 l2}):=
 .of_wp λprog w A R s h=>by
  obtain⟨hp,g,d,tk,os⟩:=s;obtain⟨hl1,hl2,h⟩:=h;have hsub:=sub_zip;have hL1:dO b1 (QF ⟨hp,g,d,tk,os⟩) l1 xs:=hl1;have hL2:dO b2 (QF ⟨jo b1 hp l1,g,d,tk,os⟩) l2 ys:=hl2.keep λo q=>Yi _ q
  wp_walk using ZsJ hL1,ZsJ hL2
  exact⟨_,rfl,h⟩
theorem Zoo{prog:Y5}{w:aK}{A:bj}{E:Yd->Yg->Prop}{l1 l2:Ym}{Q:Yd->Yg->Prop}(hl1:dO b1 s.heap l1 xs)(hl2:dO b2 s.heap l2 ys)(h:∀h',jt h' (s.heap.objs.size+4) (s.heap.objs.size+2) (s.heap.objs.size+3) .none->eZ h' (s.heap.objs.size+2) (.ref s.heap.objs.size) (.ref (s.heap.objs.size+1)) ->
   eZ h' (s.heap.objs.size+3) .none .none->cH b1 h' s.heap.objs.size l1 0->cH b2 h' (s.heap.objs.size+1) l2 0->(∀c o,s.heap.get? c=Ya o->h'.get? c=Ya o)->Q (.ref (s.heap.objs.size+4)) {s with heap:=h'}):
  Yz (Y4 prog w) A (call (.type "zip") [.ref l1,.ref l2]) Q E s:=by
 refine callType_new F.called_zip (by decide) (F.typeCall_zip_2 _ _) (F.newCall_zip_2 _ _) (λobj=>F.args_object_init_3 obj _ _) F.entry_zip_new (Zmi b1 b2 l1 l2 xs ys) ⟨hl1,hl2,?_⟩;have z1:(jo b1 s.heap l1).objs.size=s.heap.objs.size+1:=uG ..;have z2:(jo b2 (jo b1 s.heap l1) l2).objs.size=s.heap.objs.size+2:=(uG ..).trans (by rw[z1]);have z3:(Bt b1 b2 s.heap l1 l2).objs.size=s.heap.objs.size+3:=(uG ..).trans (by rw[z2]);have z4:(G8 b1 b2 s.heap l1 l2).objs.size=s.heap.objs.size+4:=(uG ..).trans (by rw[z3]);have p5:∀{c o},(G8 b1 b2 s.heap l1 l2).get? c=Ya o->(qR b1 b2 s.heap l1 l2).get? c=Ya o:=λq=>Yi _ q;have p4:∀{c o},(Bt b1 b2 s.heap l1 l2).get? c=Ya o->(qR b1 b2 s.heap l1 l2).get? c=Ya o:=λq=>p5 (Yi _ q);have p3:∀{c o},(jo b2 (jo b1 s.heap l1) l2).get? c=Ya o->(qR b1 b2 s.heap l1 l2).get? c=Ya o:=λq=>p4 (Yi _ q);have p2:∀{c o},(jo b1 s.heap l1).get? c=Ya o->(qR b1 b2 s.heap l1 l2).get? c=Ya o:=λq=>p3 (Yi _ q);have g5:(qR b1 b2 s.heap l1 l2).get? (G8 b1 b2 s.heap l1 l2).objs.size=Ya {cls:=.type "zip",data:=.fields #[.none,.bool false,.bool false,.ref (jo b2 (jo b1 s.heap l1) l2).objs.size,.ref (Bt b1 b2 s.heap l1 l2).objs.size]}:=Y1 _ rfl;have g4:(qR b1 b2 s.heap l1 l2).get? (Bt b1 b2 s.heap l1 l2).objs.size=Ya {cls:=.type "tuple",data:=.seq #[.none,.none]}:=p5 (Y1 _ rfl);have g3:(qR b1 b2 s.heap l1 l2).get? (jo b2 (jo b1 s.heap l1) l2).objs.size=Ya {cls:=.type "tuple",data:=.seq #[.ref s.heap.objs.size,.ref (jo b1 s.heap l1).objs.size]}:=p4 (Y1 _ rfl);have g2:(qR b1 b2 s.heap l1 l2).get? (jo b1 s.heap l1).objs.size=Ya {cls:=.type (G6 b2),data:=.fields #[.ref l2,.int 0 0]}:=p3 (Y1 _ (by cases b2<;>rfl));have g1:(qR b1 b2 s.heap l1 l2).get? s.heap.objs.size=Ya {cls:=.type (G6 b1),data:=.fields #[.ref l1,.int 0 0]}:=p2 (Y1 _ (by cases b1<;>rfl));rw[z4,z2,z3]at g5;rw[z2,z1]at g3;rw[z3]at g4;rw[z1]at g2;show _/\_;rw[z4];exact⟨⟨_,g5,rfl⟩,h _ g5 g3 g4 (cH.new g1) (cH.new g2) λc o q=>p2 (Yi _ q)⟩
noncomputable def Zwe(i:Int)(v:Yd):Bool:=match v with
 | .int j _=>decide (j=i)|_=>false
def ZvJ(i:Int)(v:Yd):Prop:=∃t,v= .int i t
theorem Zq5{i:Int}{v:Yd}(h:Zwe i v=true):ZvJ i v:=by
 cases v with
 |int j t=>exact⟨t,by rw[of_decide_eq_true (show decide (j=i)=true from h)]⟩|_=>exact ft h
noncomputable def Lj(t:tK):List (aj×Int):=t.map λp=>(⟨p.1.toArray⟩,p.2)
abbrev Bu(K:Yb)(a:Ym)(t:tK):Prop:=KTD.tabLook Zwe (λb=>K.lookup b) a (Lj t)=true
theorem Bu.at{a:Ym}{t:tK}(T:Bu K a t)(X:K.In h):sH ZvJ h a (Lj t):=Yk3 (λ_ _ q=>Zq5 q) X T
theorem T6(x:List Nat):∀t:tK,sG (⟨x.toArray⟩:aj) (Lj t)=qL x t
 |[]=>rfl|(k,v)::r=>by
  show(if decide ((⟨x.toArray⟩:aj)=⟨k.toArray⟩)=true then Ya v else sG ⟨x.toArray⟩ (Lj r))=(if x=k then Ya v else qL x r);by_cases e:x=k
  .subst e;rw[if_pos rfl,if_pos (decide_eq_true rfl)]
  .rw[if_neg e,if_neg (by simp[e]),T6 x r]
section
variable {prog:Y5} {w:aK} {A:bj} {E:Yd->Yg->Prop} {s:Yg} {a:Ym} {K:Yb} {tk:gY}
theorem Zp4{R:δ->Yd->Prop}{l:List DictEntry}{T:List (aj×δ)}(h:KTD.Rows R l T):∀e∈l,∃x t,e.key= .str x t:=by
 induction h with
 |nil=>intro e he;cases he|cons hk _ _ ih=>
  intro e he;rcases Y6.mp he with q|q
  .rw[q];exact⟨_,_,hk⟩
  .exact ih e q
theorem ZnJ{R:δ->Yd->Prop}{T:List (aj×δ)}{i:Int}(h:sH R s.heap a T)(hn:Q Yh {s with toks:=s.toks+1}):Yz (Y4 prog w) A (zA a (.int i tk)) Q E s:=by
 obtain⟨_,o,es,ep,ho,hc,hd,hr⟩:=h;have hs:∀e∈es,∃x t,e.key= .str x t:=λe he=>Zp4 hr e (by simpa using he);unfold zA
 try with_reducible refine mK ?_
 refine Yc (X7 (Yc ?_));unfold dictFind
 try with_reducible refine mK ?_
 refine Yc (X6 (s:={s with toks:=s.toks+1}) ho hd ?_);dsimp only;rw[if_pos]
 .unfold dictWalkPlain;refine Yc ?_;refine wpAny_forIn_list _ (λ_ b s'=>s'={s with toks:=s.toks+1}/\b=(Yh,())) _ ?_ ?_ _ _ ⟨rfl,rfl⟩
  .rintro x rest b s' ⟨rfl,rfl⟩;cases he:es[x]? with
   |none=>exact Yk ⟨rfl,rfl⟩|some e=>
    obtain⟨y,t,ek⟩:=hs e (Yh2 he);dsimp only;by_cases hh:(e.hash==hashInt i)=true
    .rw[if_pos hh,ek];refine Yc (YG (s:={s with toks:=s.toks+1}) ho hd (Yc (Qw y t i tk prog w E _ (Yc (YG (s:={s with toks:=s.toks+1}) ho hd ?_)))));show Yz _ _ (if(ep !=ep)=true then _ else _) _ E _;rw[if_neg (by simp)];exact Yc (zq (Yk ⟨rfl,rfl⟩))
    .rw[if_neg hh];exact Yk ⟨rfl,rfl⟩
  .rintro b s' ⟨rfl,rfl⟩;exact Yk (Yk hn)
 .rw[ZM];refine uJ.mpr ⟨rfl,nU.mpr λv hv=>?_⟩;obtain⟨j,_,hj⟩:=w6.mp hv;cases he:es[j]? with
  |none=>rw[he]at hj;cases hj|some e=>
   rw[he]at hj;obtain rfl:e.key=v:=by simpa using hj
   obtain⟨y,t,ek⟩:=hs e (Yh2 he);rw[ek];rfl
theorem Zmx{R:δ->Yd->Prop}{T:List (aj×δ)}{k:aj}{z:Yd}:
  MeetsIn prog w (Builtin.«dict.get» ⟨[.ref a,.str k tk,z],[]⟩) λ_ Z s=>sH R s.heap a T/\(∀d v,sG k T=Ya d->R d v->Z (.ok (.ret v)) {s with toks:=s.toks+1})/\(sG k T=Yh->Z (.ok (.ret z)) {s with toks:=s.toks+1}):=
 .of_wp λA Z s zz=>by obtain⟨h,h1,h2⟩:=zz;show Yz _ _ (zA a (.str k tk)>>=λo=>_) _ _ s;refine Yc (Zo9 h (λd v e r=>Yk ⟨v,rfl,h1 d v e r⟩) λe=>?_);show Yz _ _ (Yiu a (.str k tk)>>=λo=>_) _ _ _;exact Yc (XR h.1 (Yk ⟨z,rfl,h2 e⟩))
theorem Zlv{R:δ->Yd->Prop}{T:List (aj×δ)}{i:Int}{z:Yd}:
  MeetsIn prog w (Builtin.«dict.get» ⟨[.ref a,.int i tk,z],[]⟩) λ_ Z s=>sH R s.heap a T/\Z (.ok (.ret z)) {s with toks:=s.toks+1}:=
 .of_wp λA Z s zz=>by obtain⟨h,h2⟩:=zz;show Yz _ _ (zA a (.int i tk)>>=λo=>_) _ _ s;refine Yc (ZnJ h ?_);show Yz _ _ (Yiu a (.int i tk)>>=λo=>_) _ _ _;exact Yc (XR h.1 (Yk ⟨z,rfl,h2⟩))
theorem Zqm{R:δ->Yd->Prop}{T:List (aj×δ)}{k:aj}{z:Yd}{Q:Yd->Yg->Prop}(h:sH R s.heap a T)(h1:∀d v,sG k T=Ya d->R d v->Q v {s with toks:=s.toks+1})(h2:sG k T=Yh->Q z {s with toks:=s.toks+1}):Yz (Y4 prog w) A (call (.builtin "dict.get") [.ref a,.str k tk,z]) Q E s:=Jb zY (T4 h) Jx (Jw _ _ _) (Zmx (R:=R) (T:=T)) ⟨h,h1,h2⟩
theorem ZoB{R:δ->Yd->Prop}{T:List (aj×δ)}{i:Int}{z:Yd}{Q:Yd->Yg->Prop}(h:sH R s.heap a T)(h2:Q z {s with toks:=s.toks+1}):Yz (Y4 prog w) A (call (.builtin "dict.get") [.ref a,.int i tk,z]) Q E s:=Jb zY (T4 h) Jx (Jw _ _ _) (Zlv (R:=R) (T:=T)) ⟨h,h2⟩
end
section
variable {X:Cx} {e e':Expr} {x:aj} {a:Ym} {t:tK} {npos apos cpos pos:aM} {g g':E3}
inductive Zxq(t:tK)(y z:V)(H1:Hp)(Q:VK):Prop
 |str (k:List Nat) (e:y= .str ⟨k.toArray⟩) (s:∀i,qL k t=Ya i->Q (.int i) H1) (n:qL k t=Yh->Q z H1)
 |int (i:Int) (e:y= .int i) (n:Q z H1)
theorem Zo6{te te':TE}(hm:X.mg x=Ya (.ref a))(ht:Bu X.K a t)(he:PE X e te)(he':PE X e' te')(m:M2 X (.Name x npos) "get" apos e e' cpos)(hg:Gl X x)(hd:(x==("__debug__":aj))=false):
  PE X (.Call (.Attribute (.Name x npos) "get" apos) [e,e'] [] cpos) (λσ H Q=>te σ H λy H1=>te' σ H1 λz H2=>Zxq t y z H2 Q):=by
 intro pins s σ H Q I h;refine X5 m.base m.few m.line Ygu zY Yhr (aH (QW (v:=.ref a) (u:=.ref a) hg hm rfl hd pins s σ H (λv H'=>v= .ref a/\H'=H) I ⟨rfl,rfl⟩) λu s1 ak=>?_);obtain⟨v,H1,I1,r1,rfl,rfl⟩:=ak;obtain rfl:u=Value.ref a:=r1;have T1:=ht.at I1.cL;refine⟨T4 T1,λb q=>?_,?_⟩
 .cases q
  obtain⟨_,ob,_,_,h1,h2,_⟩:=T1;exact⟨ob,h1,h2.2.1⟩
 rw[m.trees];refine JF rfl (JG (zZ (aH (he pins s1 σ H1 _ I1 h) λiv s2 ⟨y,H2,I2,ry,q2⟩=>zZ (aH (he' pins s2 σ H2 _ I2 q2) λfv s3 ⟨z,H3,I3,rz,q3⟩=>JH ?_))));cases q3 with
 | str k ey hs hn=>
  rw[ey]at ry;obtain⟨tk,rfl⟩:=ry;refine Zqm (ht.at I3.cL) (λd v ed rv=>?_) λed=>?_
  .rw[T6]at ed;obtain⟨t',rfl⟩:=rv;exact⟨.int d,H3,I3.tok _,⟨t',rfl⟩,hs d ed⟩
  .rw[T6]at ed;exact⟨z,H3,I3.tok _,rz,hn ed⟩
 |int i ey hn=>rw[ey]at ry;obtain⟨tk,rfl⟩:=ry;exact ZoB (ht.at I3.cL) ⟨z,H3,I3.tok _,rz,hn⟩
theorem Zrc(hm:X.mg x=Ya (.ref a))(ht:Bu X.K a t)(he:C3 X e g)(he':C3 X e' g')(m:M2 X (.Name x npos) "get" apos e e' cpos:=by exact⟨rfl,rfl,rfl,rfl⟩)(hg:Gl X x:=by rfl)(hd:(x==("__debug__":aj))=false:=by decide):
  C3 X (.Call (.Attribute (.Name x npos) "get" apos) [e,e'] [] cpos) (e2 (Bc t) g g'):=(Zo6 hm ht he he' m hg hd).imp λσ H Q ak=>by
 obtain⟨ι,M,env,S,E,h⟩:=ak;obtain⟨d,M1,e1,h⟩:=Zy.bind h;obtain⟨d2,M2,e2,h⟩:=Zy.bind h;refine⟨ι,M,env,S,E,?_⟩;rw[e1];intro y H1 ι1 x1 S1 r1;refine⟨ι1,M1,env,S1,E.mono x1,?_⟩;rw[e2];intro z H2 ι2 x2 S2 r2;have h:=(h.up x1).up x2;cases d with
 | str k=>
  cases r1.str_inv
  refine .str k rfl (λi ei=>?_) λen=>?_
  .have h:Zy X.K H2 ι2 Q (match qL k t with|some i=>.ok (.int i) M2|none=>.ok d2 M2):=h
   rw[ei]at h;exact Zy.ok h S2 Rep.int
  .have h:Zy X.K H2 ι2 Q (match qL k t with|some i=>.ok (.int i) M2|none=>.ok d2 M2):=h
   rw[en]at h;exact Zy.ok h S2 r2
 |int i=>
  cases r1.int_inv
  exact .int i rfl (Zy.ok h S2 r2)
 |_=>exact h.elim
end
variable{n:Nat}
section
variable {X:Cx} {e st:Expr} {p2 pos:aM} {f:E3}
theorem ZtE{α:Type}{l:List α}{m:Nat}{a b:α}(h:l.Nodup)(h1:l[n]?=Ya a)(h2:l[m]?=Ya b)(e:a=b):n=m:=(ZC (Yf.mp h1).1 h).mp (by rw[h1,h2,e])
theorem Zp0{A:bj}(hu:A.units+70<fP)(I:Inv X pins σ H s)(S:ao X.K H ι M){m:Nat}{x y:List D}{u v:V}{a b:Yd}(hn:M[n]?=Ya (.lst x))(hm:M[m]?=Ya (.lst y))(hnm:n≠m)(p1:x.all (cD 50)=true)(p2:y.all (cD 50)=true)(ru:Rep X.K H ι (.ref n) u)(rv:Rep X.K H ι (.ref m) v)(ra:RelV u a)(rb:RelV v b):pF A s a b (gj x y):=by
 obtain⟨p,vs,its,e1,eu,t,r1,v1⟩:=K6 I S hn ru ra;obtain⟨q,ws,its2,e2,ev,t',r2,v2⟩:=K6 I S hm rv rb;obtain⟨k1,hk1,ek1⟩:=ru.fK;obtain⟨k2,hk2,ek2⟩:=rv.fK;have hpq:p≠q:=λz=>hnm (ZtE S.nd hk1 hk2 (by have z1:V.ref p= .ref k1:=e1.symm.trans ek1;have z2:V.ref q= .ref k2:=e2.symm.trans ek2;injection z1 with z1;injection z2 with z2;rw[←z1,←z2,z]));rw[eu,ev];refine Yja hpq ?_;have hu1:A.units<fP:=by omega
 have hu2:A.in1.units+50+1<fP:=by rw[units_in1];omega
 by_cases hl:x.length=y.length
 .rw[←Sw (jV r1 v1) hl];exact Yke t t' ((jV r1 v1).trans (hl.trans (jV r2 v2).symm)) hu1 (K5 (Sx I 50 A.in1 hu2) p1 p2 r1 r2 v1 v2)
 .rw[Sv hl];exact Ygl t t' (bne_iff_ne.mpr λe=>hl ((jV r1 v1).symm.trans (e.trans (jV r2 v2)))) hu1
noncomputable def two(a b:Bool):Nat->Bool
 |0=>a|_=>b
theorem Zs1{A:bj}{a b c d:Yd}{r1 r2:Bool}(h1:pF A s a c r1)(h2:pF A s b d r2)(j:Nat)(k1:j< #[a,b].size)(k2:j< #[c,d].size):pF A s #[a,b][j] #[c,d][j] (two r1 r2 j):=by
 match j,k1,k2 with
 |0,_,_=>exact h1|1,_,_=>exact h2
theorem Zsk(hu:X.A.units+80<fP):aX X (j8 .Eq) (r2 X.K Gh):=by
 intro pins s σ H x y v u Q I rx ry h;obtain⟨ι,M,a,b,S,ra,rb,h⟩:=h;have hu1:X.A.units<fP:=by omega
 unfold Gh at h;cases ha:Be a with
 |none=>rw[ha]at h;exact h.elim|some ni=>cases hb:Be b with
  |none=>rw[ha,hb]at h;exact h.elim|some mj=>
   obtain⟨n,i⟩:=ni;obtain⟨m,j⟩:=mj;rw[Zip ha]at ra;rw[Zip hb]at rb;rw[ha,hb]at h;dsimp only at h;cases hn:M[n]? with
   |none=>rw[hn]at h;exact h.elim|some o1=>cases o1 with
    | lst x1=>cases hm:M[m]? with
     |none=>rw[hn,hm]at h;exact h.elim|some o2=>cases o2 with
      | lst y1=>
       rw[hn,hm]at h;dsimp only at h;by_cases hnm:n=m
       .rw[if_pos hnm]at h;exact h.elim
       rw[if_neg hnm]at h;unfold KN at h;by_cases hp:x1.all (cD 50)=true/\y1.all (cD 50)=true
       .rw [if_pos hp]at h;obtain⟨P,vs,its,_,eu,t,r1,v1⟩:=vL I ra rx;obtain⟨P',ws,its2,_,ev,t',r2,v2⟩:=vL I rb ry;obtain⟨y0,vs',rfl,q1,r1⟩:=r1.cons_inv;obtain⟨y1',vs',rfl,q2,r1⟩:=r1.cons_inv;rw[r1.nil_inv]at v1;obtain⟨z0,ws',rfl,q3,r2⟩:=r2.cons_inv;obtain⟨z1',ws',rfl,q4,r2⟩:=r2.cons_inv;rw[r2.nil_inv]at v2;cases v1 with
        | @cons _ u0 _ _ w0 v1=>cases v1 with
         | @cons _ u1 _ _ w1 v1=>
          cases v1
          cases v2 with
          | @cons _ u2 _ _ w2 v2=>cases v2 with
           | @cons _ u3 _ _ w3 v2=>
            cases v2
            obtain⟨t1,e1⟩:=qO q2 w1;obtain⟨t2,e2⟩:=qO q4 w3;have hi:X.A.in1.units+70<fP:=by rw[units_in1];omega
            have L:=Zp0 hi I S hn hm hnm hp.1 hp.2 q1 q3 w0 w2;have N:pF X.A.in1 s u1 u3 (i==j):=by rw[e1,e2];exact Yi9 _ _ _ _
            rw[eu,ev];refine Qx t t' hu1 (Zs1 L N) X.prog X.w X.xe _ ⟨.bl (gj x1 y1&&(i==j)),H,I,?_,Zy.ok h S Rep.bl⟩;show Value.bool ((gj x1 y1&&((i==j)&&true))&&true)=Value.bool _;rw[uN,uN]
       .rw[if_neg hp]at h;exact h.elim
      |_=>rw[hn,hm]at h;exact h.elim
    |_=>rw[hn]at h;exact h.elim
end
set_option maxRecDepth 100000
section
variable {prog:Y5} {w:aK} {A:bj} {E:Yd->Yg->Prop} {s:Yg}
theorem ZlN:Jc (.type "zip") (nY "keys")=pure Yh:=by rw[YH,XD];kernel_rfl
theorem ZfJ:Jc (.type "zip") "__getattr__" =pure Yh:=by rw[YH,XD];kernel_rfl
theorem Zd2:entryFor table "zip.__getattribute__" =Ya Builtin.«object.__getattribute__»:=entryFor_alias (id':="object.__getattribute__") (by kernel_rfl) (by decide +kernel) (by decide +kernel) (by kernel_rfl)
theorem Zih(a:Ym)(xs:Array Yd)(sl:Array (Option Yd))(name:aj)(u:gY)(hmiss:Jc (.type "zip") name=pure Yh)(hname:(["__module__","__name__","__qualname__","__doc__","__annotations__"]:List aj).contains name=false)(hsz:name.length+100<=Y8):
  Meets (Builtin.«object.__getattribute__» ⟨[.ref a,.str name u],[]⟩) (λA R s=>s.heap.get? a=Ya {cls:=.type "zip",dict:=Yh,data:=.fields xs,slots:=sl}/\raisesAttr (.ref a) name A R s):=
 Meets.of_wp λprog w A R s hs=>by
  obtain⟨hp,g,d,tk,os⟩:=s;obtain⟨hx,hs⟩:=hs;have hT:(⟨hp,g,d,tk,os⟩:Yg).TypeIs (.ref a) "zip":=⟨_,hx,rfl⟩;unfold Builtin.«object.__getattribute__»
  repeat(any_goals(first|assumption|wp_step))
  simp only[hname,Es,if_false]
  repeat(any_goals(first|assumption|wp_step))
  exact wpAny_raiseAttrError hs.1 hs.2 (attrMsg_fits (by decide +kernel) hsz)
set_option maxRecDepth 8000 in
theorem Zk1{a:Ym}{sl:Array (Option Yd)}(hx:s.heap.get? a=Ya {cls:=.type "zip",dict:=Yh,data:=.fields xs,slots:=sl})(hA:A.handled=Yh)(h:∀h' tk,(∀b u,s.heap.get? b=Ya u->h'.get? b=Ya u)->Q Yh {s with heap:=h',toks:=tk}):Yz (Y4 prog w) A (Je (.ref a) (nY "keys")) Q E s:=by
 obtain⟨hp,g,d,tk,os⟩:=s;have hT:∀tk',(⟨hp,g,d,tk',os⟩:Yg).TypeIs (.ref a) "zip":=λ_=>⟨_,hx,rfl⟩;have f1:=sub_AttributeError;have f3:=F.slot_zip_getattribute.lookup;have f4:=F.slot_zip_getattribute.bind (.ref a);have f5:=ZfJ;unfold Je getAttrBy? getAttrBy
 repeat(any_goals(first|assumption|exact hT _|((with_reducible show Yz _ _ (call (Value.builtin "zip.__getattribute__") _ _) _ _ _);refine ut F.slot_zip_getattribute (hT _) Zd2 (F.args_zip_getattribute_2 _ _) (Zih a xs sl _ _ ZlN (by decide) (by rw[rK];decide)) ⟨hx,hA,λh' tk' e hx'=>?_⟩)|wp_step))
 obtain⟨t',u',he⟩:=hx'.there;show Yz _ _ (XS _ _ _ _ _ _ _) _ _ _;unfold XS
 repeat(any_goals(first|assumption|wp_step))
 all_goals exact h _ _ hx'.of.keeps
abbrev Bv(h:au)(z TI TO T:Ym)(b:Bool):Prop:=h.get? z=Ya {cls:=.type "zip",dict:=Yh,data:=.fields #[j_ T,.bool b,.bool false,.ref TI,.ref TO],slots:=#[]}
theorem Zk4{M:Model}{a:Ym}{Q:Option aD->Yg->Prop}(h:Q (s.heap.get? a) s):Yz M A (Pb a) Q E s:=λΓ p _=>by unfold Pb;rw[Sem.wp_loadIfAlive];exact h
theorem Znq{z TI TO T:Ym}{o:aD}{Q:Bool->Yg->Prop}(hz:Bv s.heap z TI TO T b)(hT:s.heap.get? T=Ya o)(h:∀h',Bv h' z TI TO T true->(∀c u,c≠z->s.heap.get? c=Ya u->h'.get? c=Ya u)->h'.objs.size=s.heap.objs.size->Q false {s with heap:=h'}):Yz (Y4 prog w) A (uI (.ref z)) Q E s:=by
 unfold uI;refine Yc (fO hz rfl (x:=j_ T) rfl ?_);show Yz _ _ (Pb ((T:Int).toNat)>>=λo=>_) _ _ _;refine Yc (Zk4 ?_);rw[qm,hT];show Yz _ _ (lJ (.ref z) 1>>=λo=>_) _ _ _;refine Yc (fO hz rfl (x:=.bool b) rfl ?_);cases b with
 |true=>exact Yk (h s.heap hz (λ_ _ _ q=>q) rfl)|false=>show Yz _ _ (setField (.ref z) 1 (.bool true)>>=λo=>_) _ _ _;exact Yc (wM hz (by simp) λg1 hz1 hs1=>Yk (h g1 hz1 (λc u hc q=>hs1.extBut _ _ hc q) hs1.1))
theorem Zog{z TI TO T i1 i2 l1 l2:Ym}{x y:Yd}{o:aD}{Q:Yd->Yg->Prop}(D:ZipApart z TI TO i1 i2 l1 l2)(hz:Bv s.heap z TI TO T b)(hT:s.heap.get? T=Ya o)(hTI:eZ s.heap TI (.ref i1) (.ref i2))(h1:cH b1 s.heap i1 l1 k1)(h2:cH b2 s.heap i2 l2 k2)(hl1:dO b1 s.heap l1 xs)(hl2:dO b2 s.heap l2 ys)(hx:xs[k1]?=Ya x)(hy:ys[k2]?=Ya y)(hQ:∀h',Bv h' z TI TO T true->cH b1 h' i1 l1 (k1+1)->cH b2 h' i2 l2 (k2+1)->eZ h' s.heap.objs.size x y ->
   (∀c o,c≠z->c≠i1->c≠i2->s.heap.get? c=Ya o->h'.get? c=Ya o)->Q (.ref s.heap.objs.size) {s with heap:=h'}):
  Yz (Y4 prog w) A (Builtin.«zip.__next__» ⟨[.ref z],[]⟩) (λfin s'=>∃v,fin= .done (.ret v)/\Q v s') E s:=by
 show Yz _ _ (lJ (.ref z) 2>>=λo=>_) _ _ _;refine Yc (fO hz rfl (x:=.bool false) rfl (show Yz _ _ (lJ (.ref z) 3>>=λo=>_) _ _ _ from ?_));refine Yc (fO hz rfl (x:=.ref TI) rfl (Yc (p6 hTI rfl ?_)));refine(show Yz _ _ (uI (.ref z)>>=λo=>_) _ _ _ from Yc ?_);refine Znq hz hT λg1 hz1 k1' z1=>?_;show Yz _ _ (forIn #[Value.ref i1,Value.ref i2] _ _>>=λo=>_) _ _ _;rw[←Yje];simp only[Em,Jk];refine Yc (Yc (Yc (mK (show Yz _ _ (Y7 (.ref i1)>>=λo=>_) _ _ _ from ?_))));refine Yc (nextK (h1.keep λo q=>k1' _ o D.i1z q) (hl1.keep λo q=>k1' _ o D.l1z q) hx λg2 h12 hs2=>Yk ?_);refine Yk (Yc (Yc (mK (show Yz _ _ (Y7 (.ref i2)>>=λo=>_) _ _ _ from ?_))));refine Yc (nextK (h2.keep λo q=>hs2.extBut _ o D.i12.symm (k1' _ o D.i2z q)) (hl2.keep λo q=>hs2.extBut _ o D.l2i1 (k1' _ o D.l2z q)) hy λg3 h23 hs3=>Yk ?_);refine Yk (Yk ?_);show Yz _ _ (newTuple [x,y]>>=λo=>_) _ _ _;refine Yc (wpAny_newTuple ?_);have hsz:g3.objs.size=s.heap.objs.size:=by rw[hs3.1,hs2.1,z1]
 have up:∀c o,g3.get? c=Ya o->(g3.push {cls:=.type "tuple",data:=.seq #[x,y]}).get? c=Ya o:=λc o q=>Yi _ q;refine Yk ⟨_,rfl,(show Q (.ref g3.objs.size) _ from ?_)⟩;rw[hsz];have hP:eZ (g3.push {cls:=.type "tuple",data:=.seq #[x,y]}) g3.objs.size x y:=Y1 _ rfl;rw[hsz]at hP;exact hQ _ (up _ _ (hs3.extBut _ _ D.i2z.symm (hs2.extBut _ _ D.i1z.symm hz1))) (h12.keep λo q=>up _ _ (hs3.extBut _ _ D.i12 q)) (h23.keep λo q=>up _ _ q) hP
  λc o c1 c2 c3 q=>up _ _ (hs3.extBut _ _ c3 (hs2.extBut _ _ c2 (k1' _ _ c1 q)))
theorem ZoT{z TI TO T i1 i2 l1 l2:Ym}{o:aD}{Q:Fin->Yg->Prop}(hh:A.handled=Yh)(D:ZipApart z TI TO i1 i2 l1 l2)(hz:Bv s.heap z TI TO T b)(hT:s.heap.get? T=Ya o)(hTI:eZ s.heap TI (.ref i1) (.ref i2))(h1:cH b1 s.heap i1 l1 k1)(h2:cH b2 s.heap i2 l2 k2)(hl1:dO b1 s.heap l1 xs)(hl2:dO b2 s.heap l2 ys)(hend:xs[k1]?=Yh\/ys[k2]?=Yh)(hE:∀h' e,(∀c o,c≠z->c≠i1->c≠i2->s.heap.get? c=Ya o->h'.get? c=Ya o)->(∃o,h'.get? e=Ya o/\o.cls= .type "StopIteration")->E (.ref e) {s with heap:=h'}):
  Yz (Y4 prog w) A (Builtin.«zip.__next__» ⟨[.ref z],[]⟩) Q E s:=by
 show Yz _ _ (lJ (.ref z) 2>>=λo=>_) _ _ _;refine Yc (fO hz rfl (x:=.bool false) rfl (show Yz _ _ (lJ (.ref z) 3>>=λo=>_) _ _ _ from ?_));refine Yc (fO hz rfl (x:=.ref TI) rfl (Yc (p6 hTI rfl ?_)));refine(show Yz _ _ (uI (.ref z)>>=λo=>_) _ _ _ from Yc ?_);refine Znq hz hT λg1 hz1 k1' z1=>?_;show Yz _ _ (forIn #[Value.ref i1,Value.ref i2] _ _>>=λo=>_) _ _ _;rw[←Yje];simp only[Em,Jk];refine Yc (Yc (Yc (mK (show Yz _ _ (Y7 (.ref i1)>>=λo=>_) _ _ _ from ?_))));have h11:cH b1 g1 i1 l1 k1:=h1.keep λo q=>k1' _ o D.i1z q;have DN:dO b1 g1 l1 xs:=hl1.keep λo q=>k1' _ o D.l1z q;cases hx:xs[k1]? with
 |none=>refine Yc (Li hh h11 DN hx λg2 e hs2 he=>?_);exact hE g2 e (λc o c1 c2 _ q=>hs2 _ _ c2 (k1' _ _ c1 q)) he|some x=>
  have hy:ys[k2]?=Yh:=by rcases hend with q|q;rw[hx]at q;cases q;exact q
  refine Yc (nextK h11 DN hx λg2 h12 hs2=>Yk ?_);refine Yk (Yc (Yc (mK (show Yz _ _ (Y7 (.ref i2)>>=λo=>_) _ _ _ from ?_))));refine Yc (Li hh (h2.keep λo q=>hs2.extBut _ o D.i12.symm (k1' _ o D.i2z q)) (hl2.keep λo q=>hs2.extBut _ o D.l2i1 (k1' _ o D.l2z q)) hy λg4 e qQ he=>?_);exact hE g4 e (λc o c1 c2 c3 q=>qQ _ _ c3 (hs2.extBut _ _ c2 (k1' _ _ c1 q))) he
inductive ZS(b1 b2:Bool)(z TI TO i1 i2 l1 l2:Ym)(xs ys:Array Yd)(i:Nat)(h:au):Prop
 |mk (zz:(jt h z TI TO .none/\∃a b,eZ h TO a b)\/∃T b o,Bv h z TI TO T b/\h.get? T=Ya o/\T≠i1/\T≠i2/\T≠z) (pp:eZ h TI (.ref i1) (.ref i2)) (j1:cH b1 h i1 l1 i) (j2:cH b2 h i2 l2 i) (o1:dO b1 h l1 xs) (o2:dO b2 h l2 ys)
theorem ZqX{z TI TO i1 i2 l1 l2:Ym}{x y:Yd}(D:ZipApart z TI TO i1 i2 l1 l2)(Z:ZS b1 b2 z TI TO i1 i2 l1 l2 xs ys i s.heap)(hx:xs[i]?=Ya x)(hy:ys[i]?=Ya y)(hQ:∀h',ZS b1 b2 z TI TO i1 i2 l1 l2 xs ys (i+1) h'->eZ h' s.heap.objs.size x y->(∀c o,c≠z->c≠TO->c≠i1->c≠i2->s.heap.get? c=Ya o->h'.get? c=Ya o)->Q (Ya (.ref s.heap.objs.size)) {s with heap:=h'}):
  Yz (Y4 prog w) A (iy (.ref z)) Q E s:=by
 obtain⟨zz,pp,j1,j2,o1,o2⟩:=Z;have g1:=j1.there;have g2:=j2.there;rcases zz with⟨hz,a,b,hTO⟩|⟨T,b,o,hz,hT,n1,n2,n3⟩
 .refine Zkd D hz pp hTO j1 j2 o1 o2 hx hy λh' hz' AfV hi1 hi2 hP hk=>hQ h' ⟨.inr ⟨s.heap.objs.size,false,_,hz',hP,?_,?_,uH (Yu hz)⟩,hk _ _ D.TIz D.TITO D.TIi1 D.TIi2 pp,hi1,hi2,o1.keep λo q=>hk _ _ D.l1z D.l1TO D.l1i1 D.l1i2 q,o2.keep λo q=>hk _ _ D.l2z D.l2TO D.l2i1 D.l2i2 q⟩ hP hk
  .obtain⟨u,q,_⟩:=g1;exact uH (Yu q)
  .obtain⟨u,q,_⟩:=g2;exact uH (Yu q)
 .have hTy:s.TypeIs (.ref z) "zip":=⟨_,hz,rfl⟩;unfold iy;exact Yc (wR (rG (name:=nY "__next__") hTy uP (rJ uP hTy Jz
   (Zog D hz hT pp j1 j2 o1 o2 hx hy λh' hz' hi1 hi2 hP hk=>Yk (hQ h' ⟨.inr ⟨T,true,o,hz',hk _ _ n3 n1 n2 hT,n1,n2,n3⟩,hk _ _ D.TIz D.TIi1 D.TIi2 pp,hi1,hi2,o1.keep λo q=>hk _ _ D.l1z D.l1i1 D.l1i2 q,o2.keep λo q=>hk _ _ D.l2z D.l2i1 D.l2i2 q⟩ hP λc o c1 _ c3 c4 q=>hk c o c1 c3 c4 q)) (Jy _))))
theorem Zum{z TI TO i1 i2 l1 l2:Ym}(hh:A.handled=Yh)(D:ZipApart z TI TO i1 i2 l1 l2)(Z:ZS b1 b2 z TI TO i1 i2 l1 l2 xs ys i s.heap)(hend:xs[i]?=Yh\/ys[i]?=Yh)(hQ:∀h',(∀c o,c≠z->c≠TO->c≠i1->c≠i2->s.heap.get? c=Ya o->h'.get? c=Ya o)->Q Yh {s with heap:=h'}):
  Yz (Y4 prog w) A (iy (.ref z)) Q E s:=by
 obtain⟨zz,pp,j1,j2,o1,o2⟩:=Z;rcases zz with⟨hz,a,b,hTO⟩|⟨T,b,o,hz,hT,n1,n2,n3⟩
 .exact Zlo hh D hz pp hTO j1 j2 o1 o2 hend hQ
 .have hTy:s.TypeIs (.ref z) "zip":=⟨_,hz,rfl⟩;unfold iy;refine Yc (wR (rG (name:=nY "__next__") hTy uP (rJ uP hTy Jz
   (ZoT hh D hz hT pp j1 j2 o1 o2 hend λh' e hk he=>?_) (Jy _))))
  obtain⟨o,ho,hc⟩:=he;exact Yc (OJ (T:="StopIteration") (b:=true) ⟨o,ho,hc⟩ O5 (Yk (hQ _ λc o c1 _ c3 c4 q=>hk c o c1 c3 c4 q)))
end
set_option maxRecDepth 100000
variable{ps:List (Key×Yd)}
section
variable {prog:Y5} {w:aK} {A:bj} {E:Yd->Yg->Prop} {s:Yg}
theorem ZS.keep{z TI TO i1 i2 l1 l2 d:Ym}{h':au}(Z:ZS b1 b2 z TI TO i1 i2 l1 l2 xs ys i h)(nd:∀c∈[z,TI,TO,i1,i2,l1,l2],c≠d)(k:∀c o,c≠d->h.get? c=Ya o->h'.get? c=Ya o)(kd:∃o,h'.get? d=Ya o):ZS b1 b2 z TI TO i1 i2 l1 l2 xs ys i h':=by
 obtain⟨zz,pp,j1,j2,o1,o2⟩:=Z;refine⟨?_,k _ _ (nd TI (by simp)) pp,j1.keep λo q=>k _ _ (nd i1 (by simp)) q,j2.keep λo q=>k _ _ (nd i2 (by simp)) q,o1.keep λo q=>k _ _ (nd l1 (by simp)) q,o2.keep λo q=>k _ _ (nd l2 (by simp)) q⟩;rcases zz with⟨hz,a,b,hTO⟩|⟨T,b,o,hz,hT,n1,n2,n3⟩
 .exact .inl ⟨k _ _ (nd z (by simp)) hz,a,b,k _ _ (nd TO (by simp)) hTO⟩
 .by_cases e:T=d
  .obtain⟨o',q⟩:=kd;exact .inr ⟨T,b,o',k _ _ (nd z (by simp)) hz,by rw[e];exact q,n1,n2,n3⟩
  .exact .inr ⟨T,b,o,k _ _ (nd z (by simp)) hz,k _ _ e hT,n1,n2,n3⟩
def Bw(prog:Y5)(w:aK)(ps:List (Key×Yd))(xs ys:Array Yd):Prop:=ps.length=iM xs.size ys.size/\∀(j:Nat) q,ps[j]?=Ya q->∃x,xs[j]?=Ya x/\ys[j]?=Ya q.2/\(gR prog w).is q.1 x=true
theorem ZnU{d z TI TO i1 i2 l1 l2:Ym}{res:Yd}(hh:A.in1.handled=Yh)(D:ZipApart z TI TO i1 i2 l1 l2)(nd:∀c∈[z,TI,TO,i1,i2,l1,l2],c≠d)(kp:Bw prog w ps xs ys)(hz:ps.length<=100000):
  ∀(k i:Nat) (s:Yg) (kvs:List (Key×Yd)) {R:p_->Yg->Prop},ps.length-i=k->i<=ps.length->ZS b1 b2 z TI TO i1 i2 l1 l2 xs ys i s.heap->s.heap.DictOf (gR prog w) d kvs->kvs.length<=i ->
   (∀h' tk,h'.DictOf (gR prog w) d (PySem.merged kvs (ps.drop i))->(∀b o,b≠d->b≠z->b≠TO->b≠i1->b≠i2->s.heap.get? b=Ya o->h'.get? b=Ya o)->R (.ok (.ret res)) {s with heap:=h',toks:=tk}) ->
   j9 (Y4 prog w) A (.builtin "dict.update.loop" ⟨[.ref d,.ref z,j_ i,res],[]⟩) R s:=by
 intro k
 induction k with
 | zero=>
  intro i s kvs R hk hi st dd hkl hR;have hin:i=ps.length:=by omega
  refine O1 Zfq ?_;rw[Yih Lb _];show Yz _ A.in1 (iy (.ref z)>>=_) _ _ s;refine Yc (Zum hh D st ?_ λh' kk=>?_)
  .have:=kp.1;by_cases q:xs.size<=i
   .left;simp;omega
   .right;simp;omega
  show Yz _ A.in1 (Builtin.Dict.addKeywords d []>>=_) _ _ _;refine Yc (Yk (Yk (hR h' _ ?_ λb o _ hb hI h3 h4 e=>kk b o hb hI h3 h4 e)));rw[List.drop_of_length_le (by omega)];obtain⟨o,es,ep,ho,r⟩:=dd;exact⟨o,es,ep,kk d o (nd z (by simp)).symm (nd TO (by simp)).symm (nd i1 (by simp)).symm (nd i2 (by simp)).symm ho,r⟩
 | succ k ih=>
  intro i s kvs R hk hi st dd hkl hR;have hlt:i<ps.length:=by omega
  obtain⟨x,hx,hy,hkey⟩:=kp.2 i ps[i] (Y3 hlt);refine O1 Zfq ?_;rw[Yih Lb _];show Yz _ A.in1 (iy (.ref z)>>=_) _ _ s;refine Yc (ZqX D st hx hy λh1 st1 hP kk1=>?_);have hld:d<s.heap.objs.size:=by obtain⟨o,_,_,ho,_⟩:=dd;exact Yu ho
  have dd1:h1.DictOf (gR prog w) d kvs:=by obtain⟨o',es,ep,ho',r⟩:=dd;exact⟨o',es,ep,kk1 d o' (nd z (by simp)).symm (nd TO (by simp)).symm (nd i1 (by simp)).symm (nd i2 (by simp)).symm ho',r⟩
  dsimp only;refine Yc (mK (Yc (wpAny_tryCatch ?_)));unfold Builtin.Dict.pairItems;refine Yc (Ea (T:="tuple") ⟨_,hP,rfl⟩ ?_);rw[if_pos (by decide)];refine Yc ?_;unfold Pu;refine Yc (wpAny_load hP ?_);refine Yk (Yk ?_);show Yz _ A.in1 (zx [x,ps[i].2] (dictSet d x ps[i].2)) _ _ _;refine mK (wpAny_dictSet_pairs hkey dd1 (λh2 dd2 sb=>?_) (by rw[rK];omega));refine Yk ⟨plainId_quiet Lb _,?_⟩;show j9 (Y4 prog w) A (.builtin "dict.update.loop" ⟨[.ref d,.ref z,j_ ((i:Int)+1),res],[]⟩) R _;have e1:((i:Int)+1)=((i+1:Nat):Int):=rfl;rw[e1];have k2:∀b u,b≠d->b≠z->b≠TO->b≠i1->b≠i2->s.heap.get? b=Ya u->h2.get? b=Ya u:=λb u hb h1 h2 h3 h4 e=>(sb.2 b hb).trans (kk1 b u h1 h2 h3 h4 e);refine ih (i+1) _ (zF kvs ps[i].1 ps[i].2) (by omega) hlt (st1.keep nd (λc o hc q=>(sb.2 c hc).trans q) ?_) dd2 ?_ ?_
  .obtain⟨o,_,_,ho,_⟩:=dd2;exact⟨o,ho⟩
  .have:=(show(zF kvs ps[i].1 ps[i].2).length<=kvs.length+1 from by unfold zF;split <;>simp);omega
  .intro h' tk uY T7;refine hR h' tk ?_ λb u hb h1 h2 h3 h4 e=>T7 b u hb h1 h2 h3 h4 (k2 b u hb h1 h2 h3 h4 e);rw[zG hlt];exact uY
theorem ZpD{z TI TO i1 i2 l1 l2:Ym}{Q:Yd->Yg->Prop}(hA:A.handled=Yh)(D:ZipApart z TI TO i1 i2 l1 l2)(hZ:jt s.heap z TI TO .none)(hTO:∃a b,eZ s.heap TO a b)(hTI:eZ s.heap TI (.ref i1) (.ref i2))(j1:cH b1 s.heap i1 l1 0)(j2:cH b2 s.heap i2 l2 0)(o1:dO b1 s.heap l1 xs)(o2:dO b2 s.heap l2 ys)(kp:Bw prog w ps xs ys)(hz:ps.length<=100000)(h:∀h' tk,h'.DictOf (gR prog w) s.heap.objs.size (PySem.merged [] ps)->(∀b o,b≠z->b≠TO->b≠i1->b≠i2->s.heap.get? b=Ya o->h'.get? b=Ya o)->Q (.ref s.heap.objs.size) {s with heap:=h',toks:=tk}):
  Yz (Y4 prog w) A (call (.type "dict") [.ref z]) Q E s:=by
 have nlt:∀c∈[z,TI,TO,i1,i2,l1,l2],c<s.heap.objs.size:=λc hc=>by
  obtain⟨a,b,hTO⟩:=hTO;obtain⟨u1,q1,_⟩:=j1.there;obtain⟨u2,q2,_⟩:=j2.there;simp only[Y6,zK,or_false]at hc;rcases hc with rfl|rfl|rfl|rfl|rfl|rfl|rfl
  .exact Yu hZ
  .exact Yu hTI
  .exact Yu hTO
  .exact Yu q1
  .exact Yu q2
  .exact o1.there
  .exact o2.there
 refine callType_codes (Q₁:=λobj s₁=>obj= .ref s.heap.objs.size/\s₁={s with heap:=s.heap.push {cls:=.type "dict",data:=.dict #[]}}) F.kt_called_dict (F.kt_typeCall_dict_1 _) F.entry_dict_init (kt_code_dict_new _ ⟨rfl,rfl⟩) ?_;rintro obj s₁ ⟨rfl,rfl⟩;have hnew:(s.heap.push {cls:=.type "dict",data:=.dict #[]}).DictOf (gR prog w) s.heap.objs.size []:=Yku s.heap;have hk1:∀b u,s.heap.get? b=Ya u->(s.heap.push {cls:=.type "dict",data:=.dict #[]}).get? b=Ya u:=λb u q=>Yi _ q;refine⟨hnew.typeIs,F.args_dict_init_2 _ _,?_⟩;unfold Builtin.«dict.__init__»;refine Yc ?_;unfold Builtin.Dict.selfAndRest;refine Yc (wpAny_notOrdered_dict hnew.typeIs ?_);show Yz _ _ (pure (s.heap.objs.size,[Value.ref z])) _ _ _;refine Yk ?_;show Yz _ _ (Yg2 "dict.__init__" s.heap.objs.size (.ref z) [] .none) _ _ _;unfold Yg2;refine Yc (Ea (T:="zip") ⟨_,hk1 _ _ hZ,rfl⟩ ?_);rw[if_pos (by decide)];refine Yc (Zk1 (hk1 _ _ hZ) hA λh2 tk2 k2=>?_);simp only[Option.isNone_none,if_true];refine Yc (zq ?_);have d2:h2.DictOf (gR prog w) s.heap.objs.size []:=by obtain⟨o',es,ep,ho',r⟩:=hnew;exact⟨o',es,ep,k2 _ _ ho',r⟩
 have k0:∀b u,s.heap.get? b=Ya u->h2.get? b=Ya u:=λb u q=>k2 _ _ (hk1 _ _ q);refine Yc (wpAny_pyIter_zip (k0 _ _ hZ) ?_);have st:ZS b1 b2 z TI TO i1 i2 l1 l2 xs ys 0 h2:=by obtain⟨a,b,hTO⟩:=hTO;exact⟨.inl ⟨k0 _ _ hZ,a,b,k0 _ _ hTO⟩,k0 _ _ hTI,j1.keep λo q=>k0 _ _ q,j2.keep λo q=>k0 _ _ q,o1.keep λo q=>k0 _ _ q,o2.keep λo q=>k0 _ _ q⟩
 refine Yk ⟨plainId_quiet Lb _,ZnU (prog:=prog) (w:=w) (A:=A.in1) hA D (λc hc=>eF (nlt c hc)) kp hz ps.length 0 _ [] rfl (eG _) st d2 (eG _) λh' tk uY T7=>?_⟩;exact⟨rfl,h h' tk uY λb u b1 b2 b3 b4 q=>T7 b u (eF (Yu q)) b1 b2 b3 b4 (k0 _ _ q)⟩
end
set_option maxRecDepth 100000
section
variable {X:Cx} {K:Yb} {H:Hp} {ι:List Ym} {prog:Y5} {w:aK}
theorem ZnI{ux uy:List Yd}{k:Key}{u v:Yd}(hk:(gR prog w).is k u=true)(h:Bw prog w ps ux.toArray uy.toArray):Bw prog w ((k,v)::ps) (u::ux).toArray (v::uy).toArray:=by
 refine⟨?_,λj q hq=>?_⟩
 .have:=h.1;simp only[Ys,Yo]at this ⊢;omega
 .cases j with
  |zero=>rw[←gP hq];exact⟨u,rfl,rfl,hk⟩|succ j=>obtain⟨x,h1,h2,h3⟩:=h.2 j q hq;exact⟨x,by simpa using h1,by simpa using h2,h3⟩
theorem Ztp:∀{x y:List D} {l:List (a_×D)} {vx vy:List V} {ux uy:List Yd},pM (xR x y)=Ya l->Zv K H ι x vx->Zv K H ι y vy->Vals vx ux->Vals vy uy ->
  ∃(ws:List (Key×V)) (ps:List (Key×Yd)),bK K H ι l ws/\KV ws ps/\Bw prog w ps ux.toArray uy.toArray/\ps.length=l.length:=by
 intro x
 induction x with
 |nil=>intro y l vx vy ux uy h rx ry hx hy;rw[rx.nil_inv]at hx;cases hx;have e:l=[]:=(gP h).symm;rw[e];exact⟨[],[],bK.nil,.nil,⟨by simp,λj q z=>e_ z⟩,rfl⟩|cons a x ih=>
  intro y l vx vy ux uy h rx ry hx hy;cases y with
  |nil=>rw[ry.nil_inv]at hy;cases hy;have e:l=[]:=(gP h).symm;rw[e];exact⟨[],[],bK.nil,.nil,⟨by simp,λj q z=>e_ z⟩,rfl⟩|cons b y=>
   have h:pM (.tup [a,b]::xR x y)=Ya l:=h;obtain⟨a',b',k,l',ed,hk,hx',el⟩:=Zma h;injection ed with ed;injection ed with e1 ed;injection ed with e2 ed;rw[←e1]at hk;rw[el,←e2];obtain⟨v1,vx',rfl,r1,rx⟩:=rx.cons_inv;obtain⟨v2,vy',rfl,r2,ry⟩:=ry.cons_inv;cases hx with
   | @cons _ u1 _ _ q1 hx=>cases hy with
    | @cons _ u2 _ _ q2 hy=>obtain⟨ws,ps,kr,kv,kp,hl⟩:=ih hx' rx ry hx hy;exact⟨(dk k,v2)::ws,(dk k,u2)::ps,bK.cons r2 kr,.cons ⟨rfl,q2⟩ kv,ZnI (Ke (by rw[←Tq hk r1];exact q1)) kp,congrArg Nat.succ hl⟩
end
section
variable {X:Cx} {a b:Expr} {p p1 pos pos1:aM} {f g:E3}
inductive Zxt(X:Cx)(H1:Hp)(vs:List V)(Q:VK):Prop
 |mk (b1 b2:Bool) (l1 l2:Ym) (xs ys:List V) (e:vs=[.ref l1,.ref l2]) (s1:yp b1 X.K H1 l1 xs) (s2:yp b2 X.K H1 l2 ys)
  (q:∀ux uy,Vals xs ux->Vals ys uy->∃ws ps,KV ws ps/\Bw X.prog X.w ps ux.toArray uy.toArray/\ps.length<=100000/\∀p,H1 p=Yh->Q (.ref p) (upd H1 p (.dK (Ag [] ws))))
theorem ZlJ{ta:TA}(hc:X.calm=true)(hg:Gl X "zip")(hm:X.mg "zip" =Yh)(hgd:Gl X "dict")(hmd:X.mg "dict" =Yh)(ha:PA X [a,b] ta)(hs:Yq [a,b] X.env=[(false,aG a X.env),(false,aG b X.env)])(hs2:Yq [b] X.env=[(false,aG b X.env)])(he:Yq [.Call (.Name "zip" p1) [a,b] [] pos1] X.env=[(false,aG (.Call (.Name "zip" p1) [a,b] [] pos1) X.env)]):
  PE X (.Call (.Name "dict" p) [.Call (.Name "zip" p1) [a,b] [] pos1] [] pos) (λσ H Q=>ta σ H λvs H1=>Zxt X H1 vs Q):=by
 intro pins s σ H Q I h;refine Call_ (xF I hgd hmd Zse (Ez ?_ (by rw[he];rfl) rfl));rw[he];refine zZ (Call_ (xF I hg hm Zon (Ez (aH (ha pos1 pins s σ H _ I h) λus s1 ak=>?_) (by rw[hs,hs2]) (by rw[hs2];rfl))));obtain⟨vs,H1,I1,r1,b1,b2,l1,l2,xs,ys,e,hx,hy,q⟩:=ak;subst e;cases r1 with
 | cons r rr=>
  cases rr with
  | cons r' rr=>
   cases rr
   cases r
   cases r'
   obtain⟨its,rv,q1⟩:=yp.at I1 hx;obtain⟨its2,rv2,q2⟩:=yp.at I1 hy;obtain⟨ws,ps,kv,kp,hz,hQ⟩:=q its its2 rv rv2;refine Zoo q1 q2 λh' hZ hTI hTO hi1 hi2 hk=>JH ?_;have hle:s1.heap.objs.size<=h'.objs.size:=Yv (rY _ 4) (zT (Yu hZ));refine ZpD (s:={s1 with heap:=h'}) (I.ok.hd hc) (zipApart_new q1.there q2.there) hZ ⟨_,_,hTO⟩ hTI hi1 hi2 (q1.keep λo q=>hk _ _ q) (q2.keep λo q=>hk _ _ q) kp hz λh2 tk dd kk=>?_;refine⟨.ref h'.objs.size,upd H1 h'.objs.size (.dK (Ag [] ws)),?_,rfl,hQ _ (I1.hok.fresh hle)⟩;refine I1.laid (λc o q=>?_) hle (ZoV ?_ ?_ (kv.merge (kvs:=[]) (vs:=[]) .nil) dd)
   .have hlt:=Yu q;have hn:∀m,c≠s1.heap.objs.size+m:=λm=>eF (Yn hlt (rY _ _));exact kk c o (hn 4) (hn 3) (hn 0) (hn 1) (hk c o q)
   .have h1:=ZfQ ws [];have:=kv.length;rw[nW]at h1;rw[rK];omega
   .exact beq_eq_false_iff_ne.mpr (bW (eF (Yn I1.big hle)))
theorem ZkB{d:D}{v:V}{x:List D}{l:List (Nat×List D)}(S:ao K H ι M)(r:Rep K H ι d v)(e:Gf M d=Ya (x,l)):∃b a,v= .ref a/\∃vs,yp b K H a vs/\Zv K H ι x vs:=by
 cases d with
 |tup ds=>obtain⟨a,vs,rfl,s,r⟩:=r.jh;cases e;exact⟨false,a,rfl,vs,s,r⟩|ref n=>
  have e:(match M[n]? with|some (.lst x)=>Ya (x,[(n,x)])|_=>Yh)=Ya (x,l):=e;cases hm:M[n]? with
  |none=>rw[hm]at e;exact e_ e|some o=>cases o with
   |lst ds=>rw[hm]at e;obtain⟨a,ha,rfl⟩:=r.fK;obtain⟨vs,q,rr⟩:=S.obj n _ a hm ha;cases e;exact⟨true,a,rfl,vs,cB.of q,rr⟩|_=>rw[hm]at e;exact e_ e
 |_=>exact e_ e
theorem Zn1(hc:X.calm=true)(hm:X.mg "zip" =Yh)(hmd:X.mg "dict" =Yh)(h1:C3 X a f)(h2:C3 X b g)(hg:Gl X "zip":=by rfl)(hgd:Gl X "dict":=by rfl)(hs:Yq [a,b] X.env=[(false,aG a X.env),(false,aG b X.env)]:=by rfl)(hs2:Yq [b] X.env=[(false,aG b X.env)]:=by rfl)(hs':Yq (a::[b]) X.env=(false,aG a X.env)::Yq [b] X.env:=by rfl)(hs'':Yq (b::[]) X.env=(false,aG b X.env)::Yq [] X.env:=by rfl)(he:Yq [.Call (.Name "zip" p1) [a,b] [] pos1] X.env=[(false,aG (.Call (.Name "zip" p1) [a,b] [] pos1) X.env)]:=by rfl):
  C3 X (.Call (.Name "dict" p) [.Call (.Name "zip" p1) [a,b] [] pos1] [] pos) (Gg f g):=
 (ZlJ hc hg hm hgd hmd (Zb h1 (Zb h2 Zf hs'') hs') hs hs2 he).imp λσ H Q ak=>by
  obtain⟨ι,M,env,S,E,h⟩:=ak;obtain⟨d,M1,e1,h⟩:=Zy.bind h;obtain⟨d2,M2,e2,h⟩:=Zy.bind h;refine⟨ι,M,env,S,E,?_⟩;have e3:Za f (Za g Ze) env M= .ok [d,d2] M2:=by simp only[Za,Ze,R3.bind,e1,e2]
  rw[e3];intro vs H1 ι1 x1 S1 r1;obtain⟨v,ws,rfl,r,q⟩:=r1.cons_inv;obtain⟨v2,nq,rfl,r2,q2⟩:=q.cons_inv;have:=q2.nil_inv;subst this;cases q1:Gf M2 d with
  |none=>simp only[q1]at h;exact h.elim|some xl=>
   cases q2:Gf M2 d2 with
   |none=>simp only[q1,q2]at h;exact h.elim|some yk=>
    obtain⟨x,l⟩:=xl;obtain⟨y,k⟩:=yk;simp only[q1,q2]at h;unfold KJ at h;cases hp:pM (xR x y)with
    |none=>rw[hp]at h;exact h.elim|some l3=>
     rw[hp]at h;dsimp only at h;by_cases hl:l3.length<=100000
     .rw[if_pos hl]at h;obtain⟨b1,a1,rfl,xs,w1,f1⟩:=ZkB S1 r q1;obtain⟨b2,a2,rfl,ys,w2,f2⟩:=ZkB S1 r2 q2;refine⟨b1,b2,a1,a2,xs,ys,rfl,w1,w2,λux uy hx hy=>?_⟩;obtain⟨ws,ps,kr,kv,kp,hlen⟩:=Ztp (prog:=X.prog) (w:=X.w) hp f1 f2 hx hy;refine⟨ws,ps,kv,kp,by rw[hlen];exact hl,λp hp=>?_⟩;obtain⟨x2,S2,r2⟩:=S1.dct hp (bK.merge (kvs:=[]) (ws:=[]) kr bK.nil);exact(h.up x1) _ _ _ x2 S2 r2
     .rw[if_neg hl]at h;exact h.elim
end
section
variable {X:Cx} {any:Bool} {o i e c1:Expr} {f g h:E3} {u w:S3} {pos pos' apos cpos:aM}
theorem ZqQ{x y:List Yc6}(hc:j4 X c1 f)(ha:jC X any x u)(hb:jC X any y w)(he:∀whole,isTrue c1 X.env whole=(do let v ←whole;zu c1.pos;zx [v] (truthy v)):=by intro _;rfl):oH X any (.If c1 x y pos) (aV f u w):=(Q0 (QX hc he) ha hb).imp λD σ H ak=>by
 obtain⟨ι,M,env,S,E,h⟩:=ak;refine⟨ι,M,env,S,E,?_⟩;unfold aV at h;cases q:f env M with
 | ok d M1=>
  rw[q]at h;cases d with
  |bl k=>
   intro v H1 ι1 x1 S1 r1;refine⟨k,r1.j6,?_⟩;cases k with
   |true=>rw[if_pos rfl];exact⟨ι1,M1,env,S1,E.mono x1,jZ.up x1 (λ_=>rfl) h⟩|false=>rw[if_neg (by decide)];exact⟨ι1,M1,env,S1,E.mono x1,jZ.up x1 (λ_=>rfl) h⟩
  |_=>exact h.elim
 |exc x M1=>rw[q]at h;exactλa C H' ι' x1 S1 r1 c1 a' C' e1 e2=>by cases e1;cases e2;exact h σ a C H' ι' (λ_=>rfl) x1 S1 r1 c1|bad=>rw[q]at h;exact h.elim
theorem ZlG(hp:Jd (Y4 X.prog X.w) X.A X.env X.xe)(hc:j4 X c1 f)(hb:jC X true body u)(he:∀whole,isTrue c1 X.env whole=(do let v ←whole;zu c1.pos;zx [v] (truthy v)):=by intro _;rfl):oH X true (.While c1 body [] pos) (FW f u):=(Zlj hp (QX hc he) hb).imp λD σ H ak=>by
 obtain⟨ι,M,env,S,E,h⟩:=ak;refine⟨λm σ2 H2=>∃ι2 M2 dM,ao X.K H2 ι2 M2/\aY X.K H2 ι2 dM σ2/\jZ X true σ2 H2 ι2 D (g_ f u m dM M2),⟨1000000,ι,M,env,S,E,h⟩,?_⟩;rintro m σ2 H2 ⟨ι2,M2,dM,S2,E2,h2⟩;cases m with
 |zero=>exact h2.elim|succ m=>
  refine⟨ι2,M2,dM,S2,E2,?_⟩;rw[oA]at h2;cases q:f dM M2 with
  |exc x M1=>rw[q]at h2;exactλa C H' ι' x1 S1 r1 c1 a' C' e1 e2=>by cases e1;cases e2;exact h2 σ2 a C H' ι' (λ_=>rfl) x1 S1 r1 c1|bad=>rw[q]at h2;exact h2.elim|ok d M1=>
   rw[q]at h2;cases d with
   | bl k=>
    intro v H3 ι3 x3 S3 r3;refine⟨k,r3.j6,?_⟩;cases k with
    |false=>rw[if_neg (by decide)];exact h2 σ2 H3 ι3 x3 S3 (E2.mono x3)|true=>
     rw[if_pos rfl];refine⟨λσ' H'=>∃ι4 M4 iI,ao X.K H' ι4 M4/\aY X.K H' ι4 iI σ'/\jZ X true σ' H' ι4 D (g_ f u m iI M4),λσ' H' q=>⟨m,zQ _,q⟩,ι3,M1,dM,S3,E2.mono x3,?_⟩;have h3:=jZ.up (any:=true) (σ1:=σ2) x3 (λz=>nomatch z) h2;cases qu:u dM M1 with
     |nx e' M'=>simp only[qu]at h3;exactλσ' H' ι' x' S' E'=>⟨ι',M',e',S',E',h3.up x' (λz=>nomatch z)⟩|ct e' M'=>simp only[qu]at h3;exactλσ' H' ι' x' S' E'=>⟨ι',M',e',S',E',h3.up x' (λz=>nomatch z)⟩|bk e' M'=>simp only[qu]at h3;exact h3|rt d M'=>simp only[qu]at h3;exact h3
     |exc x' M'=>simp only[qu]at h3;exact h3|bad=>simp only[qu]at h3;exact h3.elim
   |_=>exact h2.elim
theorem Zks(hu:X.A.units+80<fP)(ho:C3 X.eO o f)(hi:C3 X.eO i g)(hv:j4 X e h)(hs:nO e (Ya (.Subscript o i pos')) pos.line X.env=pure false:=by rfl):oH X any (.Assign [.Subscript o i pos'] e pos) (vo f g h):=(Zq8 (hu1 hu) (PE.eO ho) (PE.eO hi) hv hs).imp λD' σ H ak=>by
 obtain⟨ι,M,env,S,E,hh⟩:=ak;refine⟨ι,M,env,S,E,?_⟩;unfold vo at hh;cases q:h env M with
 |bad=>rw[q]at hh;exact hh.elim|exc x M1=>rw[q]at hh;exactλa C H' ι' x1 S1 r1 c1 a' C' e1 e2=>by cases e1;cases e2;exact hh σ a C H' ι' (λ_=>rfl) x1 S1 r1 c1|ok d M1=>
  rw[q]at hh;have hh:=TJ (X:=X) hh;intro v H1 ι1 x1 S1 r1;obtain⟨d',M1',b,M2,k,M3,e1,e2,e3,hh⟩:=Zre (ZkJ (f:=e3 FP (Zvv d) f g) E hh);cases e1;refine⟨ι1,M1,env,S1,E.mono x1,?_⟩;rw[e2];intro x H2 ι2 x2 S2 r2;refine⟨ι2,M2,env,S2,(E.mono x1).mono x2,?_⟩;rw[e3];intro y H3 ι3 x3 S3 r3;cases b with
  | ref n=>
   simp only[Zjj]at hh;cases hn:M3[n]? with
   |none=>simp only[hn]at hh;exact hh.elim|some ob=>
    cases ob with
    |lst _=>simp only[hn]at hh;exact hh.elim|dJ _=>simp only[hn]at hh;exact hh.elim|ins _ _=>simp only[hn]at hh;exact hh.elim|dct kvs=>
     cases hk:gF k with
     |none=>simp only[hn,hk]at hh;exact hh.elim|some kk=>
      simp only[hn,hk]at hh;split at hh
      .rename_i hz;obtain⟨ad,ha,rfl⟩:=(r2.mono x3).fK;obtain⟨ws,hw,kr⟩:=S3.obj n _ ad hn ha;obtain⟨x4,S4⟩:=S3.Adb (.inr (.inr (.inl ⟨_,hw⟩))) ha (kr.put (k:=kk) ((r1.mono x2).mono x3));refine⟨ad,_,rfl,?_,hh .non _ _ (((x1.trans x2).trans x3).trans x4) S4 Rep.non⟩;rw[Tq hk r3];exact xK.k hw (by rw[kr.length];exact Yn hz lq)
      .exact hh.elim
  |_=>exact hh.elim
theorem Zuh(ho:C3 X.eO o f)(he:j4 X e h)(hbase:p7 o "append" X.env (aG o X.env)=aG o X.env:=by rfl)(hfew:((dm cpos (Yq [e] X.env)).all (λx=>!x.1)&&(pA cpos (pq [] X.env)).all (λx=>x.1.isSome)
   &&decide ([e].length+([]:List Keyword).length+(if([]:List Keyword).isEmpty then 0 else 1)<30))=true:=by rfl)(hline:(apos.endLine==cpos.line)=true:=by rfl)(hs:Yq [e] X.env=(false,aG e X.env)::Yq [] X.env:=by rfl)(hplain:(dm cpos (Yq [] X.env)).any (·.1)=false:=by rfl):
  j4 X (.Call (.Attribute o "append" apos) [e] [] cpos) (xU f h):=
 (ZsN Qn Ygm Ygn Zla (PE.eO ho) (Ad he J8 hs) hbase hfew hline hs hplain).imp λσ H Q ak=>by
 obtain⟨ι,M,env,S,E,hh⟩:=ak;refine⟨ι,M,env,S,E,?_⟩;unfold xU aP at hh;cases q:f env M with
 |bad=>rw[q]at hh;exact hh.elim|exc x M1=>rw[q]at hh;exact hh.elim|ok a M1=>
  rw[q]at hh;intro v H1 ι1 x1 S1 r1;by_cases ht:bI a M1=true
  .simp only[if_pos ht]at hh;refine⟨Tj _ _ _ _ _ S1 r1 ht,ι1,M1,env,S1,E.mono x1,?_⟩;cases q2:h env M1 with
   |bad=>rw[q2]at hh;exact hh.elim|exc x M2=>rw[q2]at hh;exactλa C H' ι' x2 S1 r1 c1=>hh a C H' ι' (x1.trans x2) S1 r1 c1|ok d M2=>
    rw[q2]at hh;intro v2 H2 ι2 x2 S2 r2;refine⟨ι2,M2,a,[d],S2,r1.mono x2,Zv.cons r2 Zv.nil,?_⟩;dsimp only at hh;cases q3:cj a [d] M2 with
    |bad=>rw[q3]at hh;exact hh.elim|exc x M3=>rw[q3]at hh;exact hh.elim|ok d3 M3=>rw[q3]at hh;exactλv3 H3 ι3 x3 S3 r3=>hh v3 H3 ι3 ((x1.trans x2).trans x3) S3 r3
  .simp only[if_neg ht]at hh;exact hh.elim
end
theorem G9{X:Cx}{any:Bool}{sts:List Yc6}:jC X any sts Aq:=λ_ _ _ _ _ _ ⟨_,_,_,_,_,h⟩=>h.elim
section
variable {P:Y5} {w:aK} {K:Yb} {mg:aj->Option Yd} {base:au} {j k:Nat} {x:aj} {ps:List aj} {F:F3}
theorem dj.mono{C:Ym}(h:dj P w K mg base j C x ps F)(l:j<=k):dj P w K mg base k C x ps F:=let⟨n,f,fd,a,b,d⟩:=h;⟨n,f,fd,a,b,d.mono l⟩
end
theorem Zjw{env env':cQ}(h:env.frame=env'.frame)(x:Yd):nP x env=nP x env':=by unfold nP PySem.frameOf;rw[h]
section
variable {prog:Y5} {w:aK} {A:bj} {R:p_->Yg->Prop} {s:Yg}
theorem ZiI{elt target iter:Expr}{scope:Scope}{pos:aM}{it acc:Yd}{env:cQ}(I:Nat->Yg->Prop)(turn:∀n s,I n s->Yz (Y4 prog w) A (iy it) (λr s₁=>match r with
   |none=>R (.ok .next) s₁|some v=>Yz (Y4 prog w) A (wQ target it v) (λ_ Gs=>Yz (Y4 prog w) A (lH target env v) (λ_ s₂=>Yz (Y4 prog w) A (aG elt env) (λx s₄=>Yz (Y4 prog w) A (call (.builtin "list.append") [acc,x]) (λ_ s₅=>∃m,m<n/\I m s₅) (zB (Y4 prog w) A env λx s'=>R (.error x) s') s₄) (zB (Y4 prog w) A env λx s'=>R (.error x) s') s₂) (zB (Y4 prog w) A env λx s'=>R (.error x) s') Gs) (zB (Y4 prog w) A env λx s'=>R (.error x) s') s₁) (zB (Y4 prog w) A env λx s'=>R (.error x) s') s)(n:Nat)(h:I n s):j9 (Y4 prog w) A (.compLoop (.ListComp elt [⟨target,iter,[],0⟩] scope pos) 0 it acc env) R s:=by
 refine codeAny_loop rfl I (λn s hI=>?_) n h;show Yz _ A ((compTurn (.ListComp elt [⟨target,iter,[],0⟩] scope pos) 0 it acc env).onRaise (λx=>do nP x env;YD x)) _ _ s;refine wpAny_noted ?_;rw[compTurn_list1];refine Yc (DY (Yc (eE (turn n s hI) (λr s₁ h₁=>?_) λ_ _ h'=>h')));cases r with
 |none=>exact Yk h₁|some v=>refine Yc (eE h₁ (λ_ Gs SQ=>?_) λ_ _ h'=>h');refine Yc (eE SQ (λ_ s₂ h₂=>?_) λ_ _ h'=>h');exact Yc (Yc (eE h₂ (λx s₄ h₄=>Yc (eE h₄ (λ_ s₅ h₅=>Yk (Yk ⟨rfl,h₅⟩)) λ_ _ h'=>h')) λ_ _ h'=>h'))
end
section
inductive T8(P:Cb)(Ek:XK)(n:Nat)(s':Yg):Prop
 | mk (k:Nat) (σ5:St) (H5:Hp) (ι5:List Ym) (M5:Store) (nJ:Zo) (I5:Inv P.Y [] σ5 H5 s') (iB:P.tn k s'.heap) (jw:∀b∈P.fp,H5 b=Yh) (hn:P.aC.items.length-k=n) (hk:k<=P.aC.items.length)
   (x5:Ext P.Y.K P.H2 P.ι2 H5 ι5) (S5:ao P.Y.K H5 ι5 M5) (E5:aY P.Y.K H5 ι5 nJ σ5) (hι:ι5[P.nM]?=Ya P.acc) (h5:fj P.Y.K H5 ι5 P.Q Ek (dg P.aC P.g [] P.f P.nM (P.aC.items.drop k) nJ M5))
def T9(P:Cb)(Ek:XK)(n:Nat)(s':Yg):Prop:=∃m,m<n/\T8 P Ek m s'
section
noncomputable local instance (priority:=100000) AfC (p:Prop):Decidable p:=Wq p
noncomputable def G_(P:Cb)(k:Nat)(env:Zo)(e:D)(M2:Store):R3 D:=match M2[P.nM]? with
 |some (.lst x)=>if x.length<SZ then dg P.aC P.g [] P.f P.nM (P.aC.items.drop (k+1)) env (M2.set P.nM (.lst (x++[e])))else .bad|_=>.bad
noncomputable def cxB(P:Cb)(k:Nat)(env:Zo)(b:Bool)(M1:Store):R3 D:=if b then(P.f env M1).bind (G_ P k env)else dg P.aC P.g [] P.f P.nM (P.aC.items.drop (k+1)) env M1
end
theorem Zwy{P:Cb}{k:Nat}{env:Zo}{M:Store}:cxB P k env true M=(P.f env M).bind (G_ P k env):=if_pos rfl
def Lk(P:Cb)(Ek:XK)(n:Nat)(xv:Yd)(s:Yg):Prop:=Yz (Y4 P.Y.prog P.Y.w) P.Y.A (call (.builtin "list.append") [.ref P.acc,xv]) (λ_ s'=>T9 P Ek n s') P.Y.xe s
def T_(P:Cb)(Ek:XK)(elt:Expr)(n:Nat)(s:Yg):Prop:=Yz (Y4 P.Y.prog P.Y.w) P.Y.A (aG elt P.Y.env) (Lk P Ek n) P.Y.xe s
def cxA(P:Cb)(Ek:XK)(tg elt:Expr)(n:Nat)(u:Yd)(s:Yg):Prop:=Yz (Y4 P.Y.prog P.Y.w) P.Y.A (lH tg P.Y.env u) (λ_=>T_ P Ek elt n) P.Y.xe s
def Ua(P:Cb)(Ek:XK)(tg elt:Expr)(it:Ym)(n:Nat)(F:Yg->Prop)(r:Option Yd)(s:Yg):Prop:=match r with
 |none=>F s|some v=>Yz (Y4 P.Y.prog P.Y.w) P.Y.A (wQ tg (.ref it) v) (λ_=>cxA P Ek tg elt n v) P.Y.xe s
theorem fj.iff{H:Hp}{ι:List Ym}{Q:VK}{E:XK}{c:Prop}{dc:Decidable c}{r:R3 D}(h:fj K H ι Q E (if c then r else .bad)):c/\fj K H ι Q E r:=by
 by_cases hc:c
 .rw[if_pos hc]at h;exact⟨hc,h⟩
 .rw[if_neg hc]at h;exact h.elim
variable {P:Cb} {Ek:XK} {tg elt:Expr} {J:It} {it:Ym} {k:Nat} {h7:au} {σ:St} {H H':Hp} {s:Yg} {ι:List Ym} {M M1:Store} {env:Zo}
theorem Zr2(T:Turn P.Y.prog P.Y.w P.Y.K tg J P.fp it P.tn)(ir:P.tn (k+1) h7)(hlt:k<P.aC.items.length)(I':Inv P.Y ([]++pJ P.fp h7) σ H s)(x:Ext P.Y.K P.H2 P.ι2 H ι)(S:ao P.Y.K H ι M)(E:aY P.Y.K H ι env σ)(hι:ι[P.nM]?=Ya P.acc)(h:fj P.Y.K H ι P.Q Ek (dg P.aC P.g [] P.f P.nM (P.aC.items.drop (k+1)) env M)):T9 P Ek (P.aC.items.length-k) s:=⟨P.aC.items.length-(k+1),by omega,⟨k+1,σ,H,ι,M,env,I'.yX,T.keep _ _ _ ir λb hb o e=>(I'.pin (b,o) (lK _ (lK _ (Ab hb e)))).1,λb hb=>(T.obj _ _ ir b hb).elim λo e=>(I'.pin (b,o) (lK _ (lK _ (Ab hb e.1)))).2.1,rfl,hlt,x,S,E,hι,h⟩⟩
theorem Zt2{xs:List D}{d:D}{v:V}{xv:Yd}(T:Turn P.Y.prog P.Y.w P.Y.K tg J P.fp it P.tn)(ir:P.tn (k+1) h7)(hlt:k<P.aC.items.length)(I':Inv P.Y ([]++pJ P.fp h7) σ H s)(r:RelV v xv)(x:Ext P.Y.K P.H2 P.ι2 H ι)(S:ao P.Y.K H ι M)(E:aY P.Y.K H ι env σ)(rd:Rep P.Y.K H ι d v)(hι:ι[P.nM]?=Ya P.acc)(hm:M[P.nM]?=Ya (.lst xs))(hz:xs.length<SZ)(h:fj P.Y.K H ι P.Q Ek (dg P.aC P.g [] P.f P.nM (P.aC.items.drop (k+1)) env (M.set P.nM (.lst (xs++[d]))))):
  Lk P Ek (P.aC.items.length-k) xv s:=by
 obtain⟨vs,ev,rvs⟩:=S.obj _ _ _ hm hι;obtain⟨x11,S_⟩:=S.Dv (.inr (.inl ⟨_,ev⟩)) hι (rvs.append (Zv.cons rd Zv.nil));refine aH (Q':=λ_ s'=>T9 P Ek (P.aC.items.length-k) s') (Rj _ s σ H (.ref P.acc) [v] (.ref P.acc) [xv] (λ_ H'=>H'=upd H P.acc (.lst (vs++[v]))) I' rfl (.cons r .nil) ⟨_,vs,v,rfl,rfl,ev,by rw[rvs.length];exact Yn hz lq,rfl⟩) λ_ s11 ak=>?_;obtain⟨_,H11,Gu,_,eH⟩:=ak;rw[eH]at Gu;exact Zr2 T ir hlt Gu (x.trans x11) S_ (E.mono x11) (x11.pre _ _ hι) (h.up x11)
theorem Zua(T:Turn P.Y.prog P.Y.w P.Y.K tg J P.fp it P.tn)(helt:j4 P.Y elt P.f)(hE:∀σ e C H',Ek (.ref C) (Ya e) H'->XW P.Y σ e C H')(ir:P.tn (k+1) h7)(hlt:k<P.aC.items.length)(I':Inv P.Y ([]++pJ P.fp h7) σ H s)(x:Ext P.Y.K P.H2 P.ι2 H ι)(S:ao P.Y.K H ι M)(E:aY P.Y.K H ι env σ)(hι:ι[P.nM]?=Ya P.acc)(h:fj P.Y.K H ι P.Q Ek ((P.f env M).bind (G_ P k env))):T_ P Ek elt (P.aC.items.length-k) s:=by
 cases e10:P.f env M with
 |bad=>rw[e10]at h;exact h.elim|exc x1 xY=>rw[e10]at h;refine aH (Q':=Lk P Ek (P.aC.items.length-k)) (helt _ s σ H (λ_ _=>False) I' ⟨ι,M,env,S,E,by rw[e10];exactλa C H' ι' x1 S1 r1 c1 a' C' e1 e2=>by cases e1;cases e2;exact hE _ _ _ _ (h a C H' ι' x1 S1 r1 c1)⟩) λxv s10 ak=>?_;obtain⟨_,_,_,_,z⟩:=ak;exact z.elim
 | ok d xY=>
  rw[e10]at h;have h10:fj P.Y.K H ι P.Q Ek (G_ P k env d xY):=h;refine aH (Q':=Lk P Ek (P.aC.items.length-k)) (helt _ s σ H (λv H'=>∃tO,Ext P.Y.K H ι H' tO/\ao P.Y.K H' tO xY/\Rep P.Y.K H' tO d v) I' ⟨ι,M,env,S,E,by rw[e10];exactλv H' ι' x' S' r'=>⟨ι',x',S',r'⟩⟩) λxv s10 ak=>?_;obtain⟨v,H10,Tc,r10,tO,x10,Td,rd⟩:=ak;unfold G_ at h10;cases hm:xY[P.nM]? with
  |none=>rw[hm]at h10;exact h10.elim|some o=>
   rw[hm]at h10;cases o with
   |dct _=>exact h10.elim|dJ _=>exact h10.elim|ins _ _=>exact h10.elim|lst xs=>exact Zt2 T ir hlt Tc r10 (x.trans x10) Td (E.mono x10) rd (x10.pre _ _ hι) hm (fj.iff h10).1 ((fj.iff h10).2.up x10)
theorem ZwA(T:Turn P.Y.prog P.Y.w P.Y.K tg J P.fp it P.tn)(hc:P.Y.calm=true)(hfp:∀{H':Hp},(∀b∈P.fp,H' b=Yh)->∀b∈P.fp,gq P.Y [] H' b)(hg:CG P.Y tg P.g)(helt:j4 P.Y elt P.f)(hE:∀σ e C H',Ek (.ref C) (Ya e) H'->XW P.Y σ e C H')(hlt:k<P.aC.items.length)(I5:Inv P.Y [] σ H s)(iB:P.tn k s.heap)(jw:∀b∈P.fp,H b=Yh)(x:Ext P.Y.K P.H2 P.ι2 H ι)(S:ao P.Y.K H ι M)(E:aY P.Y.K H ι env σ)(hι:ι[P.nM]?=Ya P.acc)(ok:jT P.Y.K P.H2 P.ι2 P.aC J)(h:fj P.Y.K H ι P.Q Ek (dg P.aC P.g [] P.f P.nM (P.aC.items[k]::P.aC.items.drop (k+1)) env M))(F:Yg->Prop):
  Yz (Y4 P.Y.prog P.Y.w) P.Y.A (iy (.ref it)) (Ua P Ek tg elt it (P.aC.items.length-k) F) P.Y.xe s:=by
 obtain⟨lk,h⟩:=fj.iff h;obtain⟨go,yl⟩:=(ok k H ι M x S lk).1 _ (Y3 hlt);cases eg:P.g P.aC.items[k] env with
 |none=>rw[eg]at h;exact h.elim|some zc=>rw[eg]at h;refine aH (T.item P.Y rfl rfl rfl hc k [] s σ H P.Y.xe I5 (hfp jw) iB go) λr s6 ak=>?_;obtain⟨u,hr,h6⟩:=ak;rw[hr];refine aH (Q':=λ_=>cxA P Ek tg elt (P.aC.items.length-k) u) h6 λ_ s7 ak=>?_;obtain⟨y,H7,I7,r7,y7,ir,Gv⟩:=ak;obtain⟨e7,rx⟩:=yl y H7 y7;rw[e7]at I7 Gv;refine aH (Q':=λ_=>T_ P Ek elt (P.aC.items.length-k)) (hg _ s7 σ H y u (λσ' H'=>H'=H/\aY P.Y.K H ι zc σ') (I7.pinned (hfp Gv) (T.obj _ _ ir)) r7 ⟨ι,M,env,_,zc,S,E,rx,eg,λσ' E'=>⟨rfl,E'⟩⟩) λ_ s8 ak=>?_;obtain⟨σ8,H8,I8,e8,E8⟩:=ak;rw[e8]at I8;have h:fj P.Y.K H ι P.Q Ek (cxB P k zc true M):=h;exact Zua T helt hE ir hlt I8 x S E8 hι (Zwy▸h)
theorem ZqU(T:Turn P.Y.prog P.Y.w P.Y.K tg J P.fp it P.tn)(hc:P.Y.calm=true)(hfp:∀{H':Hp},(∀b∈P.fp,H' b=Yh)->∀b∈P.fp,gq P.Y [] H' b)(I5:Inv P.Y [] σ H s)(iB:P.tn P.aC.items.length s.heap)(jw:∀b∈P.fp,H b=Yh)(x:Ext P.Y.K P.H2 P.ι2 H ι)(S:ao P.Y.K H ι M)(hι:ι[P.nM]?=Ya P.acc)(ok:jT P.Y.K P.H2 P.ι2 P.aC J)(h:fj P.Y.K H ι P.Q Ek (dg P.aC P.g [] P.f P.nM [] env M)){F:Yg->Prop}(hF:∀s6,Inv P.Y [] σ H s6->P.Q (.ref P.acc) H->F s6):
  Yz (Y4 P.Y.prog P.Y.w) P.Y.A (iy (.ref it)) (Ua P Ek tg elt it n F) P.Y.xe s:=by
 obtain⟨lk,h⟩:=fj.iff h;refine aH (T.done P.Y rfl rfl rfl hc _ [] s σ H P.Y.xe I5 (hfp jw) iB ((ok _ H ι M x S lk).2 rfl)) λr s6 ak=>?_;rw[ak.1];exact hF s6 ak.2 (h _ H ι Ext.refl S (Rep.ref hι))
theorem ZqT{F:Yg->Prop}(T:Turn P.Y.prog P.Y.w P.Y.K tg J P.fp it P.tn)(hc:P.Y.calm=true)(hfp:∀{H':Hp},(∀b∈P.fp,H' b=Yh)->∀b∈P.fp,gq P.Y [] H' b)(hb:CG P.Y tg P.g/\j4 P.Y elt P.f)(hE:∀σ e C H',Ek (.ref C) (Ya e) H'->XW P.Y σ e C H')(ok:jT P.Y.K P.H2 P.ι2 P.aC J)(z:T8 P Ek n s)(fin:∀σ H s',Inv P.Y [] σ H s'->P.Q (.ref P.acc) H->F s'):Yz (Y4 P.Y.prog P.Y.w) P.Y.A (iy (.ref it)) (Ua P Ek tg elt it n F) P.Y.xe s:=by
 obtain⟨k,σ5,H5,ι5,M5,nJ,I5,iB,jw,hn,hk,x5,S5,E5,hι,h5⟩:=z;by_cases hlt:k<P.aC.items.length
 .rw[zG hlt]at h5;exact hn▸ZwA T hc hfp hb.1 hb.2 hE hlt I5 iB jw x5 S5 E5 hι ok h5 _
 .rw[iK hk (pD hlt)]at iB h5;rw[El]at h5;exact ZqU T hc hfp I5 iB jw x5 S5 hι ok h5 λs6 I6 q=>fin σ5 H5 s6 I6 q
end
theorem ZfS{h h' base:au}:∀{l:List cQ},(∀b∈frs l,∀o,h.get? b=Ya o->(∀vs,o.data≠ .fields vs)->∃o',h'.get? b=Ya o'/\o'.data=o.data)->h.FunFrames base l->h'.FunFrames base l
 |[],_,_=>trivial|env::r,k,hl=>by obtain⟨hk,⟨L,o,hf,hn,ho,hd⟩,hr⟩:=hl;obtain⟨o',ho',hd'⟩:=k L (w6.mpr ⟨env,.head _,hf⟩) o ho hd;refine⟨hk,⟨L,o',hf,hn,ho',λvs z=>hd vs (hd'▸z)⟩,ZfS (λb hb=>k b ?_) hr⟩;obtain⟨e,h1,h2⟩:=w6.mp hb;exact w6.mpr ⟨e,.tail _ h1,h2⟩
section
variable {X:Cx} {elt tg iter:Expr} {scope:Scope} {pos:aM} {i:I3} {own:Nat} {g:G3} {f:E3} {N':List aj}
noncomputable abbrev Ln(X:Cx)(scope:Scope)(cl:List (aj×Ym))(C:Ym)(RR:p_->Yg->Prop):Yd->Yg->Prop:=zB (Y4 X.prog X.w) X.A (uv scope cl C X.env) λx s'=>RR (.error x) s'
noncomputable abbrev yq(X:Cx)(scope:Scope)(N':List aj)(C:Ym)(cl:List (aj×Ym))(s:Yg)(H:Hp)(ex:List Ym)(E:Yd->Yg->Prop):Cx:=(jW X scope N' C cl s H ex).wish E
theorem ZrH{σ':St}{s3:Yg}{H3 H':Hp}{fp:List Ym}{cl:List (aj×Ym)}{e Ca:Ym}{u:Yd->kh Unit}{Qp:Yd->Yg->Prop}{acc:Yd}(I3:Inv X pins σ H3 s3)(gJ:∀b∈fp,gq X pins H3 b)(hst:X.stack=X.env::X.outer)(hfr:X.env.frame=Ya X.env.locals)(hX:XW X σ e Ca H'):
  XW (yq X scope N' s3.heap.objs.size cl s3 H3 fp (Ln X scope cl s3.heap.objs.size (rO (Y4 X.prog X.w) X.A X.xe (Ya u) Qp acc s3.heap.objs.size))) σ' e Ca H':=by
 intro oX s' J yh;obtain⟨he,B,fl,cv,_⟩:=yh;have J0:=Inv.yX (pins:=[]) (pl:=oX) J;have GX:oG B (X.env::X.outer) e Ca s'.heap:=by rw[←hst];exact fl
 have Dw:X.A.frames=Ya (X.env::X.outer):=by rw[←hst];exact I3.ok.frames
 show Yz (Y4 X.prog X.w) X.A (nP (.ref e) (uv scope cl s3.heap.objs.size X.env)) _ _ s';rw[Zjw (env:=uv scope cl s3.heap.objs.size X.env) (env':=X.env) rfl];refine Tz Dw hfr GX λh4 a0 held yj=>?_;have J4:=Bs J0 he fl.stays cv (λp hp=>absurd (show p∈([]:List (Ym×aD))from hp) (by simp)) held.1 yj (Bo.GD ⟨held.1,held.2.1,held.2.2.1,_,held.2.2.2⟩);obtain⟨m,hn,_⟩:=id J4.loc;refine⟨m,hn,λh5 sb cenv' _=>?_⟩;have I4:Inv X pins σ H' {s' with heap:=h4}:=I3.call' (ch:=fp) J4.os J4.base J4.hok J4.bare λb hb=>⟨(gJ b hb).2.2.2.1,(gJ b hb).2.1,(gJ b hb).2.2.2.2.1,(gJ b hb).2.2.2.2.2⟩;have fC:gq X pins H' s3.heap.objs.size:=I3.ug (Yl _) J4.free;have I5:Inv X pins σ H' {s' with heap:=h5}:=I4.turned (t':=s'.toks) (λb o hb e=>(sb.2 b hb).trans e) fC.1 fC.2.1 fC.2.2.2.1 fC.2.2.2.2.1 fC.2.2.2.2.2;obtain⟨f1,f2,f3,oe,vs,T,oT,ts,he4,hcl,hd,h1,hnT,hTe,hT,hdT,h3⟩:=held;have hsz:3<ts.size:=(JC.mp h3).1;have eC:e≠s3.heap.objs.size:=λz=>by rw[z,fC.1]at he;cases he
 have TC:T≠s3.heap.objs.size:=λz=>by obtain⟨o,es,ep,ho,hd',_⟩:=hn;have ho:h4.get? s3.heap.objs.size=Ya o:=ho;rw[←z,hT]at ho;cases ho;rw[hdT]at hd';cases hd'
 have Ub:h5.get? e=Ya oe:=(sb.2 e eC).trans he4;have hT5:h5.get? T=Ya oT:=(sb.2 T TC).trans hT;have k1:(mF B [s3.heap.objs.size]).StaysIn B:=λb o q=>Iv _ q;have kC:∀{b o},(mF B [s3.heap.objs.size]).get? b=Ya o->b≠s3.heap.objs.size:=λ{b o} q z=>by rw[z,Xk _ (by simp)]at q;cases q
 have kN:∀{b},B.get? b=Yh->(mF B [s3.heap.objs.size]).get? b=Yh:=λ{b} q=>by
  cases z:(mF B [s3.heap.objs.size]).get? b with
  |none=>rfl|some o=>rw[k1 b o z]at q;cases q
 have kS:∀{b o},s3.heap.get? b=Ya o->b≠s3.heap.objs.size:=λ{b o} q=>eF (Yu q);have kB:∀{b o},B.get? b=Ya o->b≠s3.heap.objs.size->(mF B [s3.heap.objs.size]).get? b=Ya o:=λ{b o} q z=>zm _ q (by simpa using z);have nfp:∀{b o},X.s₀.heap.get? b=Ya o->b∉X.ex->b∉fp:=λ{b o} q hx hb=>by
  rcases(gJ b hb).2.2.2.1 with z|z
  .exact hx z
  .exact absurd (Yn (Yu q) z) (rZ _)
 have hpn:∀p∈X.pn++pins,(mF B [s3.heap.objs.size]).get? p.1=Ya p.2:=λp hp=>by obtain⟨e1,n1,ne1,nf1,_⟩:=I3.pin p hp;exact kB (cv.old p.1 p.2 e1 n1 (λz=>(Y6.mp (I3.uc p.1 z)).elim ne1 nf1) λz=>(gJ p.1 z).2.2.2.2.2 p hp rfl) (kS e1)
 have cov:vQ (mF B [s3.heap.objs.size]) X.fs X.ex X.H₀ X.s₀.heap H' e:=⟨λb hb hne=>by
   obtain⟨o,ho⟩:=cv.uV b hb hne;exact⟨o,kB ho λz=>hb (by rw[z];exact fC.1)⟩,
  λb o q n hb hx=>by have q3:=I3.base.keep b o q n hb hx;exact kB (cv.old b o q3 (I3.base.free b o q n hx) (Bq I3 q hb) (nfp q hx)) (kS q3),
  λb o q hb hx=>by obtain⟨o1,q1⟩:=I3.base.there b o q hx;obtain⟨o2,q2⟩:=cv.there b o1 q1 (Bq I3 q hb) (nfp q hx);exact⟨o2,kB q2 (kS q1)⟩⟩
 have sB:(mF B [s3.heap.objs.size]).StaysIn h5:=λb o q=>(sb.2 b (kC q)).trans (f1 b o (k1 b o q));have key:∀fv:Yd,X.xe (.ref e) {s' with heap:=h5.update T (EY (·.setIfInBounds 3 fv))}:=λfv=>by
  have other:∀b,b≠T->(h5.update T (EY (·.setIfInBounds 3 fv))).get? b=h5.get? b:=λb hb=>PQ _ _ (bW hb);have sB6:(mF B [s3.heap.objs.size]).StaysIn (h5.update T (EY (·.setIfInBounds 3 fv))):=λb o q=>(other b λz=>by rw[z,kN hnT]at q;cases q).trans (sB b o q);have nT:∀b o,h5.get? b=Ya o->(∀vs,o.data≠ .fields vs)->b≠T:=λb o q hnf z=>by rw[z,hT5]at q;cases q;exact hnf ts hdT
  have fa:Bo (mF B [s3.heap.objs.size]) X.stack e Ca a0 (h5.update T (EY (·.setIfInBounds 3 fv))):=by
   refine⟨sB6,kN f2,?_,fv,oe,vs,T,_,_,(other e (bW hTe)).trans Ub,hcl,hd,h1,kN hnT,hTe,ZQ _ hT5 (Yhy (JM hdT _)),JM hdT _,by simp[hsz]⟩;rw[hst];refine ZfS (λb hb o q hnf=>⟨o,?_,rfl⟩) (PySem.W.funFrames_base k1 f3);have bC:b≠s3.heap.objs.size:=λz=>by
    rw[←hst]at hb;rcases Y6.mp (I3.uc b hb)with r|r
    .exact fC.2.1 (z▸r)
    .exact fC.2.2.1 (z▸r)
   have q5:=(sb.2 b bC).trans q;exact(other b (nT b o q5 hnf)).trans q5
  exact hX pins _ (Bs (s:={s' with heap:=h5}) I5 he sB cov hpn sB6 (λb o q hnf=>⟨o.slots,(other b (nT b o q hnf)).trans q⟩) fa.GD) ⟨he,_,⟨a0,.inl fa⟩,cov,λp hp=>hpn p (zJ _ hp)⟩
 unfold PySem.passOn;refine Yc (fO Ub hd h1 ?_);rw[if_neg (show¬((Value.ref T==Value.none)=true)from by simp)];have WD:Yz (Y4 X.prog X.w) X.A (setFlight (.ref e) cenv'.frame) (λ_ s6=>X.xe (.ref e) s6) X.xe {s' with heap:=h5}:=by unfold setFlight;refine Yc (fO Ub hd h1 ?_);rw[if_pos (show(Value.ref T !=Value.none)=true from by simp)];exact I_ hT5 hdT hsz (key _)
 first
  |exact Yc (Yk (Yc (eE WD (λ_ _ q=>O_ q) λ_ _ q=>q)))|exact Yc (eE WD (λ_ _ q=>O_ q) λ_ _ q=>q)
theorem Zlx{s2:Yg}{H2:Hp}{ι2:List Ym}{M2:Store}{env:Zo}{fp:List Ym}{tn:Nat->au->Prop}{J:It}{aC:gA}{Q:VK}{E:Yd->Yg->Prop}{u:Yd->kh Unit}{Qp:Yd->Yg->Prop}(O:xZ X scope N' own)(hc:X.calm=true)(hst:X.stack=X.env::X.outer)(hfr:X.env.frame=Ya X.env.locals)(hb:∀C cl s H ex E,CG (yq X scope N' C cl s H ex E) tg g/\j4 (yq X scope N' C cl s H ex E) elt f)(I2:Inv X pins σ H2 s2)(T:Turn X.prog X.w X.K tg J fp it tn)(st0:tn 0 s2.heap)(hfp:∀b∈fp,gq X pins H2 b)(S2:ao X.K H2 ι2 M2)(E2:aY X.K H2 ι2 env σ)(ok:jT X.K H2 ι2 aC J)(h:fj X.K H2 ι2 Q (EX X σ) (dg aC g [] f M2.length aC.items (env++Ye own Yh) (M2++[.lst []])))(fin:∀(acc C:Ym) (s':Yg) (m:aj->Option Yd) (H':Hp),s'.heap.Ns C m->gq X pins H' C->Inv X pins σ H' s'->Q (.ref acc) H'->rO (Y4 X.prog X.w) X.A X.xe (Ya u) Qp (.ref acc) C (.ok .next) s'):
  Yz (Y4 X.prog X.w) X.A (Jh []) (λacc s₃=>Yz (Y4 X.prog X.w) X.A (O4 scope X.env.globals (gG X.env.cells scope.names []) [] X.env.qual Yh .none (Ya X.env)) (λcenv s₄=>j9 (Y4 X.prog X.w) X.A (.compStart (.ListComp elt [⟨tg,iter,[],0⟩] scope pos) 0 (.ref it) acc {cenv with scope:=uz scope X.env}) (rO (Y4 X.prog X.w) X.A X.xe (Ya u) Qp acc cenv.locals) s₄) E s₃) E s2:=by
 refine ur ?_;have hD:H2 s2.heap.objs.size=Yh:=I2.hok.fresh (Yl _);obtain⟨x3,S3,r3⟩:=S2.lst hD (Zv.nil (K:=X.K) (H:=H2) (ι:=ι2));have I3:Inv X pins σ (upd H2 s2.heap.objs.size (.lst [])) {s2 with heap:=s2.heap.push {cls:=.type "list",data:=.seq ([]:List Yd).toArray}}:=I2.laid (t':=s2.toks) (λb u e=>Yi _ e) (Yl _) ⟨eG _,[],0,.nil,Y1 _ rfl⟩;have rE:∀b o,s2.heap.get? b=Ya o->(s2.heap.push {cls:=.type "list",data:=.seq ([]:List Yd).toArray}).get? b=Ya o:=λb o e=>Yi _ e;generalize hs3:({s2 with heap:=s2.heap.push {cls:=.type "list",data:=.seq ([]:List Yd).toArray}}:Yg)=s3 at I3 ⊢;have rE:∀b o,s2.heap.get? b=Ya o->s3.heap.get? b=Ya o:=by rw[←hs3];exact rE
 have Te:∀b∈fp,b<s2.heap.objs.size:=λb hb=>(T.obj _ _ st0 b hb).elim λo e=>Yu e.1;have ul:∀b∈fp,b<s3.heap.objs.size:=λb hb=>(T.obj _ _ st0 b hb).elim λo e=>Yu (rE b o e.1);have gJ:∀b∈fp,gq X pins (upd H2 s2.heap.objs.size (.lst [])) b:=λb hb=>⟨(cW (eF (Te b hb))).trans (hfp b hb).1,(hfp b hb).2⟩;have st3:tn 0 s3.heap:=T.keep _ _ _ st0 λb hb o e=>rE b o e;have h:=fj.up x3 h;have hι:(ι2++[s2.heap.objs.size])[M2.length]?=Ya s2.heap.objs.size:=by rw[←S2.len];simp
 generalize upd H2 s2.heap.objs.size (.lst [])=H3 at I3 x3 S3 r3 gJ h;refine XF O.cell (by intro y hy;cases hy) (λh4 hns hsb=>?_) O.kind;have Dr:∀b o,s3.heap.get? b=Ya o->h4.get? b=Ya o:=λb o e=>hsb.extBut b o (eF (Yu e)) (Yi _ e);have I4:=(Zky (own:=own) (N':=N') (tk:=s3.toks+([]:List (aj×Yd)).length) I3 O.kind O.cell O.free O.len O.vis gJ ul hns Dr).wish (Ln X scope (gG X.env.cells scope.names []) s3.heap.objs.size (rO (Y4 X.prog X.w) X.A X.xe (Ya u) Qp (.ref s2.heap.objs.size) s3.heap.objs.size));have Gw:tn 0 h4:=T.keep _ _ _ st3 λb hb o e=>Dr b o e;have L:=ZiI (prog:=X.prog) (w:=X.w) (A:=X.A) (R:=rO (Y4 X.prog X.w) X.A X.xe (Ya u) Qp (.ref s2.heap.objs.size) s3.heap.objs.size) (scope:=scope) (pos:=pos) (iter:=iter) (elt:=elt) (target:=tg) (env:=uv scope (gG X.env.cells scope.names []) s3.heap.objs.size X.env)
  (T8 ⟨yq X scope N' s3.heap.objs.size (gG X.env.cells scope.names []) s3 H3 fp (Ln X scope (gG X.env.cells scope.names []) s3.heap.objs.size (rO (Y4 X.prog X.w) X.A X.xe (Ya u) Qp (.ref s2.heap.objs.size) s3.heap.objs.size)),fp,tn,aC,H2,ι2,Q,g,[],f,M2.length,s2.heap.objs.size⟩ (EX X σ))
  (λn s5 z=>ZqT (P:=⟨yq X scope N' s3.heap.objs.size (gG X.env.cells scope.names []) s3 H3 fp (Ln X scope (gG X.env.cells scope.names []) s3.heap.objs.size (rO (Y4 X.prog X.w) X.A X.xe (Ya u) Qp (.ref s2.heap.objs.size) s3.heap.objs.size)),fp,tn,aC,H2,ι2,Q,g,[],f,M2.length,s2.heap.objs.size⟩) (Ek:=EX X σ) T hc
  (λhn b hb=>⟨hn b hb,eF (ul b hb),λhz=>I4.ok.uf b hb hz,.inl hb,λx c hx=>(I4.ok.Aa b hb).2 x c hx,λp hp=>absurd (show p∈([]:List (Ym×aD))from hp) (by simp)⟩)
  (hb _ _ _ _ _ _) (λσ' e C H' q=>ZrH I3 gJ hst hfr (q e C rfl rfl)) ok z
  λσ' H' s6 I6 q=>I6.loc.elim λm6 Gx=>fin _ _ s6 m6 H' Gx.1 (I3.ug (Yl _) I6.free) (I3.call' (ch:=fp) I6.os I6.base I6.hok I6.bare λb hb=>⟨(gJ b hb).2.2.2.1,(gJ b hb).2.1,(gJ b hb).2.2.2.2.1,(gJ b hb).2.2.2.2.2⟩) q) _
  ⟨0,_,_,_,_,_,I4,Gw,λb hb=>(gJ b hb).1,rfl,eG _,x3,S3,(E2.mono x3).grow own,hι,h⟩
 exact Xx L (T.self _ 0 _ _ _ Gw L)
theorem Zos{any:Bool}(j:Nat){x:aj}{pos' spos:aM}(O:xZ X scope N' own)(hc:X.calm=true)(hN:X.N.Nodup)(hi:CI X tg iter i)(hb:∀C cl s H ex E,CG (yq X scope N' C cl s H ex E) tg g/\j4 (yq X scope N' C cl s H ex E) elt f)(hst:X.stack=X.env::X.outer:=by rfl)(hfr:X.env.frame=Ya X.env.locals:=by rfl)(hj:X.N[j]?=Ya x:=by rfl)(hx:Loc X.env.scope x:=by first|exact Or.inl rfl|exact Or.inr rfl)(hf:X.fn x=true\/X.env.scope.names.lookup x=Ya .local:=by first|exact .inl rfl|exact .inr rfl)(hsw:nO (.ListComp elt [⟨tg,iter,[],0⟩] scope pos) (Ya (.Name x pos')) spos.line X.env=pure true:=by rfl)(hs:∀x,wN iter X.env x=pure x:=by intro _;rfl):oH X any (.Assign [.Name x pos'] (.ListComp elt [⟨tg,iter,[],0⟩] scope pos) spos) (aF j (vp i own g f)):=by
 intro pins s σ H D I h;obtain⟨ι,M,env,S,E,h⟩:=h;have h0:fj X.K H ι (λv H'=>D.nx (σ.set j (Ya v)) H') (EX X σ) (vp i own g f env M):=by
  unfold aF at h;cases q:vp i own g f env M with
  |ok d M1=>rw[q]at h;exactλv H1 ι1 x1 S1 r1=>h _ H1 ι1 x1 S1 ((E.mono x1).set j r1)|exc x M1=>rw[q]at h;exactλa C H' ι' x1 S1 r1 c1 a' C' e1 e2=>by cases e1;cases e2;exact h σ a C H' ι' (λ_=>rfl) x1 S1 r1 c1|bad=>rw[q]at h;exact h.elim
 unfold vp at h0;cases e1:i env M with
 |bad=>rw[e1]at h0;exact h0.elim|exc _ _=>rw[e1]at h0;exact h0.elim|ok aC M1=>
  rw[e1]at h0;have hc0:∀y∈scope.names,y.2= .free->∃c,X.env.cells.lookup y.1=Ya c:=λy hy e=>I.ok.has y.1 (O.free y hy e);rw[Xz _ _ _ _ hsw];refine Yc (DY (Yc ?_));show Yz _ X.A (do let _ ←comprehension (.ListComp elt [⟨tg,iter,[],0⟩] scope pos) scope X.env _ (Jh []) false (aG iter X.env) (Ya (lH (.Name x pos') X.env))) _ _ s;refine Yc (eE (Ov (use:=Ya (lH (.Name x pos') X.env)) (Q:=λ_ s'=>SP X pins D .next s') rfl hs (SM hc0) O.kind O.names ?_) (λ_ s' hq=>Yk (Yk hq)) λ_ _ e=>e);refine aH (hi pins s σ H (λJ H'=>∃ι',Ext X.K H ι H' ι'/\ao X.K H' ι' M1/\jT X.K H' ι' aC J) I ⟨ι,M,env,S,E,by rw[e1];exactλJ H' ι' x S' o=>⟨ι',x,S',o⟩⟩) λv s1 h1'=>aH h1' λitv s2 h2=>?_;obtain⟨it,fp,tn,J,H2,rfl,I2,T,st2,f2,ι2,x2,S2,ok⟩:=h2;refine Zlx (own:=own) (g:=g) (f:=f) O hc hst hfr hb I2 T st2 f2 S2 (E.mono x2) ok (h0.up x2) ?_;intro acc C s' m H' hn Tf I' hq;obtain⟨f0,f1,f2',f3,f4,f5⟩:=Tf;show Yz _ X.A (lH (.Name x pos') X.env (.ref acc)) _ _ s';refine Oz (QT I' hN hj hx (show RelV (.ref acc) (.ref acc)from rfl) (λs'' Tg ⟨a,sb,ha⟩=>?_) hf);have Th:C≠a:=by
   rcases ha with rfl|ha
   .exact f1
   .exact bW (f4 x a ha)
  exact⟨m,hn.sameBut sb Th,λh' Ti=>⟨_,H',Tg.turned (t':=s''.toks) (λb o hb e=>(Ti.2 b hb).trans e) f0 f1 f3 f4 f5,hq⟩⟩
end
theorem ZqV{X:Cx}{x:aj}{np pos pos2:aM}{suite:List Yc6}{b0:Yc6}{cs:List (List Nat)}{b h:S3}{CE:Ym}(hm:X.mg x=Ya (.ref CE))(hsub:∀c C,cs.contains c=true->ClsAt X.K c C->wH X.K (.ref C) (.ref CE)=Ya true)(hb:∀vR E',jC (GR X vR E') false body b)(hs:∀A' E',lz (inX X A' E') (b0::suite) h)(hst:X.stack=X.env::X.outer:=by rfl)(hfr:X.env.frame=Ya X.env.locals:=by rfl)(hg:Gl X x:=by rfl)(hdb:(x==("__debug__":aj))=false:=by decide):CS X (.Try body [.ExceptHandler (Ya (.Name x np)) Yh (b0::suite) pos] [] [] pos2) (xV cs b h):=by
 intro pins s σ H D I z;obtain⟨ι,M,env,S,E,hf⟩:=z;refine YB (eE (hb (X.pn++pins) _ [] s σ H D (Zni I _) ⟨ι,M,env,S,E,?_⟩) (λf s1 q=>?_) (λ_ _ z=>z))
 rotate_left
 .have q:=ZmQ I q;cases f with
  |next=>obtain⟨σ',H',J,q⟩:=q;exact zp ⟨σ',H',J,q⟩|brk=>exact q|cont=>exact q|ret u=>exact q
 unfold xV at hf;cases q:b env M with
 |nx e M1=>rw[q]at hf;exact hf|rt e M1=>rw[q]at hf;exact hf|bk e M1=>rw[q]at hf;exact hf|ct e M1=>rw[q]at hf;exact hf
 |bad=>rw[q]at hf;exact hf|exc x1 M1=>
  rw[q]at hf;dsimp only at hf;have hc:cs.contains x1.cls=true:=uO λz=>by rw[if_neg z]at hf;exact hf
  rw[if_pos hc]at hf;intro σ' e C H' ι' hσ xt S1 r1 c1 oX s' J yh;obtain rfl:=hσ rfl;obtain⟨he,B,fl,cv,hpn⟩:=yh;have I1:Inv X pins σ' H' s':=Br I J;have GX:oG B (X.env::X.outer) e C s'.heap:=by rw[←hst];exact fl
  have Dw:X.A.frames=Ya (X.env::X.outer):=by rw[←hst];exact I1.ok.frames
  show Yz (Y4 X.prog X.w) X.A (nP (.ref e) X.env) _ _ s';refine Tz Dw hfr GX λh₄ a0 held yj=>?_;refine O9 held λh₅ oZ GZ=>?_;have I5:Inv X pins σ' H' {s' with heap:=h₅}:=Bs I1 he fl.stays cv hpn oZ.1 (yj.trans GZ) (Bp oZ);have Fq:=Lg I5 (X.A.mark (Ya (.ref e))) (λ_ _=>False) rfl;refine XM (XC (sO Fq hg hm ?_ hdb)) (by intro q;cases q);have LT:Xu (Y4 X.prog X.w) h₅ (Eg (.ref e)) (.ref C):=by obtain⟨o,vs,a,b,_⟩:=Bp oZ;exact b▸(Ykh a).andThen .now
  refine Xq (K:=X.K) (cls:=.ref C) I5.cL LT (hsub _ _ hc c1) _ _ _ _ (λ_ _ q=>q) ?_;refine codeAny_handlers_suite ?_;refine lands_againW oZ λh₆ Dy G4=>?_;have I6:Inv X pins σ' H' {s' with heap:=h₆}:=Bs (s:={s' with heap:=h₅}) I5 he oZ.1 cv hpn Dy.1 G4 (Bp Dy);have TY:=Lg I6 (X.A.mark (Ya (.ref e))) (λ_ _=>False) rfl;refine eE (hs (X.A.mark (Ya (.ref e))) (λ_ _=>False) pins _ σ' H' {nx:=λσ2 H2=>D.nx σ2 H2,rt:=λ_ _=>False} TY ⟨ι',M1,env,S1,E.mono xt,?_⟩) (λf s8 q=>?_) (λ_ _ z=>dw z)
  .cases qh:h env M1 with
   |nx e' M2=>rw[qh]at hf;exactλσ2 H2 ι2 x2 S2 E2=>hf _ H2 ι2 (xt.trans x2) S2 E2|rt _ _=>rw[qh]at hf;exact hf.elim|bk _ _=>rw[qh]at hf;exact hf.elim|ct _ _=>rw[qh]at hf;exact hf.elim
   |exc _ _=>rw[qh]at hf;exact hf.elim|bad=>rw[qh]at hf;exact hf.elim
  .cases f with
   |next=>obtain⟨σ2,H2,I8,q⟩:=q;exact⟨σ2,H2,Zkx I I8,q⟩|brk=>obtain⟨_,_,_,q⟩:=q;exact q.elim|cont=>obtain⟨_,_,_,q⟩:=q;exact q.elim
   |ret u=>obtain⟨_,_,_,_,_,q⟩:=q;exact q.elim
def qT(P:Y5)(w:aK)(K:Yb)(mg:aj->Option Yd)(base:au)(k:Nat)(x:aj)(ps:List aj)(F:F3)(dd:List D)(n:Nat)(nm:aj):Prop:=(∀ds M,ds.length≠ps.length->F ds M= .bad)/\∃f fd ds gw,mg x=Ya (.ref f)/\mH K (.ref f)=true/\Binds K fd ps []/\Binds K fd ps ds/\Vals gw ds/\(∀H ι,Zv K H ι dd gw)/\J9 K fd ps [nm] (gK n) (gK n)/\eQ P w K mg base (m_ P w) k f fd ps (GF K ps.length F)
section
variable {P:Y5} {w:aK} {K:Yb} {mg:aj->Option Yd} {base:au} {dd:List D} {n:Nat} {nm:aj}
theorem qT.x{k:Nat}{x:aj}{ps:List aj}{F:F3}(h:qT P w K mg base k x ps F dd n nm):nj P w K mg base k x ps F:=let⟨a,f,fd,_,_,b,c,d,_,_,_,_,e⟩:=h;⟨a,f,fd,b,c,d,e⟩
theorem qT.of{x:aj}{st:Yc6}{N ps:List aj}{k:Nat}{body:S3}(d:DefX K mg x st ps dd n nm)(S:cX N ps (Zj st))(hb:∀(f:Ym) (cdv:Yd) (A:bj) (outer:List cQ) (s:Yg) (H:Hp) (E:XK),b_ k (A.deeper (jN x (Zj st) s.heap.objs.size f cdv))->jC (lU (m_ P w) P w K mg base N x (Zj st) f cdv A outer s H E) true (bJ st) body):
  qT P w K mg base (k+1) x ps (bh ps.length N.length body) dd n nm:=by
 obtain⟨f,fd,ds,gw,F,m,b0,b1,v,r,kb⟩:=d;exact⟨λds M h=>if_neg h,f,fd,ds,gw,m,F.kp,b0,b1,v,r,kb,TQ F S (hb f)⟩
end
section
variable {X:Cx} {e e':Expr} {es:List Expr} {pos p kpos:aM} {gl:bU} {g:E3} {x nm:aj} {k n:Nat} {ps:List aj} {F:F3} {dd:List D}
theorem Zpf{fa:Ym}{fd:iJ}{sp:Sp}{Q:VK}{us ws:List Yd}{kw:List (aj×Yd)}{vs:List V}(G:eQ X.prog X.w X.K X.mg X.base (m_ X.prog X.w) k fa fd ps sp)(hr:b_ k X.A)(hb:rP s fd ⟨us,kw⟩ (ps.zip ws))(I:Inv X pins σ H s)(r:Vals vs ws)(h:sp vs H Q (EX X σ)):Yz (Y4 X.prog X.w) X.A (call (.ref fa) us kw) (EP X pins σ Q) X.xe s:=by
 refine Ec (wU (G.run X.A X.stack s H ⟨us,kw⟩ ws vs Q (EX X σ) hr I.env0 hb r h) λr s' hq=>?_);cases r with
 |error e=>obtain⟨e,C,H',rfl,I',x,hE⟩:=ZsP I hq;exact hE e C rfl rfl pins s' I' x|ok fl=>
  cases fl with
  |ret u=>exact I.after hq|next=>exact dw hq|brk=>exact dw hq|cont=>exact dw hq
theorem ZpJ(G:qT X.prog X.w X.K X.mg X.base k x ps F dd n nm)(hr:b_ k X.A)(ha:CA X.eO (e::es) gl)(hg:Gl X x:=by rfl)(hdb:(x==("__debug__":aj))=false:=by decide)(he:Yq (e::es) X.env=(false,aG e X.env)::Yq es X.env:=by rfl)(hpl:(dm pos (Yq es X.env)).any (·.1)=false:=by rfl):j4 X (.Call (.Name x p) (e::es) [] pos) (Zu (Tv F dd) (aJ gl)):=by
 obtain⟨hn,fa,fd,dsv,gw,hm,kp,_,bi,vd,rd,_,ok⟩:=G;intro pins s σ H Q I h;obtain⟨ι,M,env,S,E,h⟩:=h;refine wL (sO I hg hm ?_ hdb);unfold Zu aJ at h;cases q:gl env M with
 |exc _ _=>rw[q]at h;exact h.elim|bad=>rw[q]at h;exact h.elim|ok ds M1=>
  rw[q]at h;have h:fj X.K H ι Q (EX X σ) (F (ds++dd) M1):=h;have hl:(ds++dd).length=ps.length:=by refine uO λz=>?_;rw[hn _ M1 z]at h;exact h.elim
  refine DQ (h₀:=X.base) I.ok.mod.pH kp (GP ha I S E q λus s1 vs H1 ι1 I1 r x1 S1 r1=>⟨I1.cL,?_⟩) he hpl;have rr:=r.append vd;exact Zpf ok hr (bi s1 us I1.cL (by rw[←rr.length,(r1.append (rd H1 ι1)).length];exact hl)) I1 rr ⟨ι1,M1,ds++dd,S1,r1.append (rd _ _),hl,h.up x1⟩
theorem Zqb(G:qT X.prog X.w X.K X.mg X.base k x ps F dd n nm)(hr:b_ k X.A)(ha:CA X.eO (e::es) gl)(hk:C3 X.eO e' g)(hps:ps.length=n+1:=by rfl)(hg:Gl X x:=by rfl)(hdb:(x==("__debug__":aj))=false:=by decide)(he:Yq (e::es) X.env=(false,aG e X.env)::Yq es X.env:=by rfl)(hall:(pA pos (pq [⟨Ya nm,e',kpos⟩] X.env)).all (·.1.isSome)=true:=by rfl)(hks:(pA pos (pq [⟨Ya nm,e',kpos⟩] X.env)).filterMap (·.1)=[nm]:=by rfl)(hpl:((dm pos (Yq (e::es) X.env)).any (·.1)|| (pA pos (pq [⟨Ya nm,e',kpos⟩] X.env)).any (·.1.isNone))=false:=by rfl):j4 X (.Call (.Name x p) (e::es) [⟨Ya nm,e',kpos⟩] pos) (Zu F (aJ (Ld gl g))):=by
 obtain⟨hn,fa,fd,dsv,gw,hm,kp,_,_,_,_,kb,ok⟩:=G;intro pins s σ H Q I h;obtain⟨ι,M,env,S,E,h⟩:=h;refine wL (sO I hg hm ?_ hdb);have hh:∃vW M0 d M1,gl env M= .ok vW M0/\g env M0= .ok d M1/\fj X.K H ι Q (EX X σ) (F (vW++[d]) M1):=by
  unfold Zu aJ Ld at h;cases q:gl env M with
  |exc _ _=>rw[q]at h;exact h.elim|bad=>rw[q]at h;exact h.elim|ok vW M0=>
   rw[q]at h;simp only[R3.bind]at h;cases q2:g env M0 with
   |exc _ _=>rw[q2]at h;exact h.elim|bad=>rw[q2]at h;exact h.elim|ok d M1=>rw[q2]at h;exact⟨vW,M0,d,M1,rfl,q2,h⟩
 obtain⟨vW,M0,d,M1,q0,q1,h⟩:=hh;have hl:(vW++[d]).length=ps.length:=by refine uO λz=>?_;rw[hn _ M1 z]at h;exact h.elim
 refine PySem.W.callWith_KW (h₀:=X.base) I.ok.mod.pH kp hall (GP ha I S E q0 λus s1 vs H1 ι1 I1 r x1 S1 r1=>?_) hpl he;have hkw:PK X.eO [⟨Ya nm,e',kpos⟩] (Ra (lY X.K g) Q_):=ZrC hk Zt4;refine eE (hkw pos pins s1 σ H1 (λzs H2=>∃z ι2,zs=[z]/\Ext X.K H1 ι1 H2 ι2/\ao X.K H2 ι2 M1/\Rep X.K H2 ι2 d z) (I1.wish _) ⟨ι1,M0,env,S1,E.mono x1,?_⟩) (λws s2 zz=>?_) λ_ _ z=>dw z
 .rw[q1];exactλv H2 ι2 x2 S2 r2=>⟨v,ι2,rfl,x2,S2,r2⟩
 .obtain⟨zs,H2,I2,rz,z,ι2,rfl,x2,S2,r2⟩:=zz;refine⟨I2.cL,?_⟩;rw[hks];have rv:=kb.rel r rz;have el:gK n vs [z]=vs++[z]:=if_pos ⟨by rw[r1.length];rw[Yt,hps]at hl;exact E_ hl,rfl⟩;have rl:Zv X.K H2 ι2 (vW++[d]) (gK n vs [z]):=by rw[el];exact(r1.mono x2).append (Zv.cons r2 Zv.nil)
  exact Zpf ok hr (kb.to s2 us ws I2.jG.cL (by rw[←rv.length,rl.length];exact hl)) I2.jG rv ⟨ι2,M1,vW++[d],S2,rl,hl,h.up (x1.trans x2)⟩
end
open AutoSeq1 (wpAny_loadPart')
theorem Zo0(l:Ym)(items:Array Yd)(n:Nat)(dd:Option Ym)(sl:Array (Option Yd))(x:Int)(u:gY)(h0:¬(decide (x< -(2^63))|| decide (x>=2^63))=true)(h1:¬(items.isEmpty|| x==1)=true)(h2:¬(decide (x<=0)|| items.isEmpty)=true)(h3:¬(items.size*x>(2^63-1) / 8))(h4:¬Yfv (items.size*x)=true)(hsz:(xq (λx1 x2=>x1++x2) #[] (Ye x.toNat items)).size<=Y8):
  Meets (Builtin.«tuple.__mul__» ⟨[.ref l,.int x u],[]⟩) (λ_ R s=>s.heap.get? l=Ya {cls:=.type "tuple",dict:=dd,data:=.seq items n,slots:=sl}/\R (.ok (.ret (Value.ref s.heap.objs.size))) {s with heap:=s.heap.push {cls:=Value.type "tuple",data:=Data.seq (xq (λx1 x2=>x1++x2) #[] (Ye x.toNat items))},toks:=s.toks}):=
 .of_wp λprog w A R s h=>by
  obtain⟨hp,g,d,tk,os⟩:=s;obtain⟨hl,h⟩:=h;have f1:=AutoSeq1.idx_int
  wp_walk using wK hl
  refine YJ (decide_eq_false h0) ?_
  wp_walk using wK hl
  refine YJ (decide_eq_false h3) ?_
  wp_walk using wK hl
  exact⟨_,rfl,h⟩
theorem Zha:fillsNumberSlot (.type "tuple") "mul" =pure false:=PySem.fillsNumberSlot_seq (id:="tuple.__mul__") (r:=Ya (.builtin "tuple.__rmul__")) PySem.F.slot_tuple_mul.lookup (by decide +kernel) PySem.F.slot_tuple_rmul.lookup (by decide +kernel)
theorem ZjV:seqRepeat? (.type "tuple")=pure (Ya (.builtin "tuple.__mul__")):=by unfold seqRepeat?;rw[YC (T:="tuple") (name:="__mul__") (id:="tuple.__mul__") PySem.F.slot_tuple_mul.lookup (by decide +kernel),YC (T:="tuple") (name:="__rmul__") (id:="tuple.__rmul__") PySem.F.slot_tuple_rmul.lookup (by decide +kernel)];rfl
theorem Zj9(a:Int)(t:gY)(l:Ym)(items:Array Yd)(n:Nat)(dd:Option Ym)(sl:Array (Option Yd)):
  Meets (Builtin.«int.__rmul__» ⟨[.int a t,.ref l],[]⟩) (λ_ R s=>s.heap.get? l=Ya {cls:=.type "tuple",dict:=dd,data:=.seq items n,slots:=sl}/\R (.ok (.ret Value.notImplemented)) s):=
 .of_wp λprog w A R s h=>by obtain⟨hp,g,d,tk,os⟩:=s;obtain⟨hl,h⟩:=h;wp_walk;exact⟨_,rfl,h⟩
theorem Zsx{α:Type}(x:α):∀(n:Nat) (a:List α),xq (λx1 x2=>x1++x2) a.toArray (Ye n #[x])=(a++Ye n x).toArray
 |0,a=>by rw[Ye,Ye,qd];rfl|n+1,a=>by rw[ju,qi,ju];have:=Zsx x n (a++[x]);rw[kj,List.singleton_append]at this;rw[←this];simp
section
variable {X:Cx}
theorem Zsd:aX X (gO .Mult) (λx y H Q=>∃a v k,x= .ref a/\y= .int k/\cP X.K H a [v]/\2<=k/\k<=1000/\∀p,H p=Yh->Q (.ref p) (upd H p (.tup (Ye k.toNat v)))):=by
 intro pins s σ H x y v u Q I rx ry h;obtain⟨a,z,k,rfl,rfl,ha,h1,h2,q⟩:=h;cases rx;obtain⟨t,rfl⟩:=ry;obtain⟨its,r1,p1,_⟩:=I.tuple ha;obtain⟨b,rfl,rb⟩:=vals1 r1;obtain⟨⟨cls,dd,data,sl⟩,ho,hc,n,hd⟩:=id p1;simp only at hc hd;subst hc hd;have hz:(1000:Nat)<=Y8:=Yv (by decide) lq;have e:xq (λx1 x2=>x1++x2) #[] (Ye k.toNat [b].toArray)=(Ye k.toNat b).toArray:=Zsx b k.toNat [];have hk:k.toNat<=1000:=by omega
 refine Xw (T:="tuple") (U:="int") (by decide) ⟨_,ho,rfl⟩ (λs'=>Ed s' k t) Zha PySem.F.fills_int_mul Yh4 ZjV PySem.F.slot_int_index.lookup
  (ut Yh4 (Ed s k t) PySem.F.entry_int_rmul (PySem.F.args_int_rmul_2 _ _) (Zj9 k t a _ n dd sl)
   ⟨ho,rfl,⟨_,ho,rfl⟩,ut PySem.F.slot_tuple_mul ⟨_,ho,rfl⟩ PySem.F.entry_tuple_mul (PySem.F.args_tuple_mul_2 _ _) (Zo0 a _ n dd sl k t ?_ ?_ ?_ ?_ ?_ ?_) ⟨ho,?_⟩⟩)
 .simp;omega
 .simp;omega
 .simp;omega
 .simp;omega
 .unfold Yfv;simp only[Ys,Yo,nW,decide_eq_true_eq];omega
 .rw[e];simp;omega
 .rw[e];refine⟨.ref s.heap.objs.size,_,I.laid (t':=s.toks) (o:=.tup (Ye k.toNat z)) (λb ob q=>Yi _ q) (Yl _) ?_,rfl,q _ (I.hok.fresh (Yl _))⟩;refine⟨by rw[lM];omega,_,?_,qy.new _ _⟩;generalize k.toNat=m
  induction m with
  |zero=>exact .nil|succ m ih=>rw[ju,ju];exact .cons rb ih
theorem Zq2{Q:VK}{ds:List D}{k:Int}(h:Zy K H ι Q (oE (.tup ds) (.int k) M)):∃x,ds=[x]/\(2<=k/\k<=1000)/\Zy K H ι Q (.ok (.tup (Ye k.toNat x)) M):=by
 cases ds with
 |nil=>exact h.elim|cons x r=>obtain⟨⟨e,h1⟩,h⟩:=vD h;rw[e];exact⟨x,rfl,h1,h⟩
theorem ZmL{K:Yb}{H:Hp}{ι:List Ym}{d:D}{v:V}(r:Rep K H ι d v):∀n,Zv K H ι (Ye n d) (Ye n v)
 |0=>Zv.nil|n+1=>⟨v,_,rfl,r,ZmL r n⟩
theorem Lp:aX X (gO .Mult) (r2 X.K oE):=aX.imp Zsd λx y H Q ak=>by
 obtain⟨ι,M,a,b,S,ra,rb,h⟩:=ak;cases a with
 | tup ds=>cases b with
  |int k=>obtain⟨d,rfl,⟨h1,h2⟩,h⟩:=Zq2 h;obtain⟨p,vs,e,s,r⟩:=ra.jh;obtain⟨v,ws,rfl,rd,rn⟩:=r;rw[show ws=[]from rn]at s;refine⟨p,_,k,e,rb.int_inv,s,h1,h2,λp' hp=>?_⟩;obtain⟨x2,S2,r2⟩:=S.uh hp (ZmL rd k.toNat);exact h _ _ _ x2 S2 r2|_=>exact h.elim
 |_=>cases b<;>exact h.elim
end
end L3
set_option maxHeartbeats 400000
namespace Law
open PySem L3
noncomputable section
def y_:E3:=eC (.int 8)
def tV:tK:=[([97,100,100],2),([115,117,98],2),([109,111,114,101],2),([99,101,108,108],1)]
def Uc:S3:=aq (aV (e2 bL (Zc 0) (eC (.str [97,100,100]))) (cM (e2 bf (Zc 1) (Zc 2))) (fQ)) (aq (aV (e2 bL (Zc 0) (eC (.str [115,117,98]))) (cM (e2 jR (Zc 1) (Zc 2))) (fQ)) (cM (xM (e2 jc (Zc 1) (Zc 2)) (eC (.int 1)) (eC (.int 0)))))
def Lq:F3:=bh 3 3 Uc
def Ud:S3:=aq (aF 1 (cg (Ze))) (aq (aF 2 (eC (.int 0))) (aq (sZ (kY (Zc 0)) (bQ 3) (aq (aV (e2 bL (Zc 2) (eC (.int 0))) (aq (Zw (bD bI cj (Zc 1) (Za (cg (Ze)) (Ze)))) (aF 2 (eC (.int 1)))) (fQ)) (aq (Zw (bD bI cj (e2 Zr (Zc 1) (e1 jk (eC (.int 1)))) (Za (Zc 3) (Ze)))) (aF 2 (e2 bf (e2 jR (Zc 2) (eC (.int 1))) (e2 (Bc tV) (Zc 3) (eC (.int 0)))))))) (cM (xM (e2 bL (Zc 2) (eC (.int 0))) (lW (kY (Zc 1)) 1 (bQ 4) [] (aU kW (Za (Zc 4) (Ze)))) (eC .non)))))
def Lr:F3:=bh 1 4 Ud
def Ue:S3:=cM (Zu Lr (Za (m7 (Zc 0) (m5 (eC (.int 1))) (mZ)) (Ze)))
def yr:F3:=bh 1 1 Ue
def Ug:S3:=aq (xT [87,97,108,107] [110,97,109,101,100] (Zc 0) (Zc 1)) (aq (xT [87,97,108,107] [99,101,108,108,115] (Zc 0) (Zsw)) (aq (xT [87,97,108,107] [110,117,109,98,101,114,115] (Zc 0) (cg (Ze))) (aq (xT [87,97,108,107] [115,116,101,112,115] (Zc 0) (eC (.int 0))) (xT [87,97,108,107] [109,111,115,116] (Zc 0) (Zc 2)))))
def yt:F3:=bh 3 3 Ug
def Ls:S3:=aq (gB (xT [87,97,108,107] [115,116,101,112,115] (Zc 0) (e2 bf (e1 (jz [87,97,108,107] [115,116,101,112,115]) (Zc 0)) (Zc 1)))) (aV (aP (e2 jc (e1 (jz [87,97,108,107] [115,116,101,112,115]) (Zc 0)) (e1 (jz [87,97,108,107] [109,111,115,116]) (Zc 0)))) (Ba [83,112,101,110,116] (Za (eC (.str [116,104,101,114,101,32,97,114,101,32,109,111,114,101,32,115,116,101,112,115,32,116,104,97,110,32,116,104,101,32,98,111,117,110,100])) (Ze))) (gB (fQ)))
def Zz:F3:=bh 2 2 Ls
def vX(rec:Nat->F3):S3:=aq (aF 2 (vp (kY (Zu yr (Za (Zc 1) (Ze)))) 1 (bQ 3) (bG [87,97,108,107] [118,97,108,117,101,95,111,102] (rec 0) (aP (Zc 0)) (aJ (Za (Zc 3) (Ze)))))) (aq (aV (aP (e2 bL (aU bM (Za (Zc 2) (Ze))) (eC (.int 2)))) (aq (Zw (bG [87,97,108,107] [115,112,101,110,100] Zz (aP (Zc 0)) (aJ (Za (eC (.int 1)) (Ze))))) (gB (cM (Zu Lq (Za (e2 Zr (Zc 1) (eC (.int 0))) (Za (e2 Zr (Zc 2) (eC (.int 0))) (Za (e2 Zr (Zc 2) (eC (.int 1))) (Ze)))))))) (gB (fQ))) (aq (aV (aP (e2 bL (aU bM (Za (Zc 2) (Ze))) (eC (.int 1)))) (aq (Zw (bG [87,97,108,107] [115,112,101,110,100] Zz (aP (Zc 0)) (aJ (Za (eC (.int 2)) (Ze))))) (gB (cM (bD Ku FQ (e1 (jz [87,97,108,107] [99,101,108,108,115]) (Zc 0)) (Za (e2 Zr (Zc 2) (eC (.int 0))) (Za (eC (.int 0)) (Ze))))))) (gB (fQ))) (aq (aV (aP (e1 (m8 .int) (e2 Zr (Zc 1) (eC (.int 0))))) (aq (Zw (bG [87,97,108,107] [115,112,101,110,100] Zz (aP (Zc 0)) (aJ (Za (eC (.int 1)) (Ze))))) (gB (cM (e2 Zr (Zc 1) (eC (.int 0)))))) (gB (fQ))) (aq (Zw (bG [87,97,108,107] [115,112,101,110,100] Zz (aP (Zc 0)) (aJ (Za (eC (.int 2)) (Ze))))) (gB (cM (bD Ku FQ (e1 (jz [87,97,108,107] [110,97,109,101,100]) (Zc 0)) (Za (e2 Zr (Zc 1) (eC (.int 0))) (Za (eC (.int 0)) (Ze))))))))))
def Lw:Nat->Nat->F3
 |0,0=>bh 2 3 Aq|n+1,0=>bh 2 3 (vX (Lw n))|_,_=>λ_ _=>.bad
def qU:F3:=Lw 13 0
def Hf:S3:=aq (aF 2 (bG [87,97,108,107] [118,97,108,117,101,95,111,102] qU (aP (Zc 0)) (aJ (Za (Zc 1) (Ze))))) (aq (Zw (bG [87,97,108,107] [115,112,101,110,100] Zz (aP (Zc 0)) (aJ (Za (eC (.int 1)) (Ze))))) (gB (cM (e2 jc (Zc 2) (eC (.int 0))))))
def yu:F3:=bh 2 3 Hf
def Lx(rec:Nat->F3):S3:=aq (FW (bG [87,97,108,107] [105,115,95,97,98,111,118,101] yu (aP (Zc 0)) (aJ (Za (e2 Zr (Zc 1) (eC (.int 1))) (Ze)))) (aq (Zw (bG [87,97,108,107] [103,111,95,116,104,114,111,117,103,104] (rec 0) (aP (Zc 0)) (aJ (Za (e2 Zr (Zc 1) (eC (.int 2))) (Ze))))) (Zw (bG [87,97,108,107] [115,112,101,110,100] Zz (aP (Zc 0)) (aJ (Za (eC (.int 1)) (Ze))))))) (Zw (bG [87,97,108,107] [115,112,101,110,100] Zz (aP (Zc 0)) (aJ (Za (eC (.int 1)) (Ze)))))
def lZ(rec:Nat->F3):S3:=aV (aP (e2 bL (e2 Zr (Zc 1) (eC (.int 0))) (eC (.str [119,104,101,110])))) (Zw (bG [87,97,108,107] [99,104,111,111,115,101] (rec 2) (aP (Zc 0)) (aJ (Za (Zc 1) (Ze))))) (aV (aP (e2 bL (e2 Zr (Zc 1) (eC (.int 0))) (eC (.str [119,104,105,108,101])))) (Zw (bG [87,97,108,107] [114,101,112,101,97,116] (rec 3) (aP (Zc 0)) (aJ (Za (Zc 1) (Ze))))) (aV (aP (e2 bL (e2 Zr (Zc 1) (eC (.int 0))) (eC (.str [112,117,116])))) (aq (aF 2 (bG [87,97,108,107] [118,97,108,117,101,95,111,102] qU (aP (Zc 0)) (aJ (Za (e2 Zr (Zc 1) (eC (.int 1))) (Ze))))) (aq (vo (e1 (jz [87,97,108,107] [99,101,108,108,115]) (Zc 0)) (Zc 2) (bG [87,97,108,107] [118,97,108,117,101,95,111,102] qU (aP (Zc 0)) (aJ (Za (e2 Zr (Zc 1) (eC (.int 2))) (Ze))))) (Zw (bG [87,97,108,107] [115,112,101,110,100] Zz (aP (Zc 0)) (aJ (Za (eC (.int 2)) (Ze))))))) (aV (aP (e2 bL (e2 Zr (Zc 1) (eC (.int 0))) (eC (.str [115,101,116])))) (aq (vo (e1 (jz [87,97,108,107] [110,97,109,101,100]) (Zc 0)) (e2 Zr (Zc 1) (eC (.int 1))) (bG [87,97,108,107] [118,97,108,117,101,95,111,102] qU (aP (Zc 0)) (aJ (Za (e2 Zr (Zc 1) (eC (.int 2))) (Ze))))) (Zw (bG [87,97,108,107] [115,112,101,110,100] Zz (aP (Zc 0)) (aJ (Za (eC (.int 2)) (Ze)))))) (aq (Zw (xU (e1 (jz [87,97,108,107] [110,117,109,98,101,114,115]) (Zc 0)) (bG [87,97,108,107] [118,97,108,117,101,95,111,102] qU (aP (Zc 0)) (aJ (Za (e2 Zr (Zc 1) (eC (.int 1))) (Ze)))))) (Zw (bG [87,97,108,107] [115,112,101,110,100] Zz (aP (Zc 0)) (aJ (Za (eC (.int 1)) (Ze)))))))))
def Hg(rec:Nat->F3):S3:=aV (bG [87,97,108,107] [105,115,95,97,98,111,118,101] yu (aP (Zc 0)) (aJ (Za (e2 Zr (Zc 1) (eC (.int 1))) (Ze)))) (Zw (bG [87,97,108,107] [103,111,95,116,104,114,111,117,103,104] (rec 0) (aP (Zc 0)) (aJ (Za (e2 Zr (Zc 1) (eC (.int 2))) (Ze))))) (aq (Zw (bG [87,97,108,107] [103,111,95,116,104,114,111,117,103,104] (rec 0) (aP (Zc 0)) (aJ (Za (e2 Zr (Zc 1) (eC (.int 3))) (Ze))))) (Zw (bG [87,97,108,107] [115,112,101,110,100] Zz (aP (Zc 0)) (aJ (Za (eC (.int 1)) (Ze))))))
def Ly(rec:Nat->F3):S3:=Ge (kY (Zc 1)) (bQ 2) (Zw (bG [87,97,108,107] [100,111,95,100,101,101,100] (rec 1) (aP (Zc 0)) (aJ (Za (Zc 2) (Ze)))))
def Zh:Nat->Nat->F3
 |0,0=>bh 2 3 Aq|0,1=>bh 2 3 Aq|0,2=>bh 2 2 Aq|0,3=>bh 2 2 Aq
 |n+1,0=>bh 2 3 (Ly (Zh n))|n+1,1=>bh 2 3 (lZ (Zh n))|n+1,2=>bh 2 2 (Hg (Zh n))|n+1,3=>bh 2 2 (Lx (Zh n))
 |_,_=>λ_ _=>.bad
def Lz:F3:=Zh 13 0
def LC:S3:=aV (aP (e2 sW (aU bM (Za (Zc 1) (Ze))) (aU bM (Za (e2 Zr (Zc 0) (eC (.int 0))) (Ze))))) (Ba [66,97,100,71,105,118,101,110] (Za (eC (.str [116,104,101,32,103,105,118,101,110,115,32,97,114,101,32,110,111,116,32,97,115,32,109,97,110,121,32,97,115,32,116,104,101,32,110,97,109,101,115,32,116,97,107,101,110])) (Ze))) (gB (fQ))
def tW:F3:=bh 2 2 LC
def Bx:S3:=aq (Zw (Zu tW (aJ (Za (Zc 0) (Za (Zc 1) (Ze)))))) (aq (gB (aF 3 (Gd [87,97,108,107] yt (Za (Gg (e2 Zr (Zc 0) (eC (.int 0))) (Zc 1)) (Za (Zc 2) (Ze)))))) (aq (Zw (bG [87,97,108,107] [115,112,101,110,100] Zz (aP (Zc 3)) (aJ (Za (e2 eU (eC (.int 2)) (aU bM (Za (Zc 1) (Ze)))) (Ze))))) (aq (Zw (bG [87,97,108,107] [103,111,95,116,104,114,111,117,103,104] Lz (aP (Zc 3)) (aJ (Za (e2 Zr (Zc 0) (eC (.int 1))) (Ze))))) (gB (cM (bF (Za (e1 (jz [87,97,108,107] [110,117,109,98,101,114,115]) (Zc 3)) (Za (e1 (jz [87,97,108,107] [115,116,101,112,115]) (Zc 3)) (Ze)))))))))
def jD:F3:=bh 3 4 Bx
def LK:S3:=aq (Zw (Zu tW (aJ (Za (Zc 0) (Za (Zc 1) (Ze)))))) (gB (cM (e2 bf (aU kW (Za (Zc 1) (Ze))) (e2 oE (bF (Za (eC (.int 0)) (Ze))) (e2 jR (y_) (aU bM (Za (Zc 1) (Ze))))))))
def vY:F3:=bh 2 2 LK
def Uh:S3:=aq (aF 2 (eC (.int 0))) (aq (aV (e2 jc (aU bM (Za (Zc 0) (Ze))) (eC (.int 0))) (aF 2 (e2 aO (e2 Zr (Zc 0) (e2 aO (Zc 1) (aU bM (Za (Zc 0) (Ze))))) (eC (.int 2147483629)))) (fQ)) (aq (aF 3 (e2 aO (e2 eU (e2 bf (e2 bf (Zc 2) (eC (.int 3))) (e2 eU (eC (.int 86243)) (e2 dN (Zc 1) (aU Az (Za (eC (.int 1)) (Za (aU bM (Za (Zc 0) (Ze))) (Ze))))))) (eC (.int 69621))) (eC (.int 2147483629)))) (cM (e2 aO (e2 eU (Zc 3) (Zc 3)) (eC (.int 2147483587))))))
def Zq:F3:=bh 2 4 Uh
def Ui:S3:=aq (aF 2 (eC (.str [97,98,99,100,101,102,103,104,105,106,107,108,109,110,111,112,113,114,115,116,117,118,119,120,121,122]))) (aq (aF 3 (e2 Zr (Zc 2) (e2 aO (Zu Zq (Za (Zc 0) (Za (eC (.int 0)) (Ze)))) (eC (.int 26))))) (aq (aF 4 (e2 aO (Zu Zq (Za (Zc 0) (Za (eC (.int 1)) (Ze)))) (eC (.int 8)))) (aq (aF 5 (e2 aO (Zu Zq (Za (Zc 0) (Za (eC (.int 2)) (Ze)))) (e2 jR (eC (.int 8)) (Zc 4)))) (aq (aV (e2 bL (e2 aO (e2 dN (Zu Zq (Za (Zc 0) (Za (eC (.int 1)) (Ze)))) (eC (.int 8))) (eC (.int 2))) (eC (.int 1))) (aF 5 (e2 aO (Zu Zq (Za (Zc 0) (Za (e2 bf (eC (.int 4)) (Zc 1)) (Ze)))) (e2 jR (eC (.int 8)) (Zc 4)))) (fQ)) (aq (aF 6 (e2 bf (e2 bf (e2 eU (Zc 3) (Zc 4)) (e2 Zr (Zc 2) (e2 aO (e2 bf (Zc 1) (Zu Zq (Za (Zc 0) (Za (eC (.int 3)) (Ze))))) (eC (.int 26))))) (e2 eU (Zc 3) (Zc 5)))) (aq (aV (e2 bL (Zc 6) (eC (.str [97,100,100]))) (cM (eC (.str [97,100,100,100]))) (fQ)) (cM (Zc 6))))))))
def nu:F3:=bh 2 7 Ui
def Uj:S3:=aq (aF 1 (cg (Za (e2 aO (e2 dN (Zc 0) (eC (.int 8))) (eC (.int 5))) (Za (e2 aO (e2 dN (Zc 0) (eC (.int 8))) (eC (.int 1000))) (Za (e2 aO (e2 eU (e2 dN (Zc 0) (eC (.int 8))) (eC (.int 4099))) (e2 Aj (eC (.int 10)) (eC (.int 12)))) (Za (eC (.int 0)) (Ze))))))) (cM (e2 Zr (cg (Za (e2 Zr (Zc 1) (e2 aO (Zc 0) (eC (.int 4)))) (Za (e1 jk (e2 Zr (Zc 1) (e2 aO (Zc 0) (eC (.int 4))))) (Ze)))) (e2 aO (e2 dN (Zc 0) (eC (.int 4))) (eC (.int 2)))))
def oK:F3:=bh 1 2 Uj
def Uk:S3:=aq (aF 4 (cg (Ze))) (aq (aF 5 (eC (.int 1))) (aq (FW (e2 jc (Zc 5) (eC (.int 0))) (aq (aF 6 (Zu Zq (Za (Zc 0) (Za (e2 bf (Zc 1) (aU bM (Za (Zc 4) (Ze)))) (Ze))))) (aq (aF 5 (e2 jR (Zc 5) (eC (.int 1)))) (aV (kO (e2 Fy (e2 bf (aU bM (Za (Zc 4) (Ze))) (Zc 5)) (Zc 3)) (e2 lV (e2 aO (Zc 6) (eC (.int 5))) (eC (.int 2)))) (aV (e2 bL (e2 aO (e2 dN (Zc 6) (eC (.int 5))) (eC (.int 3))) (eC (.int 0))) (Zw (bD bI cj (Zc 4) (Za (Zu oK (Za (e2 dN (Zc 6) (eC (.int 15))) (Ze))) (Ze)))) (Zw (bD bI cj (Zc 4) (Za (e2 Zr (Zc 2) (e2 aO (e2 dN (Zc 6) (eC (.int 15))) (aU bM (Za (Zc 2) (Ze))))) (Ze))))) (aV (e2 bL (e2 aO (Zc 6) (eC (.int 5))) (eC (.int 2))) (aq (Zw (bD bI cj (Zc 4) (Za (eC (.str [99,101,108,108])) (Ze)))) (aF 5 (e2 bf (Zc 5) (eC (.int 1))))) (aq (Zw (bD bI cj (Zc 4) (Za (e2 Zr (cg (Za (eC (.str [97,100,100])) (Za (eC (.str [115,117,98])) (Za (eC (.str [109,111,114,101])) (Ze))))) (e2 aO (e2 dN (Zc 6) (eC (.int 5))) (eC (.int 3)))) (Ze)))) (aF 5 (e2 bf (Zc 5) (eC (.int 2)))))))))) (cM (aU kW (Za (Zc 4) (Ze))))))
def oM:F3:=bh 4 7 Uk
def Ul:S3:=aq (aF 2 (aU kW (Za (bD bI sX (Zc 0) (Ze)) (Ze)))) (aq (aF 3 (bD bI sX (Zc 1) (Ze))) (aV (e2 bL (e2 Zr (Zc 3) (eC (.int 0))) (eC (.str [119,104,105,108,101]))) (Zw (bD bI cj (e2 Zr (Zc 0) (e1 jk (eC (.int 1)))) (Za (bF (Za (eC (.str [119,104,105,108,101])) (Za (e2 Zr (Zc 3) (eC (.int 1))) (Za (e2 bf (Zc 2) (e2 Zr (Zc 3) (eC (.int 2)))) (Ze))))) (Ze)))) (aV (e2 Km (e2 Zr (Zc 3) (eC (.int 2))) (eC .non)) (aq (Zw (bD bI cj (Zc 1) (Za (bF (Za (e2 Zr (Zc 3) (eC (.int 0))) (Za (e2 Zr (Zc 3) (eC (.int 1))) (Za (Zc 2) (Ze))))) (Ze)))) (Zw (bD bI cj (Zc 0) (Za (cg (Ze)) (Ze))))) (Zw (bD bI cj (e2 Zr (Zc 0) (e1 jk (eC (.int 1)))) (Za (bF (Za (eC (.str [119,104,101,110])) (Za (e2 Zr (Zc 3) (eC (.int 1))) (Za (e2 Zr (Zc 3) (eC (.int 2))) (Za (Zc 2) (Ze)))))) (Ze)))))))
def vZ:F3:=bh 2 4 Ul
def Hh:S3:=aq (aF 5 (Zu Zq (Za (Zc 0) (Za (e2 bf (eC (.int 100)) (Zc 1)) (Ze))))) (aq (aV (e2 bL (e2 aO (Zc 5) (eC (.int 2))) (eC (.int 1))) (aq (aF 6 (Zu nu (Za (Zc 0) (Za (e2 bf (eC (.int 10)) (aU bM (Za (Zc 3) (Ze)))) (Ze))))) (aq (Zw (bD bI cj (e2 Zr (Zc 2) (e1 jk (eC (.int 1)))) (Za (bF (Za (eC (.str [115,101,116])) (Za (Zc 6) (Za (bF (Za (e2 aO (e2 dN (Zc 5) (eC (.int 2))) (eC (.int 4))) (Ze))) (Ze))))) (Ze)))) (aq (aF 7 (cg (Za (bF (Za (Zc 6) (Ze))) (Za (bF (Za (eC (.str [109,111,114,101])) (Za (Zc 6) (Za (eC (.int 0)) (Ze))))) (Za (bF (Za (eC (.str [97,100,100])) (Za (Zc 6) (Za (eC (.int 0)) (Ze))))) (Za (bF (Za (eC (.str [115,117,98])) (Za (Zc 6) (Za (eC (.int 0)) (Ze))))) (Za (bF (Za (e2 jR (eC (.int 1)) (e2 aO (e2 dN (Zc 5) (eC (.int 64))) (eC (.int 3)))) (Ze))) (Ze)))))))) (aq (aF 8 (e2 Zr (cg (Za (bF (Za (bF (Za (eC (.str [115,101,116])) (Za (Zc 6) (Za (bF (Za (eC (.str [115,117,98])) (Za (Zc 6) (Za (eC (.int 1)) (Ze))))) (Ze))))) (Ze))) (Za (bF (Ze)) (Ze)))) (aU tE (Za (e2 bL (e2 aO (e2 dN (Zc 5) (eC (.int 8))) (eC (.int 8))) (eC (.int 7))) (Ze))))) (Zw (bD bI cj (Zc 3) (Za (bF (Za (eC (.str [119,104,105,108,101])) (Za (e2 Zr (Zc 7) (e2 aO (e2 aO (e2 dN (Zc 5) (eC (.int 8))) (eC (.int 8))) (eC (.int 5)))) (Za (Zc 8) (Ze))))) (Ze)))))))) (Zw (bD bI cj (Zc 3) (Za (bF (Za (eC (.str [119,104,101,110])) (Za (Zu oM (Za (Zc 0) (Za (e2 bf (eC (.int 200)) (e2 eU (eC (.int 30)) (Zc 1))) (Za (Zc 4) (Za (eC (.int 4)) (Ze)))))) (Za (eC .non) (Ze))))) (Ze))))) (Zw (bD bI cj (Zc 2) (Za (cg (Ze)) (Ze)))))
def BJ:F3:=bh 5 9 Hh
def Um:S3:=aq (aF 3 (cg (Za (cg (Ze)) (Ze)))) (aq (aF 4 (cg (Ze))) (aq (Gb (R0 (Zc 1)) (Kw [5,6]) (aq (aF 7 (aU tE (Za (e2 bL (Zc 5) (e2 aO (Zu Zq (Za (Zc 0) (Za (eC (.int 58)) (Ze)))) (eC (.int 8)))) (Ze)))) (aq (aF 8 (Zu oM (Za (Zc 0) (Za (e2 bf (eC (.int 200)) (e2 eU (eC (.int 30)) (Zc 5))) (Za (Zc 2) (Za (e2 Zr (cg (Za (eC (.int 4)) (Za (eC (.int 10)) (Ze)))) (Zc 7)) (Ze))))))) (aV (e2 lV (e2 aO (Zc 6) (eC (.int 9))) (eC (.int 3))) (Zw (bD bI cj (e2 Zr (Zc 3) (e1 jk (eC (.int 1)))) (Za (bF (Za (eC (.str [115,101,116])) (Za (e2 Zr (Zc 2) (e2 aO (e2 dN (Zc 6) (eC (.int 9))) (eC (.int 6)))) (Za (Zc 8) (Ze))))) (Ze)))) (aV (e2 bL (e2 aO (Zc 6) (eC (.int 9))) (eC (.int 3))) (Zw (bD bI cj (e2 Zr (Zc 3) (e1 jk (eC (.int 1)))) (Za (bF (Za (eC (.str [112,117,116])) (Za (Zc 8) (Za (Zu oM (Za (Zc 0) (Za (e2 bf (eC (.int 215)) (e2 eU (eC (.int 30)) (Zc 5))) (Za (Zc 2) (Za (e2 Zr (cg (Za (eC (.int 3)) (Za (eC (.int 8)) (Ze)))) (Zc 7)) (Ze)))))) (Ze))))) (Ze)))) (aV (kJ (e2 lV (e2 aO (Zc 6) (eC (.int 9))) (eC (.int 6))) (e2 lV (aU bM (Za (Zc 4) (Ze))) (eC (.int 3)))) (Zw (Zu BJ (Za (Zc 0) (Za (Zc 5) (Za (Zc 3) (Za (Zc 4) (Za (Zc 2) (Ze)))))))) (aV (kJ (e2 bL (e2 aO (Zc 6) (eC (.int 9))) (eC (.int 6))) (e2 jc (aU bM (Za (Zc 4) (Ze))) (eC (.int 0)))) (Zw (Zu vZ (Za (Zc 3) (Za (Zc 4) (Ze))))) (Zw (bD bI cj (e2 Zr (Zc 3) (e1 jk (eC (.int 1)))) (Za (bF (Za (eC (.str [116,101,108,108])) (Za (Zc 8) (Ze)))) (Ze))))))))))) (aq (FW (e2 jc (aU bM (Za (Zc 4) (Ze))) (eC (.int 0))) (Zw (Zu vZ (Za (Zc 3) (Za (Zc 4) (Ze)))))) (cM (aU kW (Za (e2 Zr (Zc 3) (eC (.int 0))) (Ze)))))))
def LQ:F3:=bh 3 9 Um
def Uo:S3:=aq (aF 1 (lW (u9 (eC (.int 6))) 1 (bQ 3) [] (Zu nu (Za (Zc 0) (Za (Zc 3) (Ze)))))) (aq (aF 2 (aU kW (Za (m7 (Zc 1) (mZ) (m5 (e2 aO (Zu Zq (Za (Zc 0) (Za (eC (.int 50)) (Ze)))) (eC (.int 7))))) (Ze)))) (cM (bF (Za (Zc 2) (Za (Zu LQ (Za (Zc 0) (Za (m7 (Zc 0) (mZ) (m5 (eC (.int 24)))) (Za (e2 bf (Zc 1) (cg (Za (Zu nu (Za (Zc 0) (Za (eC (.int 10)) (Ze)))) (Ze)))) (Ze))))) (Ze))))))
def Hi:F3:=bh 1 3 Uo
def Uq:S3:=aq (aF 2 (lW (u9 (aU bM (Za (e2 Zr (Zc 1) (eC (.int 0))) (Ze)))) 1 (bQ 3) [] (Zu Zq (Za (Zc 0) (Za (e2 bf (eC (.int 60)) (Zc 3)) (Ze)))))) (cM (aU kW (Za (lW (kY (Zc 2)) 1 (bQ 3) [] (e2 eU (Zu oK (Za (Zc 3) (Ze))) (e2 Zr (cg (Za (eC (.int 1)) (Za (e2 Aj (eC (.int 10)) (eC (.int 17))) (Ze)))) (e2 aO (e2 dN (Zc 3) (eC (.int 7))) (eC (.int 2)))))) (Ze))))
def Hj:F3:=bh 2 3 Uq
def Ur:S3:=aq (aF 3 (eC .non)) (aq (aF 4 (eC .non)) (aq (Bb [[66,97,100,71,105,118,101,110],[83,112,101,110,116]] 5 (Zw (Zu vY (aJ (Za (Zc 0) (Za (Zc 1) (Ze)))))) (aF 3 (Zc 5))) (aq (Bb [[66,97,100,71,105,118,101,110],[83,112,101,110,116]] 5 (Zw (Zu jD (aJ (Za (Zc 0) (Za (Zc 1) (Za (Zc 2) (Ze))))))) (aF 4 (Zc 5))) (aq (sZ (kY (cg (Za (Zc 3) (Za (Zc 4) (Ze))))) (bQ 6) (aV (kO (e1 mV (e1 (lg [[66,97,100,71,105,118,101,110]] [[83,112,101,110,116]]) (Zc 6))) (kO (e1 (lg [[83,112,101,110,116]] [[66,97,100,71,105,118,101,110]]) (Zc 6)) (e1 mV (e1 (lg [[66,97,100,71,105,118,101,110],[83,112,101,110,116]] []) (Zc 6))))) (cM (eC (.bl false))) (fQ))) (cM (eC (.bl true)))))))
def yw:F3:=bh 3 7 Ur
def LR:S3:=aq (aF 3 (eC .non)) (aq (xV [[83,112,101,110,116]] (aV (aP (e2 bL (Zc 0) (eC (.int 0)))) (aF 3 (Zu (Tv jD [.int 400]) (aJ (Za (Zc 1) (Za (Zc 2) (Ze)))))) (aV (aP (e2 bL (Zc 0) (eC (.int 1)))) (aF 3 (Zu jD (aJ (Ld (Za (Zc 1) (Za (Zc 2) (Ze))) (eC (.int 150)))))) (aF 3 (Zu jD (aJ (Za (Zc 1) (Za (Zc 2) (Za (eC (.int 150)) (Ze))))))))) (aF 3 (eC .non))) (cM (Zc 3)))
def yx:F3:=bh 3 4 LR
def Us:S3:=aq (aF 1 (Zu Hi (Za (Zc 0) (Ze)))) (aq (aF 2 (Zu Hj (Za (Zc 0) (Za (Zc 1) (Ze))))) (aq (aF 3 (Zu vY (Za (Zc 1) (Za (Zc 2) (Ze))))) (aq (aV (kO (e1 mV (e1 (m8 .tuple) (Zc 3))) (e2 sW (aU bM (Za (Zc 3) (Ze))) (eC (.int 8)))) (cM (eC (.bl false))) (fQ)) (aq (sZ (kY (Zc 3)) (bQ 4) (aV (kO (e1 mV (e1 (m8 .int) (Zc 4))) (e1 (m8 .bool) (Zc 4))) (cM (eC (.bl false))) (fQ))) (aq (aV (e2 sW (Zc 3) (e2 bf (Zc 2) (e2 oE (bF (Za (eC (.int 0)) (Ze))) (e2 jR (eC (.int 8)) (aU bM (Za (Zc 2) (Ze))))))) (cM (eC (.bl false))) (fQ)) (aq (aF 4 (Zu oK (Za (Zu Zq (Za (Zc 0) (Za (eC (.int 52)) (Ze)))) (Ze)))) (aq (sZ (kY (cg (Za (e2 bf (Zc 2) (bF (Za (Zc 4) (Ze)))) (Za (e2 oE (bF (Za (Zc 4) (Ze))) (eC (.int 9))) (Za (e2 bf (m7 (Zc 2) (m5 (eC (.int 1))) (mZ)) (e2 oE (bF (Za (Zc 4) (Ze))) (eC (.int 2)))) (Ze)))))) (bQ 5) (aV (e1 mV (Zu yw (Za (Zc 1) (Za (Zc 5) (Za (e2 aO (Zu Zq (Za (Zc 0) (Za (eC (.int 53)) (Ze)))) (eC (.int 151))) (Ze)))))) (cM (eC (.bl false))) (fQ))) (aq (aV (kJ (e2 jc (aU bM (Za (Zc 2) (Ze))) (eC (.int 0))) (e1 mV (Zu yw (Za (Zc 1) (Za (m7 (Zc 2) (m5 (eC (.int 1))) (mZ)) (Za (eC (.int 0)) (Ze))))))) (cM (eC (.bl false))) (fQ)) (aq (aF 6 (Zu yx (Za (eC (.int 2)) (Za (Zc 1) (Za (Zc 2) (Ze)))))) (aq (aV (e2 Km (Zc 6) (eC .non)) (cM (eC (.bl true))) (fQ)) (cM (kJ (e2 Gh (Zu yx (Za (eC (.int 0)) (Za (Zc 1) (Za (Zc 2) (Ze))))) (Zc 6)) (e2 Gh (Zu yx (Za (eC (.int 1)) (Za (Zc 1) (Za (Zc 2) (Ze))))) (Zc 6))))))))))))))
def Zm5:F3:=bh 1 7 Us
end
end Law
namespace Law
open PySem PySem.Spec PyProof.Rows L2 L3
noncomputable def top(i:Nat):Yc6:=PySem.Challenge.pw_stepledger_k75_givens.main.body.getD i (.Pass ⟨0,0,0,0⟩)
noncomputable abbrev BK:Yc6:=top 5
noncomputable abbrev BP:Yc6:=top 8
noncomputable abbrev BR:Yc6:=top 9
noncomputable abbrev BV:Yc6:=top 12
noncomputable abbrev BW:Yc6:=top 13
noncomputable abbrev BX:Yc6:=top 16
noncomputable abbrev BZ:Yc6:=top 18
noncomputable abbrev B_:Yc6:=top 19
noncomputable abbrev Cd:Yc6:=top 20
noncomputable abbrev Ce:Yc6:=top 21
noncomputable abbrev Cg:Yc6:=top 22
noncomputable abbrev Ci:Yc6:=top 23
noncomputable abbrev Cj:Yc6:=top 24
noncomputable abbrev Ck:Yc6:=top 25
noncomputable abbrev Cm:Yc6:=top 26
noncomputable abbrev Cp:Yc6:=top 27
noncomputable abbrev Cq:Yc6:=top 28
noncomputable abbrev tX:Yc6:=top 29
noncomputable abbrev Cr:Yc6:=(vP (top 11)).getD 0 (.Pass ⟨0,0,0,0⟩)
noncomputable abbrev Cu:Yc6:=(vP (top 11)).getD 1 (.Pass ⟨0,0,0,0⟩)
noncomputable abbrev Cv:Yc6:=(vP (top 11)).getD 2 (.Pass ⟨0,0,0,0⟩)
noncomputable abbrev Cw:Yc6:=(vP (top 11)).getD 3 (.Pass ⟨0,0,0,0⟩)
noncomputable abbrev Cy:Yc6:=(vP (top 11)).getD 4 (.Pass ⟨0,0,0,0⟩)
noncomputable abbrev Cz:Yc6:=(vP (top 11)).getD 5 (.Pass ⟨0,0,0,0⟩)
noncomputable abbrev CJ:Yc6:=(vP (top 11)).getD 6 (.Pass ⟨0,0,0,0⟩)
noncomputable abbrev CK:Yc6:=(vP (top 11)).getD 7 (.Pass ⟨0,0,0,0⟩)
structure yC(K:DW)(mg:aj->Option Yd)(C:Ym):Prop where
  ok:vO K [87,97,108,107] C
  mg:mg "Walk" =Ya (.ref C)
  NZ:mR K C (nm [99,101,108,108,115])
  Wm:mR K C (nm [109,111,115,116])
  N5:mR K C (nm [110,97,109,101,100])
  Nt:mR K C (nm [110,117,109,98,101,114,115])
  Dq:mR K C (nm [115,116,101,112,115])
structure Hl(K:DW)(mg:aj->Option Yd)(fu cO cA:Ym):Prop where
  V4:mg "LedgerError" =Ya (.ref fu)
  Wb:mg "BadGiven" =Ya (.ref cO)
  Nx:mg "Spent" =Ya (.ref cA)
  AbM:TX K [66,97,100,71,105,118,101,110] cO
  Acy:TX K [83,112,101,110,116] cA
  V6:∀c C,([[66,97,100,71,105,118,101,110],[83,112,101,110,116]]:List (List Nat)).contains c=true->ClsAt K c C->wH K (.ref C) (.ref fu)=Ya true
  Acz:∀c C,([[83,112,101,110,116]]:List (List Nat)).contains c=true->ClsAt K c C->wH K (.ref C) (.ref cA)=Ya true
  AbN:yo K [[66,97,100,71,105,118,101,110]] [[83,112,101,110,116]] [.ref cO]
  AcA:yo K [[83,112,101,110,116]] [[66,97,100,71,105,118,101,110]] [.ref cA]
  Abg:yo K [[66,97,100,71,105,118,101,110],[83,112,101,110,116]] [] [.type "ValueError"]
structure Txt(K:DW)(mg:aj->Option Yd):Prop where
  pH:True
  Abh:mg "ValueError" =Yh
  AcJ:mg "bool" =Yh
  AcK:mg "dict" =Yh
  Abo:mg "enumerate" =Yh
  Ik:mg "int" =Yh
  wA:mg "isinstance" =Yh
  iH:mg "len" =Yh
  AcP:mg "max" =Yh
  Wj:mg "range" =Yh
  t8:mg "tuple" =Yh
  AcQ:mg "zip" =Yh
  y_:∃t,mg "BOXES" =Ya (.int 8 t)
  AcB:∃a,mg "PARTS" =Ya (.ref a)/\Bu K a tV
theorem Zqc{X:Cx}{pos:aM}(T:Txt X.K X.mg)(hg:Gl X "BOXES":=by rfl):C3 X (.Name "BOXES" pos) y_:=by obtain⟨t,e⟩:=T.y_;exact Zur (v:=.int 8) e ⟨t,rfl⟩ (λ_ _=>Rep.int) hg
theorem Zl0{X:Cx}{e e':Expr}{npos apos cpos:aM}{g g':E3}(T:Txt X.K X.mg)(he:C3 X e g)(he':C3 X e' g')(m:M2 X (.Name "PARTS" npos) "get" apos e e' cpos:=by exact⟨rfl,rfl,rfl,rfl⟩)(hg:Gl X "PARTS":=by rfl):C3 X (.Call (.Attribute (.Name "PARTS" npos) "get" apos) [e,e'] [] cpos) (e2 (Bc tV) g g'):=by obtain⟨a,hm,ht⟩:=T.AcB;exact Zrc hm ht he he' m hg
variable{aA:Ym}
section
variable {P:Y5} {w:aK} {K:DW} {mg:aj->Option Yd} {base:au}
theorem Zom:cX ["name","one","other"] ["name","one","other"] (Zj BK):=⟨rfl,rfl,rfl,by decide +kernel,rfl,by decide +kernel,by decide +kernel⟩
theorem Zor(A:di K mg "worked" BK ["name","one","other"])(T:Txt K mg):bx P w K mg base 1 "worked" ["name","one","other"] Lq:=bx.of (N:=["name","one","other"]) (k:=0) A Zom λf cdv A outer s H E hr=>by have hu:=gn hr;unfold Uc;exact Zn (gU (cR ((ig hu)) (Zd 0) fc) (Zx (eV (Zt gC (Zd 1) (Zd 2)))) jn) (Zn (gU (cR ((ig hu)) (Zd 0) fc) (Zx (eV (Zt vG (Zd 1) (Zd 2)))) jn) (Zx (eV (Zv1 (cR vI (Zd 1) (Zd 2)) Zi Zi))))
theorem CN:cX ["words","sums","lacking","word"] ["words"] (Zj BP):=⟨rfl,rfl,rfl,by decide +kernel,rfl,by decide +kernel,by decide +kernel⟩
theorem Zmg(A:di K mg "sums_in" BP ["words"])(T:Txt K mg):bx P w K mg base 1 "sums_in" ["words"] Lr:=bx.of (N:=["words","sums","lacking","word"]) (k:=0) A CN λf cdv A outer s H E hr=>by have hu:=gn hr;unfold Ud;exact Zn (cu 1 CN.nd (iT Zf)) (Zn (cu 2 CN.nd Zi) (Zn (KZ rfl rfl (vN (Zd 0)) (qN 3 CN.nd) (Zn (gU (cR ((ig hu)) (Zd 2) Zi) (Zn (iU (jB (Zd 1) (Zb (iT Zf) Zf))) (Zx (cu 2 CN.nd Zi))) jn) (Zn (iU (jB (bA bB (Zd 1) (vC vH Zi)) (Zb (Zd 3) Zf))) (Zx (cu 2 CN.nd (Zt gC (Zt vG (Zd 2) Zi) (Zl0 T (Zd 3) Zi))))))) (Zx (eV (Zv1 (cR ((ig hu)) (Zd 2) Zi) (Zvx (N':=["words","sums","lacking","word","one"]) (Gz rfl (by kernel_rfl)) rfl rfl (vN (Zd 1)) (λC cl s H ex=>⟨(qN 4 ((show zO (["words","sums","lacking","word","one"]:List aj)by decide +kernel))),K7,(tM (T:="tuple") x_ T.t8 yc (Zb (Zd 4) Zf))⟩)) vB)))))
theorem Zll:cX ["words"] ["words"] (Zj BR):=⟨rfl,rfl,rfl,by decide +kernel,rfl,by decide +kernel,by decide +kernel⟩
theorem Zk8(A:di K mg "parts_of" BR ["words"])(T:Txt K mg)(Nu:bx P w K mg base 1 "sums_in" ["words"] Lr):bx P w K mg base 2 "parts_of" ["words"] yr:=bx.of (N:=["words"]) (k:=1) A Zll λf cdv A outer s H E hr=>by have hu:=gn hr;unfold Ue;exact Zx (eV (cT (k:=1) (ps:=["words"]) Nu (hr.mono (by decide)) (Zb (Gp Gy (Zd 0) (Gn Zi) Gm) Zf)))
theorem ZgO:cX ["self","named","most"] ["self","named","most"] (Zj Cr):=⟨rfl,rfl,rfl,by decide +kernel,rfl,by decide +kernel,by decide +kernel⟩
theorem Zg1(aN:yC K mg aA)(A:Le K aA "Walk.__init__" Cr ["self","named","most"])(T:Txt K mg):Bm P w K mg base 1 aA ["self","named","most"] yt:=Bm.of (N:=["self","named","most"]) (k:=0) A ZgO λf cdv A outer s H E hr=>by have hu:=gn hr;unfold Ug;exact Zn (Bl (C:=aA) (c:=[87,97,108,107]) (m:=[110,97,109,101,100]) aN.ok aN.N5 (Zd 0) (Zd 1)) (Zn (Bl (C:=aA) (c:=[87,97,108,107]) (m:=[99,101,108,108,115]) aN.ok aN.NZ (Zd 0) Zt3) (Zn (Bl (C:=aA) (c:=[87,97,108,107]) (m:=[110,117,109,98,101,114,115]) aN.ok aN.Nt (Zd 0) (iT Zf)) (Zn (Bl (C:=aA) (c:=[87,97,108,107]) (m:=[115,116,101,112,115]) aN.ok aN.Dq (Zd 0) Zi) (Zx (Bl (C:=aA) (c:=[87,97,108,107]) (m:=[109,111,115,116]) aN.ok aN.Wm (Zd 0) (Zd 2))))))
theorem ZiL:cX ["self","steps"] ["self","steps"] (Zj Cu):=⟨rfl,rfl,rfl,by decide +kernel,rfl,by decide +kernel,by decide +kernel⟩
theorem ZiG(aN:yC K mg aA)(A:jY K aA "spend" "Walk.spend" Cu ["self","steps"])(T:Txt K mg){fu cO cA:Ym}(XO:Hl K mg fu cO cA):dj P w K mg base 1 aA "spend" ["self","steps"] Zz:=dj.of (N:=["self","steps"]) (k:=0) A ZiL λf cdv A outer s H E hr=>by have hu:=gn hr;unfold Ls;exact gW (tR (Bl (C:=aA) (c:=[87,97,108,107]) (m:=[115,116,101,112,115]) aN.ok aN.Dq (Zd 0) (Zt gC (qP (C:=aA) (c:=[87,97,108,107]) (m:=[115,116,101,112,115]) aN.ok aN.Dq (Zd 0)) (Zd 1)))) (dG (pR (cR vI (qP (C:=aA) (c:=[87,97,108,107]) (m:=[115,116,101,112,115]) aN.ok aN.Dq (Zd 0)) (qP (C:=aA) (c:=[87,97,108,107]) (m:=[109,111,115,116]) aN.ok aN.Wm (Zd 0))) (dG (Zjm (C:=cA) XO.Acy XO.Nx (Zb fc Zf))) (GJ jn)))
theorem Ut:cX ["self","words","parts"] ["self","words"] (Zj Cv):=⟨rfl,rfl,rfl,by decide +kernel,rfl,by decide +kernel,by decide +kernel⟩
theorem Zgd(aN:yC K mg aA)(Ny:bx P w K mg base 1 "worked" ["name","one","other"] Lq)(Nm:bx P w K mg base 2 "parts_of" ["words"] yr)(iw:dj P w K mg base 1 aA "spend" ["self","steps"] Zz)(V3:jY K aA "value_of" "Walk.value_of" Cv ["self","words"])(T:Txt K mg):∀n:Nat,dj P w K mg base (n+3) aA "value_of" ["self","words"] (Lw n 0):=by
  intro n
  induction n with
  |zero=>exact dj.of (N:=["self","words","parts"]) (k:=2) V3 Ut λf cdv A outer s H E hr=>G9|succ n IH=>
    have Aal:=IH
    · refine(dj.of (N:=["self","words","parts"]) (k:=n+3) V3 Ut λf cdv A outer s H E hr=>?_).mono (by omega)
      have hu:=gn hr;unfold vX;exact gW (Zos (N':=["self","words","parts","part"]) 2 (Gz rfl (by kernel_rfl)) rfl Ut.nd (vN (cT (k:=2) (ps:=["words"]) Nm (hr.mono (by omega)) (Zb (Zd 1) Zf))) (λC cl s H ex E=>⟨(qN 3 ((show zO (["self","words","parts","part"]:List aj)by decide +kernel))),(fV (C:=aA) (c:=[87,97,108,107]) (m:=[118,97,108,117,101,95,111,102]) (k:=n+3) (ps:=["self","words"]) aN.ok Aal hr (Zd 0) (Zb (Zd 3) Zf))⟩)) (gW (pR (cR ((ig hu)) (iD (id:="len") iV T.iH iW (Zb (Zd 2) Zf)) Zi) (gW (gH (fV (C:=aA) (c:=[87,97,108,107]) (m:=[115,112,101,110,100]) (k:=1) (ps:=["self","steps"]) aN.ok iw (hr.mono (by omega)) (Zd 0) (Zb Zi Zf))) (dG (tR (eV (cT (k:=1) (ps:=["name","one","other"]) Ny (hr.mono (by omega)) (Zb (bA bB (Zd 1) Zi) (Zb (bA bB (Zd 2) Zi) (Zb (bA bB (Zd 2) Zi) Zf)))))))) (GJ jn)) (gW (pR (cR ((ig hu)) (iD (id:="len") iV T.iH iW (Zb (Zd 2) Zf)) Zi) (gW (gH (fV (C:=aA) (c:=[87,97,108,107]) (m:=[115,112,101,110,100]) (k:=1) (ps:=["self","steps"]) aN.ok iw (hr.mono (by omega)) (Zd 0) (Zb Zi Zf))) (dG (tR (eV (Zp5 hu (qP (C:=aA) (c:=[87,97,108,107]) (m:=[99,101,108,108,115]) aN.ok aN.NZ (Zd 0)) (bA bB (Zd 2) Zi) Zi))))) (GJ jn)) (gW (pR (tL (La .int T.wA T.Ik (bA bB (Zd 1) Zi))) (gW (gH (fV (C:=aA) (c:=[87,97,108,107]) (m:=[115,112,101,110,100]) (k:=1) (ps:=["self","steps"]) aN.ok iw (hr.mono (by omega)) (Zd 0) (Zb Zi Zf))) (dG (tR (eV (bA bB (Zd 1) Zi))))) (GJ jn)) (gW (gH (fV (C:=aA) (c:=[87,97,108,107]) (m:=[115,112,101,110,100]) (k:=1) (ps:=["self","steps"]) aN.ok iw (hr.mono (by omega)) (Zd 0) (Zb Zi Zf))) (dG (tR (eV (Zp5 hu (qP (C:=aA) (c:=[87,97,108,107]) (m:=[110,97,109,101,100]) aN.ok aN.N5 (Zd 0)) (bA bB (Zd 1) Zi) Zi))))))))
theorem Zez:cX ["self","words","value"] ["self","words"] (Zj Cw):=⟨rfl,rfl,rfl,by decide +kernel,rfl,by decide +kernel,by decide +kernel⟩
theorem ZgQ(aN:yC K mg aA)(A:jY K aA "is_above" "Walk.is_above" Cw ["self","words"])(T:Txt K mg)(iw:dj P w K mg base 1 aA "spend" ["self","steps"] Zz)(pY:dj P w K mg base 16 aA "value_of" ["self","words"] qU):dj P w K mg base 17 aA "is_above" ["self","words"] yu:=dj.of (N:=["self","words","value"]) (k:=16) A Zez λf cdv A outer s H E hr=>by have hu:=gn hr;unfold Hf;exact gW (GK 2 Zez.nd (fV (C:=aA) (c:=[87,97,108,107]) (m:=[118,97,108,117,101,95,111,102]) (k:=16) (ps:=["self","words"]) aN.ok pY (hr.mono (by decide)) (Zd 0) (Zb (Zd 1) Zf))) (gW (gH (fV (C:=aA) (c:=[87,97,108,107]) (m:=[115,112,101,110,100]) (k:=1) (ps:=["self","steps"]) aN.ok iw (hr.mono (by decide)) (Zd 0) (Zb Zi Zf))) (dG (tR (eV (Gj vI (Zd 2) Zi)))))
theorem Zfm:cX ["self","deed"] ["self","deed"] (Zj CK):=⟨rfl,rfl,rfl,by decide +kernel,rfl,by decide +kernel,by decide +kernel⟩
theorem Uu:cX ["self","deed","number"] ["self","deed"] (Zj Cz):=⟨rfl,rfl,rfl,by decide +kernel,rfl,by decide +kernel,by decide +kernel⟩
theorem Zfo:cX ["self","deed"] ["self","deed"] (Zj CJ):=⟨rfl,rfl,rfl,by decide +kernel,rfl,by decide +kernel,by decide +kernel⟩
theorem Uv:cX ["self","deeds","deed"] ["self","deeds"] (Zj Cy):=⟨rfl,rfl,rfl,by decide +kernel,rfl,by decide +kernel,by decide +kernel⟩
theorem ZfG(aN:yC K mg aA)(Dl:dj P w K mg base 17 aA "is_above" ["self","words"] yu)(iw:dj P w K mg base 1 aA "spend" ["self","steps"] Zz)(pY:dj P w K mg base 16 aA "value_of" ["self","words"] qU)(VL:jY K aA "go_through" "Walk.go_through" Cy ["self","deeds"])(V5:jY K aA "do_deed" "Walk.do_deed" Cz ["self","deed"])(V7:jY K aA "choose" "Walk.choose" CJ ["self","deed"])(V8:jY K aA "repeat" "Walk.repeat" CK ["self","deed"])(T:Txt K mg):∀n:Nat,dj P w K mg base (n+18) aA "go_through" ["self","deeds"] (Zh n 0)/\dj P w K mg base (n+18) aA "do_deed" ["self","deed"] (Zh n 1)/\dj P w K mg base (n+18) aA "choose" ["self","deed"] (Zh n 2)/\dj P w K mg base (n+18) aA "repeat" ["self","deed"] (Zh n 3):=by
  intro n
  induction n with
  |zero=>exact⟨dj.of (N:=["self","deeds","deed"]) (k:=17) VL Uv λf cdv A outer s H E hr=>G9,dj.of (N:=["self","deed","number"]) (k:=17) V5 Uu λf cdv A outer s H E hr=>G9,dj.of (N:=["self","deed"]) (k:=17) V7 Zfo λf cdv A outer s H E hr=>G9,dj.of (N:=["self","deed"]) (k:=17) V8 Zfm λf cdv A outer s H E hr=>G9⟩|succ n IH=>
    obtain⟨MN,Aaq,Aav,Aaw⟩:=IH;refine⟨?_,?_,?_,?_⟩
    · refine(dj.of (N:=["self","deeds","deed"]) (k:=n+18) VL Uv λf cdv A outer s H E hr=>?_).mono (by omega)
      have hu:=gn hr;unfold Ly;exact dG (ZrQ Yjv rfl (vN (Zd 1)) (qN 2 Uv.nd) (dG (gH (fV (C:=aA) (c:=[87,97,108,107]) (m:=[100,111,95,100,101,101,100]) (k:=n+18) (ps:=["self","deed"]) aN.ok Aaq hr (Zd 0) (Zb (Zd 2) Zf)))))
    · refine(dj.of (N:=["self","deed","number"]) (k:=n+18) V5 Uu λf cdv A outer s H E hr=>?_).mono (by omega)
      have hu:=gn hr;unfold lZ;exact dG (pR (cR ((ig hu)) (bA bB (Zd 1) Zi) fc) (dG (gH (fV (C:=aA) (c:=[87,97,108,107]) (m:=[99,104,111,111,115,101]) (k:=n+18) (ps:=["self","deed"]) aN.ok Aav hr (Zd 0) (Zb (Zd 1) Zf)))) (dG (pR (cR ((ig hu)) (bA bB (Zd 1) Zi) fc) (dG (gH (fV (C:=aA) (c:=[87,97,108,107]) (m:=[114,101,112,101,97,116]) (k:=n+18) (ps:=["self","deed"]) aN.ok Aaw hr (Zd 0) (Zb (Zd 1) Zf)))) (dG (pR (cR ((ig hu)) (bA bB (Zd 1) Zi) fc) (gW (GK 2 Uu.nd (fV (C:=aA) (c:=[87,97,108,107]) (m:=[118,97,108,117,101,95,111,102]) (k:=16) (ps:=["self","words"]) aN.ok pY (hr.mono (by omega)) (Zd 0) (Zb (bA bB (Zd 1) Zi) Zf))) (gW (Zks hu (qP (C:=aA) (c:=[87,97,108,107]) (m:=[99,101,108,108,115]) aN.ok aN.NZ (Zd 0)) (Zd 2) (fV (C:=aA) (c:=[87,97,108,107]) (m:=[118,97,108,117,101,95,111,102]) (k:=16) (ps:=["self","words"]) aN.ok pY (hr.mono (by omega)) (Zd 0) (Zb (bA bB (Zd 1) Zi) Zf))) (dG (gH (fV (C:=aA) (c:=[87,97,108,107]) (m:=[115,112,101,110,100]) (k:=1) (ps:=["self","steps"]) aN.ok iw (hr.mono (by omega)) (Zd 0) (Zb Zi Zf)))))) (dG (pR (cR ((ig hu)) (bA bB (Zd 1) Zi) fc) (gW (Zks hu (qP (C:=aA) (c:=[87,97,108,107]) (m:=[110,97,109,101,100]) aN.ok aN.N5 (Zd 0)) (bA bB (Zd 1) Zi) (fV (C:=aA) (c:=[87,97,108,107]) (m:=[118,97,108,117,101,95,111,102]) (k:=16) (ps:=["self","words"]) aN.ok pY (hr.mono (by omega)) (Zd 0) (Zb (bA bB (Zd 1) Zi) Zf))) (dG (gH (fV (C:=aA) (c:=[87,97,108,107]) (m:=[115,112,101,110,100]) (k:=1) (ps:=["self","steps"]) aN.ok iw (hr.mono (by omega)) (Zd 0) (Zb Zi Zf))))) (gW (gH (Zuh (qP (C:=aA) (c:=[87,97,108,107]) (m:=[110,117,109,98,101,114,115]) aN.ok aN.Nt (Zd 0)) (fV (C:=aA) (c:=[87,97,108,107]) (m:=[118,97,108,117,101,95,111,102]) (k:=16) (ps:=["self","words"]) aN.ok pY (hr.mono (by omega)) (Zd 0) (Zb (bA bB (Zd 1) Zi) Zf)))) (dG (gH (fV (C:=aA) (c:=[87,97,108,107]) (m:=[115,112,101,110,100]) (k:=1) (ps:=["self","steps"]) aN.ok iw (hr.mono (by omega)) (Zd 0) (Zb Zi Zf))))))))))))
    · refine(dj.of (N:=["self","deed"]) (k:=n+18) V7 Zfo λf cdv A outer s H E hr=>?_).mono (by omega)
      have hu:=gn hr;unfold Hg;exact dG (ZqQ (fV (C:=aA) (c:=[87,97,108,107]) (m:=[105,115,95,97,98,111,118,101]) (k:=17) (ps:=["self","words"]) aN.ok Dl (hr.mono (by omega)) (Zd 0) (Zb (bA bB (Zd 1) Zi) Zf)) (dG (gH (fV (C:=aA) (c:=[87,97,108,107]) (m:=[103,111,95,116,104,114,111,117,103,104]) (k:=n+18) (ps:=["self","deeds"]) aN.ok MN hr (Zd 0) (Zb (bA bB (Zd 1) Zi) Zf)))) (gW (gH (fV (C:=aA) (c:=[87,97,108,107]) (m:=[103,111,95,116,104,114,111,117,103,104]) (k:=n+18) (ps:=["self","deeds"]) aN.ok MN hr (Zd 0) (Zb (bA bB (Zd 1) Zi) Zf))) (dG (gH (fV (C:=aA) (c:=[87,97,108,107]) (m:=[115,112,101,110,100]) (k:=1) (ps:=["self","steps"]) aN.ok iw (hr.mono (by omega)) (Zd 0) (Zb Zi Zf))))))
    · refine(dj.of (N:=["self","deed"]) (k:=n+18) V8 Zfm λf cdv A outer s H E hr=>?_).mono (by omega)
      have hu:=gn hr;unfold Lx;exact gW (ZlG Yjv (fV (C:=aA) (c:=[87,97,108,107]) (m:=[105,115,95,97,98,111,118,101]) (k:=17) (ps:=["self","words"]) aN.ok Dl (hr.mono (by omega)) (Zd 0) (Zb (bA bB (Zd 1) Zi) Zf)) (gW (gH (fV (C:=aA) (c:=[87,97,108,107]) (m:=[103,111,95,116,104,114,111,117,103,104]) (k:=n+18) (ps:=["self","deeds"]) aN.ok MN hr (Zd 0) (Zb (bA bB (Zd 1) Zi) Zf))) (dG (gH (fV (C:=aA) (c:=[87,97,108,107]) (m:=[115,112,101,110,100]) (k:=1) (ps:=["self","steps"]) aN.ok iw (hr.mono (by omega)) (Zd 0) (Zb Zi Zf)))))) (dG (gH (fV (C:=aA) (c:=[87,97,108,107]) (m:=[115,112,101,110,100]) (k:=1) (ps:=["self","steps"]) aN.ok iw (hr.mono (by omega)) (Zd 0) (Zb Zi Zf))))
theorem ZfE:cX ["program","given"] ["program","given"] (Zj BW):=⟨rfl,rfl,rfl,by decide +kernel,rfl,by decide +kernel,by decide +kernel⟩
theorem ZfH(A:di K mg "refuse_bad_given" BW ["program","given"])(T:Txt K mg){fu cO cA:Ym}(XO:Hl K mg fu cO cA):nj P w K mg base 1 "refuse_bad_given" ["program","given"] tW:=nj.of (N:=["program","given"]) (k:=0) A ZfE λf cdv A outer s H E hr=>by have hu:=gn hr;unfold LC;exact dG (pR (cR ((Tn hu)) (iD (id:="len") iV T.iH iW (Zb (Zd 1) Zf)) (iD (id:="len") iV T.iH iW (Zb (bA bB (Zd 0) Zi) Zf))) (dG (Zjm (C:=cO) XO.AbM XO.Wb (Zb fc Zf))) (GJ jn))
theorem ZhZ:cX ["program","given","most","walk"] ["program","given","most"] (Zj BV):=⟨rfl,rfl,rfl,by decide +kernel,rfl,by decide +kernel,by decide +kernel⟩
theorem Zmo(A:DefX K mg "meaning" BV ["program","given","most"] [.int 400] 2 "most")(T:Txt K mg)(aN:yC K mg aA)(MP:Bm P w K mg base 1 aA ["self","named","most"] yt)(HY:dj P w K mg base 31 aA "go_through" ["self","deeds"] Lz)(iw:dj P w K mg base 1 aA "spend" ["self","steps"] Zz)(wz:nj P w K mg base 1 "refuse_bad_given" ["program","given"] tW):qT P w K mg base 32 "meaning" ["program","given","most"] jD [.int 400] 2 "most":=qT.of (N:=["program","given","most","walk"]) (k:=31) A ZhZ λf cdv A outer s H E hr=>by have hu:=gn hr;unfold Bx;exact gW (gH (GQ (k:=1) (ps:=["program","given"]) wz (hr.mono (by decide)) (Zb (Zd 0) (Zb (Zd 1) Zf)))) (gW (tR (cu 3 ZhZ.nd (Zxv (C:=aA) (c:=[87,97,108,107]) (k:=1) (ps:=["self","named","most"]) aN.ok MP aN.mg (hr.mono (by decide)) (Zb (Zn1 rfl T.AcQ T.AcK (bA bB (Zd 0) Zi) (Zd 1)) (Zb (Zd 2) Zf))))) (gW (gH (fV (C:=aA) (c:=[87,97,108,107]) (m:=[115,112,101,110,100]) (k:=1) (ps:=["self","steps"]) aN.ok iw (hr.mono (by decide)) (Zd 3) (Zb (Zt pQ Zi (iD (id:="len") iV T.iH iW (Zb (Zd 1) Zf))) Zf))) (gW (gH (fV (C:=aA) (c:=[87,97,108,107]) (m:=[103,111,95,116,104,114,111,117,103,104]) (k:=31) (ps:=["self","deeds"]) aN.ok HY (hr.mono (by decide)) (Zd 3) (Zb (bA bB (Zd 0) Zi) Zf))) (dG (tR (eV (gm (Zb (qP (C:=aA) (c:=[87,97,108,107]) (m:=[110,117,109,98,101,114,115]) aN.ok aN.Nt (Zd 3)) (Zb (qP (C:=aA) (c:=[87,97,108,107]) (m:=[115,116,101,112,115]) aN.ok aN.Dq (Zd 3)) Zf)))))))))
theorem Zlg:cX ["program","given"] ["program","given"] (Zj BX):=⟨rfl,rfl,rfl,by decide +kernel,rfl,by decide +kernel,by decide +kernel⟩
theorem Zle(A:di K mg "boxes_of" BX ["program","given"])(T:Txt K mg)(wz:nj P w K mg base 1 "refuse_bad_given" ["program","given"] tW):nj P w K mg base 2 "boxes_of" ["program","given"] vY:=nj.of (N:=["program","given"]) (k:=1) A Zlg λf cdv A outer s H E hr=>by have hu:=gn hr;unfold LK;exact gW (gH (GQ (k:=1) (ps:=["program","given"]) wz (hr.mono (by decide)) (Zb (Zd 0) (Zb (Zd 1) Zf)))) (dG (tR (eV (Zt gC (tM (T:="tuple") x_ T.t8 yc (Zb (Zd 1) Zf)) (Zt Lp (gm (Zb Zi Zf)) (Zt vG (Zqc T) (iD (id:="len") iV T.iH iW (Zb (Zd 1) Zf))))))))
theorem L_:cX ["script","k","cell","mixed"] ["script","k"] (Zj BZ):=⟨rfl,rfl,rfl,by decide +kernel,rfl,by decide +kernel,by decide +kernel⟩
theorem ZjK(A:di K mg "_law_draw" BZ ["script","k"])(T:Txt K mg):bx P w K mg base 1 "_law_draw" ["script","k"] Zq:=bx.of (N:=["script","k","cell","mixed"]) (k:=0) A L_ λf cdv A outer s H E hr=>by have hu:=gn hr;unfold Uh;exact Zn (cu 2 L_.nd Zi) (Zn (gU (cR vI (iD (id:="len") iV T.iH iW (Zb (Zd 0) Zf)) Zi) (Zx (cu 2 L_.nd (Zt cY (bA bB (Zd 0) (Zt cY (Zd 1) (iD (id:="len") iV T.iH iW (Zb (Zd 0) Zf)))) Zi))) jn) (Zn (cu 3 L_.nd (Zt cY (Zt pQ (Zt gC (Zt gC (Zd 2) Zi) (Zt pQ Zi (Zt jU (Zd 1) (iD (id:="max") ((Zui rfl)) T.AcP ZtL (Zb Zi (Zb (iD (id:="len") iV T.iH iW (Zb (Zd 0) Zf)) Zf)))))) Zi) Zi)) (Zx (eV (Zt cY (Zt pQ (Zd 3) (Zd 3)) Zi)))))
theorem yD:cX ["script","i","letters","pad","place","tail","word"] ["script","i"] (Zj B_):=⟨rfl,rfl,rfl,by decide +kernel,rfl,by decide +kernel,by decide +kernel⟩
theorem Zke(A:di K mg "_law_word" B_ ["script","i"])(T:Txt K mg)(fJ:bx P w K mg base 1 "_law_draw" ["script","k"] Zq):bx P w K mg base 2 "_law_word" ["script","i"] nu:=bx.of (N:=["script","i","letters","pad","place","tail","word"]) (k:=1) A yD λf cdv A outer s H E hr=>by have hu:=gn hr;unfold Ui;exact Zn (cu 2 yD.nd fc) (Zn (cu 3 yD.nd (bA bB (Zd 2) (Zt cY (cT (k:=1) (ps:=["script","k"]) fJ (hr.mono (by decide)) (Zb (Zd 0) (Zb Zi Zf))) Zi))) (Zn (cu 4 yD.nd (Zt cY (cT (k:=1) (ps:=["script","k"]) fJ (hr.mono (by decide)) (Zb (Zd 0) (Zb Zi Zf))) Zi)) (Zn (cu 5 yD.nd (Zt cY (cT (k:=1) (ps:=["script","k"]) fJ (hr.mono (by decide)) (Zb (Zd 0) (Zb Zi Zf))) (Zt vG Zi (Zd 4)))) (Zn (gU (cR ((ig hu)) (Zt cY (Zt jU (cT (k:=1) (ps:=["script","k"]) fJ (hr.mono (by decide)) (Zb (Zd 0) (Zb Zi Zf))) Zi) Zi) Zi) (Zx (cu 5 yD.nd (Zt cY (cT (k:=1) (ps:=["script","k"]) fJ (hr.mono (by decide)) (Zb (Zd 0) (Zb (Zt gC Zi (Zd 1)) Zf))) (Zt vG Zi (Zd 4))))) jn) (Zn (cu 6 yD.nd (Zt gC (Zt gC (Zt pQ (Zd 3) (Zd 4)) (bA bB (Zd 2) (Zt cY (Zt gC (Zd 1) (cT (k:=1) (ps:=["script","k"]) fJ (hr.mono (by decide)) (Zb (Zd 0) (Zb Zi Zf)))) Zi))) (Zt pQ (Zd 3) (Zd 5)))) (Zn (gU (cR ((ig hu)) (Zd 6) fc) (Zx (eV fc)) jn) (Zx (eV (Zd 6)))))))))
theorem Zfe:cX ["draw","some"] ["draw"] (Zj Cd):=⟨rfl,rfl,rfl,by decide +kernel,rfl,by decide +kernel,by decide +kernel⟩
theorem ZiF(A:di K mg "_law_number" Cd ["draw"])(T:Txt K mg):bx P w K mg base 1 "_law_number" ["draw"] oK:=bx.of (N:=["draw","some"]) (k:=0) A Zfe λf cdv A outer s H E hr=>by have hu:=gn hr;unfold Uj;exact Zn (cu 1 Zfe.nd (iT (Zb (Zt cY (Zt jU (Zd 0) Zi) Zi) (Zb (Zt cY (Zt jU (Zd 0) Zi) Zi) (Zb (Zt cY (Zt pQ (Zt jU (Zd 0) Zi) Zi) (Zt ZsG Zi Zi)) (Zb Zi Zf)))))) (Zx (eV (bA bB (iT (Zb (bA bB (Zd 1) (Zt cY (Zd 0) Zi)) (Zb (vC vH (bA bB (Zd 1) (Zt cY (Zd 0) Zi))) Zf))) (Zt cY (Zt jU (Zd 0) Zi) Zi))))
theorem yE:cX ["script","at","names","limit","words","due","draw"] ["script","at","names","limit"] (Zj Ce):=⟨rfl,rfl,rfl,by decide +kernel,rfl,by decide +kernel,by decide +kernel⟩
theorem Zlr(A:di K mg "_law_sum" Ce ["script","at","names","limit"])(T:Txt K mg)(fJ:bx P w K mg base 1 "_law_draw" ["script","k"] Zq)(rC:bx P w K mg base 1 "_law_number" ["draw"] oK):bx P w K mg base 2 "_law_sum" ["script","at","names","limit"] oM:=bx.of (N:=["script","at","names","limit","words","due","draw"]) (k:=1) A yE λf cdv A outer s H E hr=>by have hu:=gn hr;unfold Uk;exact Zn (cu 4 yE.nd (iT Zf)) (Zn (cu 5 yE.nd Zi) (Zn (Zlc rfl (cR vI (Zd 5) Zi) (Zn (cu 6 yE.nd (cT (k:=1) (ps:=["script","k"]) fJ (hr.mono (by decide)) (Zb (Zd 0) (Zb (Zt gC (Zd 1) (iD (id:="len") iV T.iH iW (Zb (Zd 4) Zf))) Zf)))) (Zn (cu 5 yE.nd (Zt vG (Zd 5) Zi)) (Zx (gU (CW.ct (Gk (cR ZxU (Zt gC (iD (id:="len") iV T.iH iW (Zb (Zd 4) Zf)) (Zd 5)) (Zd 3)) (KR (cR K3 (Zt cY (Zd 6) Zi) Zi)))) (Zx (gU (cR ((ig hu)) (Zt cY (Zt jU (Zd 6) Zi) Zi) Zi) (Zx (iU (jB (Zd 4) (Zb (cT (k:=1) (ps:=["draw"]) rC (hr.mono (by decide)) (Zb (Zt jU (Zd 6) Zi) Zf)) Zf)))) (Zx (iU (jB (Zd 4) (Zb (bA bB (Zd 2) (Zt cY (Zt jU (Zd 6) Zi) (iD (id:="len") iV T.iH iW (Zb (Zd 2) Zf)))) Zf)))))) (Zx (gU (cR ((ig hu)) (Zt cY (Zd 6) Zi) Zi) (Zn (iU (jB (Zd 4) (Zb fc Zf))) (Zx (cu 5 yE.nd (Zt gC (Zd 5) Zi)))) (Zn (iU (jB (Zd 4) (Zb (bA bB (iT (Zb fc (Zb fc (Zb fc Zf)))) (Zt cY (Zt jU (Zd 6) Zi) Zi)) Zf))) (Zx (cu 5 yE.nd (Zt gC (Zd 5) Zi))))))))))) (Zx (eV (tM (T:="tuple") x_ T.t8 yc (Zb (Zd 4) Zf))))))
theorem Uw:cX ["frames","opens","body","top"] ["frames","opens"] (Zj Cg):=⟨rfl,rfl,rfl,by decide +kernel,rfl,by decide +kernel,by decide +kernel⟩
theorem Zit(A:di K mg "_law_closed" Cg ["frames","opens"])(T:Txt K mg):bx P w K mg base 1 "_law_closed" ["frames","opens"] vZ:=bx.of (N:=["frames","opens","body","top"]) (k:=0) A Uw λf cdv A outer s H E hr=>by have hu:=gn hr;unfold Ul;exact Zn (cu 2 Uw.nd (tM (T:="tuple") x_ T.t8 yc (Zb (Zio (Zd 0)) Zf))) (Zn (cu 3 Uw.nd (Zio (Zd 1))) (Zx (gU (cR ((ig hu)) (bA bB (Zd 3) Zi) fc) (Zx (iU (jB (bA bB (Zd 0) (vC vH Zi)) (Zb (gm (Zb fc (Zb (bA bB (Zd 3) Zi) (Zb (Zt gC (Zd 2) (bA bB (Zd 3) Zi)) Zf)))) Zf)))) (Zx (gU (cR Zvo (bA bB (Zd 3) Zi) vB) (Zn (iU (jB (Zd 1) (Zb (gm (Zb (bA bB (Zd 3) Zi) (Zb (bA bB (Zd 3) Zi) (Zb (Zd 2) Zf)))) Zf))) (Zx (iU (jB (Zd 0) (Zb (iT Zf) Zf))))) (Zx (iU (jB (bA bB (Zd 0) (vC vH Zi)) (Zb (gm (Zb fc (Zb (bA bB (Zd 3) Zi) (Zb (bA bB (Zd 3) Zi) (Zb (Zd 2) Zf))))) Zf)))))))))
theorem Ho:cX ["script","k","frames","opens","names","draw","name","some","less"] ["script","k","frames","opens","names"] (Zj Ci):=⟨rfl,rfl,rfl,by decide +kernel,rfl,by decide +kernel,by decide +kernel⟩
theorem Zh3(A:di K mg "_law_opened" Ci ["script","k","frames","opens","names"])(T:Txt K mg)(fJ:bx P w K mg base 1 "_law_draw" ["script","k"] Zq)(wB:bx P w K mg base 2 "_law_word" ["script","i"] nu)(wC:bx P w K mg base 2 "_law_sum" ["script","at","names","limit"] oM):bx P w K mg base 3 "_law_opened" ["script","k","frames","opens","names"] BJ:=bx.of (N:=["script","k","frames","opens","names","draw","name","some","less"]) (k:=2) A Ho λf cdv A outer s H E hr=>by have hu:=gn hr;unfold Hh;exact Zn (cu 5 Ho.nd (cT (k:=1) (ps:=["script","k"]) fJ (hr.mono (by decide)) (Zb (Zd 0) (Zb (Zt gC Zi (Zd 1)) Zf)))) (Zn (gU (cR ((ig hu)) (Zt cY (Zd 5) Zi) Zi) (Zn (cu 6 Ho.nd (cT (k:=2) (ps:=["script","i"]) wB (hr.mono (by decide)) (Zb (Zd 0) (Zb (Zt gC Zi (iD (id:="len") iV T.iH iW (Zb (Zd 3) Zf))) Zf)))) (Zn (iU (jB (bA bB (Zd 2) (vC vH Zi)) (Zb (gm (Zb fc (Zb (Zd 6) (Zb (gm (Zb (Zt cY (Zt jU (Zd 5) Zi) Zi) Zf)) Zf)))) Zf))) (Zn (cu 7 Ho.nd (iT (Zb (gm (Zb (Zd 6) Zf)) (Zb (gm (Zb fc (Zb (Zd 6) (Zb Zi Zf)))) (Zb (gm (Zb fc (Zb (Zd 6) (Zb Zi Zf)))) (Zb (gm (Zb fc (Zb (Zd 6) (Zb Zi Zf)))) (Zb (gm (Zb (Zt vG Zi (Zt cY (Zt jU (Zd 5) Zi) Zi)) Zf)) Zf))))))) (Zn (cu 8 Ho.nd (bA bB (iT (Zb (gm (Zb (gm (Zb fc (Zb (Zd 6) (Zb (gm (Zb fc (Zb (Zd 6) (Zb Zi Zf)))) Zf)))) Zf)) (Zb (gm Zf) Zf))) (tM (T:="int") ZpW T.Ik Zp3 (Zb (Gj ((ig hu)) (Zt cY (Zt jU (Zd 5) Zi) Zi) Zi) Zf)))) (Zx (iU (jB (Zd 3) (Zb (gm (Zb fc (Zb (bA bB (Zd 7) (Zt cY (Zt cY (Zt jU (Zd 5) Zi) Zi) Zi)) (Zb (Zd 8) Zf)))) Zf)))))))) (Zx (iU (jB (Zd 3) (Zb (gm (Zb fc (Zb (cT (k:=2) (ps:=["script","at","names","limit"]) wC (hr.mono (by decide)) (Zb (Zd 0) (Zb (Zt gC Zi (Zt pQ Zi (Zd 1))) (Zb (Zd 4) (Zb Zi Zf))))) (Zb vB Zf)))) Zf))))) (Zx (iU (jB (Zd 2) (Zb (iT Zf) Zf)))))
theorem yF:cX ["script","cells","names","frames","opens","k","cell","deep","one"] ["script","cells","names"] (Zj Cj):=⟨rfl,rfl,rfl,by decide +kernel,rfl,by decide +kernel,by decide +kernel⟩
theorem ZiQ(A:di K mg "_law_deeds" Cj ["script","cells","names"])(T:Txt K mg)(fJ:bx P w K mg base 1 "_law_draw" ["script","k"] Zq)(wC:bx P w K mg base 2 "_law_sum" ["script","at","names","limit"] oM)(Ia:bx P w K mg base 1 "_law_closed" ["frames","opens"] vZ)(Nb:bx P w K mg base 3 "_law_opened" ["script","k","frames","opens","names"] BJ):bx P w K mg base 4 "_law_deeds" ["script","cells","names"] LQ:=bx.of (N:=["script","cells","names","frames","opens","k","cell","deep","one"]) (k:=3) A yF λf cdv A outer s H E hr=>by have hu:=gn hr;unfold Um;exact Zn (cu 3 yF.nd (iT (Zb (iT Zf) Zf))) (Zn (cu 4 yF.nd (iT Zf)) (Zn (ZrT rfl rfl (ZrJ T.Abo (Zd 1)) (ZsX rfl (Zk9 5 yF.nd (Zk9 6 yF.nd Zrx))) (Zn (cu 7 yF.nd (tM (T:="int") ZpW T.Ik Zp3 (Zb (Gj ((ig hu)) (Zd 5) (Zt cY (cT (k:=1) (ps:=["script","k"]) fJ (hr.mono (by decide)) (Zb (Zd 0) (Zb Zi Zf))) Zi)) Zf))) (Zn (cu 8 yF.nd (cT (k:=2) (ps:=["script","at","names","limit"]) wC (hr.mono (by decide)) (Zb (Zd 0) (Zb (Zt gC Zi (Zt pQ Zi (Zd 5))) (Zb (Zd 2) (Zb (bA bB (iT (Zb Zi (Zb Zi Zf))) (Zd 7)) Zf)))))) (Zx (gU (cR K3 (Zt cY (Zd 6) Zi) Zi) (Zx (iU (jB (bA bB (Zd 3) (vC vH Zi)) (Zb (gm (Zb fc (Zb (bA bB (Zd 2) (Zt cY (Zt jU (Zd 6) Zi) Zi)) (Zb (Zd 8) Zf)))) Zf)))) (Zx (gU (cR ((ig hu)) (Zt cY (Zd 6) Zi) Zi) (Zx (iU (jB (bA bB (Zd 3) (vC vH Zi)) (Zb (gm (Zb fc (Zb (Zd 8) (Zb (cT (k:=2) (ps:=["script","at","names","limit"]) wC (hr.mono (by decide)) (Zb (Zd 0) (Zb (Zt gC Zi (Zt pQ Zi (Zd 5))) (Zb (Zd 2) (Zb (bA bB (iT (Zb Zi (Zb Zi Zf))) (Zd 7)) Zf))))) Zf)))) Zf)))) (Zx (gU (CW.ct (R_ (cR K3 (Zt cY (Zd 6) Zi) Zi) (R9 (cR K3 (iD (id:="len") iV T.iH iW (Zb (Zd 4) Zf)) Zi)))) (Zx (iU (cT (k:=3) (ps:=["script","k","frames","opens","names"]) Nb (hr.mono (by decide)) (Zb (Zd 0) (Zb (Zd 5) (Zb (Zd 3) (Zb (Zd 4) (Zb (Zd 2) Zf)))))))) (Zx (gU (CW.ct (R_ (cR ((ig hu)) (Zt cY (Zd 6) Zi) Zi) (R9 (cR vI (iD (id:="len") iV T.iH iW (Zb (Zd 4) Zf)) Zi)))) (Zx (iU (cT (k:=1) (ps:=["frames","opens"]) Ia (hr.mono (by decide)) (Zb (Zd 3) (Zb (Zd 4) Zf))))) (Zx (iU (jB (bA bB (Zd 3) (vC vH Zi)) (Zb (gm (Zb fc (Zb (Zd 8) Zf))) Zf))))))))))))))) (Zn (Zlc rfl (cR vI (iD (id:="len") iV T.iH iW (Zb (Zd 4) Zf)) Zi) (Zx (iU (cT (k:=1) (ps:=["frames","opens"]) Ia (hr.mono (by decide)) (Zb (Zd 3) (Zb (Zd 4) Zf)))))) (Zx (eV (tM (T:="tuple") x_ T.t8 yc (Zb (bA bB (Zd 3) Zi) Zf)))))))
theorem Ux:cX ["script","names","taken"] ["script"] (Zj Ck):=⟨rfl,rfl,rfl,by decide +kernel,rfl,by decide +kernel,by decide +kernel⟩
theorem Zht(A:di K mg "_law_program" Ck ["script"])(T:Txt K mg)(fJ:bx P w K mg base 1 "_law_draw" ["script","k"] Zq)(wB:bx P w K mg base 2 "_law_word" ["script","i"] nu)(Nh:bx P w K mg base 4 "_law_deeds" ["script","cells","names"] LQ):bx P w K mg base 5 "_law_program" ["script"] Hi:=bx.of (N:=["script","names","taken"]) (k:=4) A Ux λf cdv A outer s H E hr=>by have hu:=gn hr;unfold Uo;exact Zn (Zkw (N':=["script","names","taken","k"]) 1 (Gz rfl (by kernel_rfl)) rfl rfl Ux.nd (Zi9 T.Wj Zi) (λC cl s H ex=>⟨(qN 3 ((show zO (["script","names","taken","k"]:List aj)by decide +kernel))),K7,(cT (k:=2) (ps:=["script","i"]) wB (hr.mono (by decide)) (Zb (Zd 0) (Zb (Zd 3) Zf)))⟩)) (Zn (cu 2 Ux.nd (tM (T:="tuple") x_ T.t8 yc (Zb (Gp Gy (Zd 1) Gm (Gn (Zt cY (cT (k:=1) (ps:=["script","k"]) fJ (hr.mono (by decide)) (Zb (Zd 0) (Zb Zi Zf))) Zi))) Zf))) (Zx (eV (gm (Zb (Zd 2) (Zb (cT (k:=4) (ps:=["script","cells","names"]) Nh (hr.mono (by decide)) (Zb (Zd 0) (Zb (Gp Gy (Zd 0) Gm (Gn Zi)) (Zb (Zt gC (Zd 1) (iT (Zb (cT (k:=2) (ps:=["script","i"]) wB (hr.mono (by decide)) (Zb (Zd 0) (Zb Zi Zf))) Zf))) Zf)))) Zf))))))
theorem ZfL:cX ["script","program","some"] ["script","program"] (Zj Cm):=⟨rfl,rfl,rfl,by decide +kernel,rfl,by decide +kernel,by decide +kernel⟩
theorem ZiJ(A:di K mg "_law_given" Cm ["script","program"])(T:Txt K mg)(fJ:bx P w K mg base 1 "_law_draw" ["script","k"] Zq)(rC:bx P w K mg base 1 "_law_number" ["draw"] oK):bx P w K mg base 2 "_law_given" ["script","program"] Hj:=bx.of (N:=["script","program","some"]) (k:=1) A ZfL λf cdv A outer s H E hr=>by have hu:=gn hr;unfold Uq;exact Zn (Zkw (N':=["script","program","some","k"]) 2 (Gz rfl (by kernel_rfl)) rfl rfl ZfL.nd (Zi9 T.Wj (iD (id:="len") iV T.iH iW (Zb (bA bB (Zd 1) Zi) Zf))) (λC cl s H ex=>⟨(qN 3 ((show zO (["script","program","some","k"]:List aj)by decide +kernel))),K7,(cT (k:=1) (ps:=["script","k"]) fJ (hr.mono (by decide)) (Zb (Zd 0) (Zb (Zt gC Zi (Zd 3)) Zf)))⟩)) (Zx (eV (tM (T:="tuple") x_ T.t8 yc (Zb (Zvx (N':=["script","program","some","draw"]) (Gz rfl (by kernel_rfl)) rfl rfl (vN (Zd 2)) (λC cl s H ex=>⟨(qN 3 ((show zO (["script","program","some","draw"]:List aj)by decide +kernel))),K7,(Zt pQ (cT (k:=1) (ps:=["draw"]) rC (hr.mono (by decide)) (Zb (Zd 3) Zf)) (bA bB (iT (Zb Zi (Zb (Zt ZsG Zi Zi) Zf))) (Zt cY (Zt jU (Zd 3) Zi) Zi)))⟩)) Zf))))
theorem v4:cX ["program","given","bound","caught","other","e","some"] ["program","given","bound"] (Zj Cp):=⟨rfl,rfl,rfl,by decide +kernel,rfl,by decide +kernel,by decide +kernel⟩
theorem Zhr(A:di K mg "_law_refused" Cp ["program","given","bound"])(T:Txt K mg){fu cO cA:Ym}(XO:Hl K mg fu cO cA)(rD:qT P w K mg base 32 "meaning" ["program","given","most"] jD [.int 400] 2 "most")(Ie:nj P w K mg base 2 "boxes_of" ["program","given"] vY):bx P w K mg base 33 "_law_refused" ["program","given","bound"] yw:=bx.of (N:=["program","given","bound","caught","other","e","some"]) (k:=32) A v4 λf cdv A outer s H E hr=>by have hu:=gn hr;have Nv:=rD.x;unfold Ur;exact Zn (cu 3 v4.nd vB) (Zn (cu 4 v4.nd vB) (Zn (Zps (cs:=[[66,97,100,71,105,118,101,110],[83,112,101,110,116]]) (CE:=fu) 5 v4.nd XO.V4 XO.V6 (λvR E'=>(dG (gH (GQ (k:=2) (ps:=["program","given"]) Ie (hr.mono (by decide)) (Zb (Zd 0) (Zb (Zd 1) Zf)))))) (λA' E'=>(Zx (cu 3 v4.nd (Zd 5))))) (Zn (Zps (cs:=[[66,97,100,71,105,118,101,110],[83,112,101,110,116]]) (CE:=fu) 5 v4.nd XO.V4 XO.V6 (λvR E'=>(dG (gH (GQ (k:=32) (ps:=["program","given","most"]) Nv (hr.mono (by decide)) (Zb (Zd 0) (Zb (Zd 1) (Zb (Zd 2) Zf))))))) (λA' E'=>(Zx (cu 4 v4.nd (Zd 5))))) (Zn (KZ rfl rfl (vN (iT (Zb (Zd 3) (Zb (Zd 4) Zf)))) (qN 6 v4.nd) (Zx (gU (CW.ct (Gk (Bg (tL (Zlm (C:=cO) T.wA XO.Wb XO.AbN (Zd 6)))) (Gk (tL (Zlm (C:=cA) T.wA XO.Nx XO.AcA (Zd 6))) (KR (Bg (tL (Zpj (T:="ValueError") T.wA T.Abh Zhu XO.Abg (Zd 6)))))))) (Zx (eV vA)) jn))) (Zx (eV vA))))))
theorem CP:cX ["case","program","given","found"] ["case","program","given"] (Zj Cq):=⟨rfl,rfl,rfl,by decide +kernel,rfl,by decide +kernel,by decide +kernel⟩
theorem Zhw(A:di K mg "_law_meaning" Cq ["case","program","given"])(T:Txt K mg){fu cO cA:Ym}(XO:Hl K mg fu cO cA)(rD:qT P w K mg base 32 "meaning" ["program","given","most"] jD [.int 400] 2 "most"):bx P w K mg base 33 "_law_meaning" ["case","program","given"] yx:=bx.of (N:=["case","program","given","found"]) (k:=32) A CP λf cdv A outer s H E hr=>by have hu:=gn hr;have Nv:=rD.x;unfold LR;exact Zn (cu 3 CP.nd vB) (Zn (ZqV (cs:=[[83,112,101,110,116]]) (CE:=cA) XO.Nx XO.Acz (λvR E'=>(dG (pR (cR ((ig hu)) (Zd 0) Zi) (dG (GK 3 CP.nd (ZpJ (k:=32) (ps:=["program","given","most"]) (n:=2) (nm:="most") rD (hr.mono (by decide)) (Zb (Zd 1) (Zb (Zd 2) Zf))))) (dG (pR (cR ((ig hu)) (Zd 0) Zi) (dG (GK 3 CP.nd (Zqb (k:=32) (ps:=["program","given","most"]) (n:=2) (nm:="most") (dd:=[.int 400]) rD (hr.mono (by decide)) (Zb (Zd 1) (Zb (Zd 2) Zf)) Zi))) (dG (GK 3 CP.nd (GQ (k:=32) (ps:=["program","given","most"]) Nv (hr.mono (by decide)) (Zb (Zd 1) (Zb (Zd 2) (Zb Zi Zf))))))))))) (λA' E'=>(Zx (cu 3 CP.nd vB)))) (Zx (eV (Zd 3))))
theorem v5:cX ["script","program","given","found","number","wrong","due"] ["script"] (Zj tX):=⟨rfl,rfl,rfl,by decide +kernel,rfl,by decide +kernel,by decide +kernel⟩
theorem Ztt{f:Ym}{fd:iJ}(F:n_ K "law" "law" tX f fd)(T:Txt K mg)(Np:bx P w K mg base 2 "boxes_of" ["program","given"] vY)(fJ:bx P w K mg base 1 "_law_draw" ["script","k"] Zq)(rC:bx P w K mg base 1 "_law_number" ["draw"] oK)(MT:bx P w K mg base 5 "_law_program" ["script"] Hi)(Ni:bx P w K mg base 2 "_law_given" ["script","program"] Hj)(H_:bx P w K mg base 33 "_law_refused" ["program","given","bound"] yw)(Dm:bx P w K mg base 33 "_law_meaning" ["case","program","given"] yx):eQ P w K mg base jQ 34 f fd ["script"] (qM K 1 Zm5):=Sg (N:=["script","program","given","found","number","wrong","due"]) (k:=33) F v5 λcdv A outer s H E hr=>by have hu:=gn hr;unfold Us;exact Zn (cu 1 v5.nd (cT (k:=5) (ps:=["script"]) MT (hr.mono (by decide)) (Zb (Zd 0) Zf))) (Zn (cu 2 v5.nd (cT (k:=2) (ps:=["script","program"]) Ni (hr.mono (by decide)) (Zb (Zd 0) (Zb (Zd 1) Zf)))) (Zn (cu 3 v5.nd (cT (k:=2) (ps:=["program","given"]) Np (hr.mono (by decide)) (Zb (Zd 1) (Zb (Zd 2) Zf)))) (Zn (gU (CW.ct (Gk (Bg (tL (La .tuple T.wA T.t8 (Zd 3)))) (KR (cR ((Tn hu)) (iD (id:="len") iV T.iH iW (Zb (Zd 3) Zf)) Zi)))) (Zx (eV vA)) jn) (Zn (KZ rfl rfl (vN (Zd 3)) (qN 4 v5.nd) (Zx (gU (CW.ct (Gk (Bg (tL (La .int T.wA T.Ik (Zd 4)))) (KR (tL (La .bool T.wA T.AcJ (Zd 4)))))) (Zx (eV vA)) jn))) (Zn (gU (cR ((Tn hu)) (Zd 3) (Zt gC (Zd 2) (Zt Lp (gm (Zb Zi Zf)) (Zt vG Zi (iD (id:="len") iV T.iH iW (Zb (Zd 2) Zf)))))) (Zx (eV vA)) jn) (Zn (cu 4 v5.nd (cT (k:=1) (ps:=["draw"]) rC (hr.mono (by decide)) (Zb (cT (k:=1) (ps:=["script","k"]) fJ (hr.mono (by decide)) (Zb (Zd 0) (Zb Zi Zf))) Zf))) (Zn (KZ rfl rfl (vN (iT (Zb (Zt gC (Zd 2) (gm (Zb (Zd 4) Zf))) (Zb (Zt Lp (gm (Zb (Zd 4) Zf)) Zi) (Zb (Zt gC (Gp Gy (Zd 2) (Gn Zi) Gm) (Zt Lp (gm (Zb (Zd 4) Zf)) Zi)) Zf))))) (qN 5 v5.nd) (Zx (gU (Bg (tL (cT (k:=33) (ps:=["program","given","bound"]) H_ (hr.mono (by decide)) (Zb (Zd 1) (Zb (Zd 5) (Zb (Zt cY (cT (k:=1) (ps:=["script","k"]) fJ (hr.mono (by decide)) (Zb (Zd 0) (Zb Zi Zf))) Zi) Zf)))))) (Zx (eV vA)) jn))) (Zn (gU (CW.ct (R_ (cR vI (iD (id:="len") iV T.iH iW (Zb (Zd 2) Zf)) Zi) (R9 (Bg (tL (cT (k:=33) (ps:=["program","given","bound"]) H_ (hr.mono (by decide)) (Zb (Zd 1) (Zb (Gp Gy (Zd 2) (Gn Zi) Gm) (Zb Zi Zf))))))))) (Zx (eV vA)) jn) (Zn (cu 6 v5.nd (cT (k:=33) (ps:=["case","program","given"]) Dm (hr.mono (by decide)) (Zb Zi (Zb (Zd 1) (Zb (Zd 2) Zf))))) (Zn (gU (cR Zvo (Zd 6) vB) (Zx (eV vA)) jn) (Zx (eV (Zwq (Gj ((Zsk hu)) (cT (k:=33) (ps:=["case","program","given"]) Dm (hr.mono (by decide)) (Zb Zi (Zb (Zd 1) (Zb (Zd 2) Zf)))) (Zd 6)) (ZvL (Gj ((Zsk hu)) (cT (k:=33) (ps:=["case","program","given"]) Dm (hr.mono (by decide)) (Zb Zi (Zb (Zd 1) (Zb (Zd 2) Zf)))) (Zd 6))))))))))))))))
end
end Law
set_option maxHeartbeats 200000
namespace Law
open L3
theorem Rf(n d:Nat):aB n d Yh=d:=rfl
theorem Rg(n d k:Nat):aB n d (Ya (k:Int))=iM k n:=by have h:¬((k:Int)<0):=(λz=>iN [_] [] 1 7211153 T1 z);simp only[aB,if_neg h,qm]
theorem Zk2{α:Type}(w:List α)(k:Nat):cutD w (Ya (k:Int)) Yh=w.drop k:=by
 unfold cutD;rw[Rg,Rf];by_cases h:k<=w.length
 .rw[P_ h,wZ (by simp)]
 .rw[PX (by exact lB 1 1052737 T1 h),YQ (Yl _),YQ (by exact lB 1 1052737 T1 h)];simp
theorem Zpm{α:Type}(w:List α)(k:Nat):cutD w Yh (Ya (k:Int))=w.take k:=by
 unfold cutD;rw[Rg,Rf];by_cases h:k<=w.length
 .rw[P_ h];simp
 .rw[PX (by exact lB 1 1052737 T1 h),Nat.sub_zero,ZK,wZ (Yl _),wZ (by exact lB 1 1052737 T1 h)]
theorem Ma{i j:Int}(h:-(2^64)<i/\i<2^64):xN i j=true:=by unfold xN;rw[uM];left;simp only[jb,decide_eq_true_eq];exact h
theorem mul_r{i j:Int}(h:-(2^64)<j/\j<2^64):xN i j=true:=by unfold xN;rw[uM];right;simp only[jb,decide_eq_true_eq];exact h
theorem nA(x:Int)(m:Nat)(h:0<m):∃a:Nat,x % (m:Int)=a/\a<m:=by have h1:=zU x (b:=(m:Int)) (by exactλz=>iN [_] [] 2 416093702305 T1 z h);have h2:=Qg x (b:=(m:Int)) (by exact iN [_] [] 1 149491217 T1 h);exact⟨(x % (m:Int)).toNat,(sE h1).symm,by exact iN [_,_] [_] 2 18698308976785 T1 h2 (sE h1)⟩
variable{M M':Store}{d:D}
theorem Hq(h:M'.length=M.length):tidy M d M'= .ok d M':=by unfold tidy;rw[wZ (su h)];split <;>rfl
theorem jE{i j:Int}(h:0<j/\j<1073741824):dN (.int i) (.int j) M= .ok (.int (i / j)) M:=by simp only[Zjl,if_pos h]
variable{env:Zo}{ds:List D}
theorem iY{g:bU}(h:g env M= .ok ds M')(hl:decide (ds.length<=100)=true):cg g env M= .ok (.ref M'.length) (M'++[.lst ds]):=by have z:ds.length<=SZ:=Yv (of_decide_eq_true hl) (by decide);simp only[cg,h,R3.bind,if_pos z,alloc]
variable{n:Nat}{xs:List D}
theorem qW{o t:E3}(ho:o env M= .ok (.ref n) M)(hM:M[n]?=Ya (.lst xs))(ht:t env M= .ok d M')(hM':M'[n]?=Ya (.lst xs))(hl:xs.length<SZ):
  Zw (bD bI cj o (Za t (Ze))) env M= .nx env (M'.set n (.lst (xs++[d]))):=by
 have e:bD bI cj o (Za t (Ze)) env M= .ok .non (M'.set n (.lst (xs++[d]))):=by simp only[bD,ho,R3.bind,Ao,hM,Za,ht,Ze,Ks,hM',if_pos hl,if_true]
 rw[Zw,e]
variable{f:E3}
theorem ZxI{op:D->D->D->Store->R3 D}{g h:E3}{M M1 M2 M3 M4:Store}{a b c:D}(h1:f env M= .ok a M1)(h2:g env M1= .ok b M2)(h3:h env M2= .ok c M3)(h4:op a b c M3= .ok d M4):e3 op f g h env M= .ok d M4:=by simp only[e3,h1,h2,h3,h4,R3.bind]
noncomputable def dr(ns:List Int)(k:Nat):Int:=((((if 0<ns.length then ns.getD (k % ns.length) 0 % 2147483629 else 0)+3+86243*((k / gQ 1 ns.length:Nat):Int))*69621 % 2147483629)*(((if 0<ns.length then ns.getD (k % ns.length) 0 % 2147483629 else 0)+3+86243*((k / gQ 1 ns.length:Nat):Int))*69621 % 2147483629)) % 2147483587
theorem Uy(ns:List Int)(k:Nat):0<=dr ns k:=zU _ (by decide)
noncomputable abbrev SC(ns:List Int):D:=.bH (ns.map D.int)
theorem Uz{i j:Int}(h:-(2^64)<j/\j<2^64)(M:Store):eU (.int i) (.int j) M= .ok (.int (i*j)) M:=by rw[Ai,if_pos (mul_r h)]
variable{ns:List Int}
theorem UG(hl:ns.length<=63)(k:Nat)(M:Store):Zq [SC ns,.int k] M= .ok (.int (dr ns k)) M:=by
 refine(jd (M':=M) (d:=.int (dr ns k)) (env:=[Ya (SC ns),Ya (.int k),Yh,Yh]) ?_).trans (RT rfl);have hlen:∀a b c:Option D,aU bM (Za (Zc 0) Ze) [Ya (SC ns),a,b,c] M= .ok (.int (ns.length:Int)) M:=λa b c=>by refine je rfl ?_;rw[Kr,iz]
 have Adc:∀a b c:Option D,aU Az (Za (eC (.int 1)) (Za (aU bM (Za (Zc 0) Ze)) Ze)) [Ya (SC ns),a,b,c] M= .ok (.int ((gQ 1 ns.length:Nat):Int)) M:=λa b c=>by simp only[aU,Za,eC,R3.bind,Ze];have:=hlen a b c;simp only[aU,Za,R3.bind,Ze]at this;rw[this];simp only[ZpN];congr 2;split <;>omega
 have fin:∀z:Int,(aq (aF 3 (e2 aO (e2 eU (e2 bf (e2 bf (Zc 2) (eC (.int 3))) (e2 eU (eC (.int 86243)) (e2 dN (Zc 1) (aU Az (Za (eC (.int 1)) (Za (aU bM (Za (Zc 0) (Ze))) (Ze))))))) (eC (.int 69621))) (eC (.int 2147483629)))) (cM (e2 aO (e2 eU (Zc 3) (Zc 3)) (eC (.int 2147483587))))) [Ya (SC ns),Ya (.int k),Ya (.int z),Yh] M= .rt (.int ((((z+3+86243*((k / gQ 1 ns.length:Nat):Int))*69621 % 2147483629)*((z+3+86243*((k / gQ 1 ns.length:Nat):Int))*69621 % 2147483629)) % 2147483587)) M:=λz=>by
  have hz:0<gQ 1 ns.length:=by omega
  rw[Zk (bN (d:=.int ((z+3+86243*((k / gQ 1 ns.length:Nat):Int))*69621 % 2147483629)) (Zg (Zg (Zg (Zg rfl rfl rfl) (Zg rfl (Zg rfl (Adc _ _ _) (jE (by omega))) (by rw[Ai,if_pos (Ma (by decide))])) rfl) rfl (Uz (by decide) M)) rfl (dF (by decide))))];have b1:=zU ((z+3+86243*(((k / gQ 1 ns.length:Nat)):Int))*69621) (b:=2147483629) (by decide);have b2:=Qg ((z+3+86243*(((k / gQ 1 ns.length:Nat)):Int))*69621) (b:=2147483629) (by decide);refine h_ (Zg (Zg rfl rfl (Uz (by omega) M)) rfl (dF (by decide)))
 unfold Uh;rw[Zk (bN (d:=.int 0) rfl)];by_cases h0:0<ns.length
 .have e:((k:Int) % (ns.length:Int))=((k % ns.length:Nat):Int):=by omega
  have hk:k % ns.length<ns.length:=Nat.mod_lt _ h0;rw[Zk ((d9 (Zg (hlen _ _ _) rfl (by rw[mW,decide_eq_true (by omega)]))).trans (bN (d:=.int (ns.getD (k % ns.length) 0 % 2147483629)) (Zg (Zg rfl (Zg rfl (hlen _ _ _) (dF (by omega))) (by rw[e,RG,kZ,mL,Y3 hk,Px,Y3 hk];rfl)) rfl (dF (by decide))))),dr,if_pos h0];exact fin _
 .rw[Zk (qI (Zg (hlen _ _ _) rfl (by rw[mW,decide_eq_false (by omega)]))),dr,if_neg h0];exact fin 0
noncomputable def oN(x:List Nat):Bool:=decide (x=[97,100,100]\/x=[115,117,98]\/x=[109,111,114,101]\/x=[99,101,108,108])
variable{a b c:Nat}
theorem ZpE{p:Nat}(h:Ye a p++[c]++Ye b p≠[97,100,100]):oN (Ye a p++[c]++Ye b p)=false:=by
 refine decide_eq_false λz=>?_;rcases z with z|z|z|z
 .exact h z
 all_goals
  have hl:=congrArg Eo z;simp only[Yt,lM,Yo,nW]at hl
  match a,b,hl with
  | 0,b,hl=>
   first
    |(obtain rfl:b=2:=by omega);simp[Ye]at z;omega
    |(obtain rfl:b=3:=by omega);simp[Ye]at z;omega
  | 1,b,hl=>
   first
    |(obtain rfl:b=1:=by omega);simp[Ye]at z;omega
    |(obtain rfl:b=2:=by omega);simp[Ye]at z;omega
  | 2,b,hl=>
   first
    |(obtain rfl:b=0:=by omega);simp[Ye]at z;omega
    |(obtain rfl:b=1:=by omega);simp[Ye]at z;omega
  | 3,b,hl=>
   first
    |(obtain rfl:b=0:=by omega);simp[Ye]at z;omega
    |omega
  |a+4,b,hl=>omega
theorem pU(hl:ns.length<=63){k:Nat}{g:E3}(h0:f env M= .ok (SC ns) M)(h1:g env M= .ok (.int (k:Int)) M):Zu Zq (Za f (Za g Ze)) env M= .ok (.int (dr ns k)) M:=qJ h0 h1 (UG hl k M)
noncomputable abbrev l_:List Nat:=[97,98,99,100,101,102,103,104,105,106,107,108,109,110,111,112,113,114,115,116,117,118,119,120,121,122]
theorem ZoL(x:Int):∃c:Nat,l_[(x % 26).toNat]?=Ya c/\∀M,Zr (.str l_) (.int (x % 26)) M= .ok (.str [c]) M:=by obtain⟨a,e,ha⟩:=nA x 26 (by decide);have hg:l_[a]?=Ya (l_[a]'ha):=Y3 ha;have e':x % 26=(a:Int):=e;refine⟨l_[a]'ha,by rw[e',qm];exact hg,λM=>?_⟩;rw[e',RJ,kZ,hg];exact if_pos (show l_.length<=SZ by decide)
theorem ZpT(k c:Nat):(Ye k [c]).flatten=Ye k c:=by
 induction k with
 |zero=>rfl|succ k ih=>rw[ju,qb,ih];rfl
theorem mul_str{k:Nat}(hk:k<100)(M:Store):eU (.str [c]) (.int (k:Int)) M= .ok (.str (Ye k c)) M:=by
 have h:[c].length*((k:Int)).toNat<=SZ/\(k:Int)<1000000/\ -1000000<(k:Int):=by refine⟨?_,by omega,by omega⟩;rw[w5,Qd,qm];exact Yv (zT hk) (by decide)
 rw[Zpo,if_pos h,qm,ZpT]
theorem add_str{x y:List Nat}(h:x.length+y.length<100)(M:Store):bf (.str x) (.str y) M= .ok (.str (x++y)) M:=by rw[ZqI,if_pos (Yv (zT h) (by decide))]
def CQ(w:List Nat):Prop:=(∃a b p c,w=Ye a p++[c]++Ye b p)/\w≠[97,100,100]/\w.length<=8
theorem CQ.op{w:List Nat}(h:CQ w):oN w=false:=by obtain⟨⟨a,b,p,c,rfl⟩,h,_⟩:=h;exact ZpE h
theorem Hr{a b:List Nat}(h:a=b):bL (.str a) (.str b) M= .ok (.bl true) M:=by simp only[bL,Fz,decide_eq_true h]
theorem yG{a b:List Nat}(h:¬a=b):bL (.str a) (.str b) M= .ok (.bl false) M:=by simp only[bL,Fz,decide_eq_false h]
theorem ZqB{p:Nat}(e:Ye a p++[c]++Ye b p=[97,100,100]):a=0:=by
 match a,b,e with
 |0,_,_=>rfl|1,0,e=>simp at e|1,1,e=>simp at e;omega|1,k+2,e=>simp[ju]at e
 |2,k,e=>simp[ju]at e;omega|a+3,b,e=>have:=congrArg Eo e;simp at this;omega
theorem Mf(hl:ns.length<=63)(i:Nat):∃w,CQ w/\w[(dr ns 1 % 8).toNat]?=l_[(((i:Int)+dr ns 3) % 26).toNat]?/\∀M,nu [SC ns,.int (i:Int)] M= .ok (.str w) M:=by
 obtain⟨p,hp0,hp⟩:=ZoL (dr ns 0);obtain⟨c,hc0,hc⟩:=ZoL ((i:Int)+dr ns 3);obtain⟨pl,ep,hpl⟩:=nA (dr ns 1) 8 (by decide);have ep:dr ns 1 % 8=(pl:Int):=ep;have e8:(8:Int)-(pl:Int)=((8-pl:Nat):Int):=by omega
 obtain⟨t1,et1,ht1⟩:=nA (dr ns 2) (8-pl) (by omega);obtain⟨t2,et2,ht2⟩:=nA (dr ns (4+i)) (8-pl) (by omega)
 let b:Bool:=decide (dr ns 1 / 8 % 2=1)
 have hb:decide (dr ns 1 / 8 % 2=1)=b:=rfl
 let t:Nat:=if b then t2 else t1
 have ht:t<8-pl:=by show(if b then t2 else t1)<_;split <;>assumption
 let w0:List Nat:=Ye pl p++[c]++Ye t p
 have hw0:w0.length<=8:=by simp only[w0,Yt,lM,Yo,nW];omega
 have main:∀M,nu [SC ns,.int (i:Int)] M= .ok (.str (if w0=[97,100,100]then[97,100,100,100]else w0)) M:=λM=>by
  refine(jd (M':=M) (d:=.str (if w0=[97,100,100]then[97,100,100,100]else w0)) (env:=[Ya (SC ns),Ya (.int i),Yh,Yh,Yh,Yh,Yh]) ?_).trans (RT rfl);unfold Ui;rw[Zk (bN (d:=.str l_) rfl),Zk (bN (d:=.str [p]) (Zg rfl (Zg (pU hl (k:=0) rfl rfl) rfl (dF (by decide))) (hp M))),
   Zk (bN (d:=.int (pl:Int)) (Zg (pU hl (k:=1) rfl rfl) rfl ((dF (by decide)).trans (by rw[ep])))),
   Zk (bN (d:=.int (t1:Int)) (Zg (pU hl (k:=2) rfl rfl) (Zg rfl rfl (by rw[Rx,e8])) ((dF (by omega)).trans (by rw[et1]))))]
  have hc1:∀x:Option D,e2 bL (e2 aO (e2 dN (Zu Zq (Za (Zc 0) (Za (eC (.int 1)) (Ze)))) (eC (.int 8))) (eC (.int 2))) (eC (.int 1)) [Ya (SC ns),Ya (.int (i:Int)),Ya (.str l_),Ya (.str [p]),Ya (.int (pl:Int)),Ya (.int (t1:Int)),x] M= .ok (.bl b) M:=λx=>Zg (Zg (Zg (pU hl (k:=1) rfl rfl) rfl (jE (by decide))) rfl (dF (by decide))) rfl rfl;have step:aV (e2 bL (e2 aO (e2 dN (Zu Zq (Za (Zc 0) (Za (eC (.int 1)) (Ze)))) (eC (.int 8))) (eC (.int 2))) (eC (.int 1))) (aF 5 (e2 aO (Zu Zq (Za (Zc 0) (Za (e2 bf (eC (.int 4)) (Zc 1)) (Ze)))) (e2 jR (eC (.int 8)) (Zc 4)))) (fQ) [Ya (SC ns),Ya (.int (i:Int)),Ya (.str l_),Ya (.str [p]),Ya (.int (pl:Int)),Ya (.int (t1:Int)),Yh] M= .nx [Ya (SC ns),Ya (.int (i:Int)),Ya (.str l_),Ya (.str [p]),Ya (.int (pl:Int)),Ya (.int (t:Int)),Yh] M:=by
   cases hbb:b with
   |false=>
    have h1:=hc1 Yh;rw[hbb]at h1;have et:t=t1:=by show(if b then t2 else t1)=t1;rw[hbb];rfl
    rw[dh h1,et];rfl
   |true=>
    have h1:=hc1 Yh;rw[hbb]at h1;have et:t=t2:=by show(if b then t2 else t1)=t2;rw[hbb];rfl
    rw[d9 h1,et];exact bN (Zg (pU hl (k:=4+i) rfl (Zg rfl rfl rfl)) (Zg rfl rfl (by rw[Rx,e8])) ((dF (by omega)).trans (by rw[et2])))
  rw[Zk step,Zk (bN (d:=.str w0) (Zg (Zg (Zg rfl rfl (mul_str (by omega) M)) (Zg rfl (Zg (Zg rfl (pU hl (k:=3) rfl rfl) rfl) rfl (dF (by decide))) (hc M)) (add_str (by simp only[lM,w5];omega) M)) (Zg rfl rfl (mul_str (by omega) M)) (add_str (by simp only[Yt,lM,w5];omega) M)))];by_cases e:w0=[97,100,100]
  .rw[if_pos e];exact xP ((d9 (Zg rfl rfl (Hr e))).trans rfl)
  .rw[if_neg e,Zk (qI (Zg rfl rfl (yG e)))];rfl
 have hat:w0[pl]?=Ya c:=by simp[w0]
 refine⟨_,?_,?_,main⟩
 .by_cases e:w0=[97,100,100]
  .rw[if_pos e];exact⟨⟨0,3,100,97,rfl⟩,by decide,by decide⟩
  .rw[if_neg e];exact⟨⟨pl,t,p,c,rfl⟩,e,hw0⟩
 .rw[ep,qm,hc0];by_cases e:w0=[97,100,100]
  .rw[if_pos e];have h0:pl=0:=ZqB e;rw[e]at hat;rw[h0]at hat ⊢;exact hat
  .rw[if_neg e];exact hat
theorem UJ{d:Int}(hd:0<=d):∃z:Int,∀M,oK [.int d] M= .ok (.int z) M:=by
 obtain⟨a,ea,ha⟩:=nA d 4 (by decide);obtain⟨b,eb,hb⟩:=nA (d / 4) 2 (by decide);have ea:d % 4=(a:Int):=ea;have eb:d / 4 % 2=(b:Int):=eb
 let ud:List Int:=[d / 8 % 5,d / 8 % 1000,d / 8*4099 % 10^12,0]
 have h4:∃y:Int,(ud.map D.int)[a]?=Ya (.int y):=⟨ud[a]'ha,by rw[mL,Y3 (show a<ud.length from ha)];rfl⟩;obtain⟨y,hy⟩:=h4;have h2:∃z:Int,([D.int y,.int (-y)])[b]?=Ya (.int z):=by
  match b,hb with
  |0,_=>exact⟨_,rfl⟩|1,_=>exact⟨_,rfl⟩
 obtain⟨z,hz⟩:=h2;refine⟨z,λM=>?_⟩;refine(jd (M':=M++[.lst (ud.map D.int),.lst [.int y,.int (-y)]]) (d:=.int z) (env:=[Ya (.int d),Yh]) ?_).trans (Av rfl);unfold Uj;rw[Zk (bN (d:=.ref M.length) (M':=M++[.lst (ud.map D.int)]) (iY (Zm (Zg (Zg rfl rfl (jE (by decide))) rfl (dF (by decide))) (Zm (Zg (Zg rfl rfl (jE (by decide))) rfl (dF (by decide))) (Zm (Zg (Zg (Zg rfl rfl (jE (by decide))) rfl (Uz (by decide) M)) (Zg rfl rfl rfl) (dF (by decide))) (Zm rfl rfl)))) rfl))];have ix:∀x:Option D,e2 Zr (Zc 1) (e2 aO (Zc 0) (eC (.int 4))) [Ya (.int d),Ya (.ref M.length)] (M++[.lst (ud.map D.int)])= .ok (.int y) (M++[.lst (ud.map D.int)]):=λ_=>Zg rfl (Zg rfl rfl (dF (by decide))) (jy (dR M _ []) (by rw[ea,kZ];exact hy));refine h_ (Zg (iY (ds:=[.int y,.int (-y)]) (Zm (ix Yh) (Zm (dU (ix Yh) rfl) rfl)) rfl) (Zg (Zg rfl rfl (jE (by decide))) rfl (dF (by decide))) ?_);rw[kj];refine jy (xs:=[.int y,.int (-y)]) ?_ (by rw[eb,kZ];exact hz);rw[Yt];exact vg M [.lst (ud.map D.int),.lst [.int y,.int (-y)]] 1
inductive Sm where
 |num (i:Int)|bR (x:List Nat)|gD (a:Sm)|two (o:Nat) (a b:Sm)
noncomputable abbrev tY:List Nat:=[99,101,108,108]
noncomputable def v6:Nat->List Nat
 |0=>[97,100,100]|1=>[115,117,98]|_=>[109,111,114,101]
noncomputable def Sm.flat:Sm->List D
 | .num i=>[.int i]|.bR x=>[.str x]|.gD a=>.str tY::a.flat|.two o a b=>.str (v6 o)::(a.flat++b.flat)
noncomputable def Sm.good:Sm->Prop
 | .num _=>True|.bR x=>oN x=false|.gD a=>a.good|.two _ a b=>a.good/\b.good
noncomputable def Sm.all(Q:List Nat->Prop):Sm->Prop
 | .num _=>True|.bR x=>Q x|.gD a=>a.all Q|.two _ a b=>a.all Q/\b.all Q
variable{Q:List Nat->Prop}
theorem Sm.Ih{R:List Nat->Prop}(h:∀x,Q x->R x):∀t:Sm,t.all Q->t.all R
 | .num _,_=>trivial|.bR x,q=>h x q|.gD a,q=>a.Ih h q|.two _ a b,q=>⟨a.Ih h q.1,b.Ih h q.2⟩
theorem Sm.Ii:∀t:Sm,t.all (λx=>oN x=false)->t.good
 | .num _,_=>trivial|.bR _,q=>q|.gD a,q=>a.Ii q|.two _ a b,q=>⟨a.Ii q.1,b.Ii q.2⟩
noncomputable def Sm.parts:Sm->List Sm
 | .num _=>[]|.bR _=>[]|.gD a=>[a]|.two _ a b=>[a,b]
noncomputable def Sm.head:Sm->D
 | .num i=>.int i|.bR x=>.str x|.gD _=>.str tY|.two o _ _=>.str (v6 o)
theorem Sm.N6(t:Sm):t.flat=t.head::(t.parts.map Sm.flat).flatten:=by cases t<;>simp[Sm.flat,Sm.head,Sm.parts]
noncomputable def ar:D->Nat
 | .str x=>if x=tY then 1 else if oN x=true then 2 else 0|_=>0
inductive mz:D->Prop
 |int (i:Int):mz (.int i)
 |str (x:List Nat):mz (.str x)
theorem qX:∀(t:Sm),∀d∈t.flat,mz d
 | .num i,d,h=>by rw[lO.mp h];exact .int i|.bR x,d,h=>by rw[lO.mp h];exact .str x|.gD a,d,h=>by
  rcases Y6.mp h with h|h
  .rw[h];exact .str _
  .exact qX a d h
 | .two o a b,d,h=>by
  rcases Y6.mp h with h|h
  .rw[h];exact .str _
  .rcases rT.mp h with h|h
   .exact qX a d h
   .exact qX b d h
theorem ZtI(x:List Nat):qL x tV=if x=[97,100,100]then Ya 2 else if x=[115,117,98]then Ya 2 else if x=[109,111,114,101]then Ya 2 else if x=tY then Ya 1 else Yh:=rfl
theorem Zt6{w:D}(h:mz w)(M:Store):Bc tV w (.int 0) M= .ok (.int (ar w:Nat)) M:=by
 cases h with
 |int i=>rfl|str x=>
  show(match qL x tV with|some i=>R3.ok (D.int i) M|none=>R3.ok (D.int 0) M)=_;rw[ZtI];by_cases h1:x=[97,100,100]
  .subst h1;rfl
  by_cases h2:x=[115,117,98]
  .subst h2;rfl
  by_cases h3:x=[109,111,114,101]
  .subst h3;rfl
  by_cases h4:x=tY
  .subst h4;rfl
  have:oN x=false:=decide_eq_false λz=>z.elim h1 λz=>z.elim h2 λz=>z.elim h3 h4;simp only[if_neg h1,if_neg h2,if_neg h3,if_neg h4,ar,this];rfl
noncomputable def stp(s:List (List D)×Nat)(w:D):List (List D)×Nat:=
 let s:=if s.2=0 then(s.1++[[]],1)else s
 (s.1.dropLast++[s.1.getLastD []++[w]],s.2-1+ar w)
theorem CV(ds:List (List D))(cur:List D)(l:Nat)(w:D):stp (ds++[cur],l+1) w=(ds++[cur++[w]],l+ar w):=by simp[stp]
theorem Znx(ds:List (List D))(w:D):stp (ds,0) w=stp (ds++[[]],0+1) w:=by simp[stp]
theorem Mg:∀(t:Sm),t.good->∀(ds:List (List D)) (cur:List D) (l:Nat) (r:List D),(t.flat++r).foldl stp (ds++[cur],l+1)=r.foldl stp (ds++[cur++t.flat],l)
 | .num i,_,ds,cur,l,r=>by simp only[Sm.flat,pB,qj,qi,CV];rfl|.bR x,h,ds,cur,l,r=>by
  have e:ar (.str x)=0:=by
   have h:oN x=false:=h;have h':x≠tY:=λz=>by subst z;exact absurd h (by decide)
   simp only[ar,if_neg h',h];rfl
  simp only[Sm.flat,pB,qj,qi,CV,e,Qc]
 | .gD a,h,ds,cur,l,r=>by have e:ar (.str tY)=1:=rfl;simp only[Sm.flat,pB,qi,CV,e,Mg a h,kj,qj]|.two o a b,h,ds,cur,l,r=>by
  have e:ar (.str (v6 o))=2:=by
   match o with
   |0=>rfl|1=>rfl|_+2=>rfl
  have e2:l+2=l+1+1:=rfl;simp only[Sm.flat,pB,qi,CV,e,kj,e2,Mg a h.1,Mg b h.2,qj]
theorem UL(t:Sm):∃w r,t.flat=w::r:=⟨_,_,t.N6⟩
theorem Zq1(t:Sm)(h:t.good)(ds:List (List D))(r:List D):(t.flat++r).foldl stp (ds,0)=r.foldl stp (ds++[t.flat],0):=by obtain⟨w,q,e⟩:=UL t;have h1:=Mg t h ds [] 0 r;rw[qj]at h1;rw[←h1,e,pB,qi,qi,Znx]
theorem Zno:∀(ts:List Sm),(∀t∈ts,t.good)->∀ds,(ts.map Sm.flat).flatten.foldl stp (ds,0)=(ds++ts.map Sm.flat,0)
 |[],_,ds=>by simp|t::ts,h,ds=>by rw[Y9,qb,Zq1 t (h t Yw),Zno ts λt ht=>h t (Yp _ ht)];simp
noncomputable def lF(n j:Nat):List D:=(dX j).map λk=>D.ref (n+1+k)
noncomputable def fW(M:Store)(done:List (List D)):Store:=M++ .lst (lF M.length done.length)::done.map MO.lst
theorem ZmY(M:Store)(done:List (List D)):(fW M done).length=M.length+1+done.length:=by simp only[fW,Yt,Yo,iz];omega
theorem Hs(M:Store)(done:List (List D)):(fW M done)[M.length]?=Ya (.lst (lF M.length done.length)):=dR _ _ _
theorem ZpU(M:Store)(done:List (List D))(k:Nat):(fW M done)[M.length+1+k]?=(done[k]?).map MO.lst:=by rw[fW,Qa,vg,Ep 1 k,YL,mL]
theorem Ziw(n j:Nat):lF n (j+1)=lF n j++[D.ref (n+1+j)]:=by simp[lF,List.range_succ]
theorem Zsf(M:Store)(done:List (List D)):(fW M done++[MO.lst []]).set M.length (MO.lst (lF M.length done.length++[D.ref (fW M done).length]))=fW M (done++[[]]):=by have h:=FZ M (MO.lst (lF M.length done.length)::done.map MO.lst++[MO.lst []]) 0 (MO.lst (lF M.length done.length++[D.ref (fW M done).length]));rw[Qc]at h;rw[ZmY]at h ⊢;rw[fW,kj,h,fW,Yt,w5,Ziw];simp
theorem ZqS(M:Store)(ds:List (List D))(cur:List D)(w:D):(fW M (ds++[cur])).set (M.length+1+ds.length) (MO.lst (cur++[w]))=fW M (ds++[cur++[w]]):=by rw[fW,Qa,FZ,fW];simp[Ep 1]
theorem Zi4{α:Type}{enc h:α->D}{it:gA}{g:G3}{n:Nat}{elt:E3}{I:Zo->Prop}{M:Store}:∀(as:List α) (acc:List D) (env:Zo),I env ->
  (∀a∈as,∀env,I env->∃cV,g (enc a) env=Ya cV/\I cV/\∀x,elt cV (M.set n (.lst x))= .ok (h a) (M.set n (.lst x)))->(∀x,locked it (M.set n (.lst x))=true)->n<M.length->acc.length+as.length<=SZ ->
  dg it g [] elt n (as.map enc) env (M.set n (.lst acc))= .ok (.ref n) (M.set n (.lst (acc++as.map h)))
 |[],acc,env,_,_,hl,_,_=>by simp only[xj,RP,hl,if_true,qd]|a::as,acc,env,hI,hf,hl,hn,hz=>by
  obtain⟨cV,hg,UT,he⟩:=hf a Yw env hI;have gt:(M.set n (.lst acc))[n]?=Ya (.lst acc):=by simp[hn]
  have lt:acc.length<SZ:=by simp only[Yo]at hz;exact lC 1 2204024704001 T1 hz
  have ih:=Zi4 as (acc++[h a]) cV UT (λb hb=>hf b (Yp _ hb)) hl hn (by simp only[Yt,Yo,nW]at hz ⊢;exact lC 1 0x21aec0cc02a1c0c01 T1 hz);simp only[Y9,Kz,hl,if_true,hg,Ky,Zox,R3.bind,he,gt,lt,List.set_set];rw[ih];simp
theorem UV{α:Type}{enc h:α->D}{own:Nat}{i:I3}{g:G3}{elt:E3}{M M1:Store}{lock:Option Nat}{as:List α}(I:Zo->Prop)(hi:i env M= .ok ⟨as.map enc,lock⟩ M1)(AcR:∀n,lock=Ya n->M1[n]?=Ya (.lst (as.map enc)))(hI:I (env++Ye own Yh))(hf:∀a∈as,∀env,I env->∃cV,g (enc a) env=Ya cV/\I cV/\∀x,elt cV (M1++[.lst x])= .ok (h a) (M1++[.lst x]))(hz:as.length<=100000):
  lW i own g [] elt env M= .ok (.ref M1.length) (M1++[.lst (as.map h)]):=by
 have st:∀x:List D,(M1++[MO.lst []]).set M1.length (.lst x)=M1++[.lst x]:=λx=>by simp
 rw [Zpw hi];have:=Zi4 (enc:=enc) (h:=h) (it:=⟨as.map enc,lock⟩) (g:=g) (n:=M1.length) (elt:=elt) (I:=I) (M:=M1++[.lst []]) as [] (env++Ye own Yh) hI
  (λa ha e he=>by obtain⟨e1,h1,h2,h3⟩:=hf a ha e he;exact⟨e1,h1,h2,λx=>by rw[st];exact h3 x⟩)
  (λx=>by
   rw[st];cases lock with
   |none=>rfl|some n=>simp only[locked,decide_eq_true_eq];exact iC (AcR n rfl) _) (by simp) (by simp;exact lA 1 0xf42405b00186a05b001 T1 hz)
 rw[st,st]at this;simpa using this
theorem Zmk{x:List D}(h:M[n]?=Ya (.lst x)):kW [.ref n] M= .ok (.tup x) M:=by simp[h]
noncomputable abbrev UW:S3:=aq (aV (e2 bL (Zc 2) (eC (.int 0))) (aq (Zw (bD bI cj (Zc 1) (Za (cg (Ze)) (Ze)))) (aF 2 (eC (.int 1)))) (fQ)) (aq (Zw (bD bI cj (e2 Zr (Zc 1) (e1 jk (eC (.int 1)))) (Za (Zc 3) (Ze)))) (aF 2 (e2 bf (e2 jR (Zc 2) (eC (.int 1))) (e2 (Bc tV) (Zc 3) (eC (.int 0))))))
theorem ZnK(n j:Nat):(lF n j).length=j:=by simp[lF]
theorem yH{M M' M2:Store}{o t:E3}(ho:o env M= .ok (.ref n) M')(hM:M'[n]?=Ya (.lst xs))(ht:t env M'= .ok d M2)(hM':M2[n]?=Ya (.lst xs))(hl:xs.length<SZ):
  Zw (bD bI cj o (Za t (Ze))) env M= .nx env (M2.set n (.lst (xs++[d]))):=by
 have e:bD bI cj o (Za t (Ze)) env M= .ok .non (M2.set n (.lst (xs++[d]))):=by simp only[bD,ho,R3.bind,Ao,hM,Za,ht,Ze,Ks,hM',if_pos hl,if_true]
 rw[Zw,e]
theorem Zk5(M:Store)(ds:List (List D))(cur:List D)(l:Nat)(w W:D)(hw:mz w)(h1:ds.length<1000)(h2:cur.length<1000):
  (aq (Zw (bD bI cj (e2 Zr (Zc 1) (e1 jk (eC (.int 1)))) (Za (Zc 3) (Ze)))) (aF 2 (e2 bf (e2 jR (Zc 2) (eC (.int 1))) (e2 (Bc tV) (Zc 3) (eC (.int 0)))))) [Ya W,Ya (.ref M.length),Ya (.int ((l+1:Nat):Int)),Ya w] (fW M (ds++[cur]))
   = .nx [Ya W,Ya (.ref M.length),Ya (.int ((l+ar w:Nat):Int)),Ya w] (fW M (ds++[cur++[w]])):=by
 have hr:lF M.length (ds++[cur]).length=lF M.length ds.length++[.ref (M.length+1+ds.length)]:=by rw[Yt,w5,Ziw]
 have hat:(fW M (ds++[cur]))[M.length+1+ds.length]?=Ya (.lst cur):=by rw[ZpU];simp
 refine(Zk (yH (M':=fW M (ds++[cur])) (Zg rfl (dU rfl (Kh 1)) (jy (Hs M _) (by rw[hr];exact getD_last _ _))) hat rfl hat (lQ h2 (by decide)))).trans ?_;rw[ZqS];refine bN (Zg (Zg rfl rfl rfl) (Zg rfl rfl (Zt6 hw _)) ?_);rw[Kf];congr 2;omega
theorem ZnO(M:Store)(done:List (List D))(l:Nat)(w W:D)(hw:mz w)(h1:done.length<900)(h2:∀c∈done,c.length<900)(hn:l≠0->done≠[]):
  UW [Ya W,Ya (.ref M.length),Ya (.int (l:Int)),Ya w] (fW M done)= .nx [Ya W,Ya (.ref M.length),Ya (.int ((stp (done,l) w).2:Nat)),Ya w] (fW M (stp (done,l) w).1):=by
 cases l with
 |zero=>
  rw[Znx,CV];have hz:(lF M.length done.length).length<SZ:=by rw[ZnK];exact lQ h1 (by decide)
  show aq _ _ _ _=_;refine(Zk ((d9 (Zg rfl rfl (k_ rfl))).trans ((Zk (qW rfl (Hs M done) (iY rfl rfl) (iC (Hs M done) _) hz)).trans (bN (d:=.int 1) rfl)))).trans ?_;rw[Zsf];exact Zk5 M done [] 0 w W hw (by omega) (by simp)
 |succ l=>have hd:=hn (by omega);have e:done=done.dropLast++[done.getLast hd]:=(List.dropLast_concat_getLast hd).symm;generalize done.dropLast=ds at e;generalize done.getLast hd=cur at e;subst e;rw[CV];show aq _ _ _ _=_;refine(Zk (qI (Zg rfl rfl (iR (by omega))))).trans ?_;exact Zk5 M ds cur l w W hw (by simp at h1;omega) (by have:=h2 cur (by simp);omega)
theorem ZmU(s:List (List D)×Nat)(w:D):(stp s w).1.length<=s.1.length+1/\(stp s w).1≠[]:=by
 unfold stp;by_cases h:s.2=0
 .simp[h]
 .simp[h]
theorem ZrL(s:List (List D)×Nat)(w:D)(k:Nat)(h:∀c∈s.1,c.length<=k):∀c∈(stp s w).1,c.length<=k+1:=by
 have key:∀x:List (List D),(∀c∈x,c.length<=k)->∀c∈x.dropLast++[x.getLastD []++[w]],c.length<=k+1:=by
  intro x hx c hc;rcases rT.mp hc with hc|hc
  .exact Nat.le_succ_of_le (hx c (List.dropLast_subset _ hc))
  .rw[lO.mp hc,Yt,w5];refine ZZ ?_;cases x with
   |nil=>exact eG _|cons a x=>exact hx _ (by rw[List.getLastD_cons];exact(show(x.getLastD a)∈a::x by rw[List.getLastD_eq_getLast?];cases hx':x.getLast? with|none=>simp|some y=>exact Yp _ (List.mem_of_getLast? hx')))
 unfold stp;by_cases hs:s.2=0
 .simp only[hs,if_true];exact key _ λc hc=>by
   rcases rT.mp hc with hc|hc
   .exact h c hc
   .rw[lO.mp hc];exact eG _
 .simp only[hs,if_false];exact key _ h
theorem ZnG(M:Store)(W:D)(ws:List D)(hw:∀w∈ws,mz w)(hl:ws.length<=500)(x0:Option D)(it:gA)(hi:it.lock=Yh):
  ∃x,dZ it (bQ 3) UW ws [Ya W,Ya (.ref M.length),Ya (.int 0),x0] (fW M [])= .nx [Ya W,Ya (.ref M.length),Ya (.int ((ws.foldl stp ([],0)).2:Nat)),x] (fW M (ws.foldl stp ([],0)).1):=by
 have main:∀(ws:List D) (done:List (List D)) (l k:Nat) (x0:Option D),(∀w∈ws,mz w)->k+ws.length<=500->done.length<=k->(∀c∈done,c.length<=k)->(l≠0->done≠[]) ->
   ∃x,dZ it (bQ 3) UW ws [Ya W,Ya (.ref M.length),Ya (.int (l:Int)),x0] (fW M done)= .nx [Ya W,Ya (.ref M.length),Ya (.int ((ws.foldl stp (done,l)).2:Nat)),x] (fW M (ws.foldl stp (done,l)).1):=by
  intro ws
  induction ws with
  |nil=>intro done l k x0 _ _ _ _ _;exact⟨x0,by rw[sY,if_pos (by unfold locked;rw[hi])];rfl⟩|cons w ws ih=>intro done l k x0 hw hk h1 h2 hn;rw[Yo]at hk;obtain⟨x,hx⟩:=ih (stp (done,l) w).1 (stp (done,l) w).2 (k+1) (Ya w) (λy hy=>hw y (Yp _ hy)) (by omega) (by have:=(ZmU (done,l) w).1;simp only at this;omega) (ZrL (done,l) w k h2) (λ_=>(ZmU (done,l) w).2);refine⟨x,?_⟩;rw[pN,if_pos (by unfold locked;rw[hi])];have:=ZnO M done l w W (hw w Yw) (by omega) (λc hc=>by have:=h2 c hc;omega) hn;simp only[bQ,nQ,nR,this];exact hx
 exact main ws [] 0 0 x0 hw (by omega) (eG _) (λc hc=>by cases hc) (λh=>absurd rfl h)
theorem Zmz(M:Store)(ts:List Sm)(hg:∀t∈ts,t.good)(hl:(ts.map Sm.flat).flatten.length<=500):∃G k,Lr [.tup (ts.map Sm.flat).flatten] M= .ok (.ref (M.length+k)) (M++G)/\G[k]?=Ya (.lst (ts.map λt=>.tup t.flat)):=by
 have hws:∀w∈(ts.map Sm.flat).flatten,mz w:=λw hw=>by obtain⟨l,h1,h2⟩:=List.mem_flatten.mp hw;obtain⟨t,_,rfl⟩:=zN.mp h1;exact qX t w h2
 obtain⟨x,hx⟩:=ZnG M (.tup (ts.map Sm.flat).flatten) _ hws hl Yh ⟨(ts.map Sm.flat).flatten,Yh⟩ rfl;rw[Zno ts hg]at hx;simp only[qj]at hx;have hn:(ts.map Sm.flat).length<=100000:=by
  have:∀l:List Sm,(l.map Sm.flat).length<=(l.map Sm.flat).flatten.length:=by
   intro l
   induction l with
   |nil=>exact Yl _|cons t l ih=>rw[Y9,qb,Yt,Yo];obtain⟨w,r,e⟩:=UL t;rw[e,Yo];omega
  have:=this ts;omega
 let S:=fW M (ts.map Sm.flat)
 have lc:lW (kY (Zc 1)) 1 (bQ 4) [] (aU kW (Za (Zc 4) (Ze))) [Ya (.tup (ts.map Sm.flat).flatten),Ya (.ref M.length),Ya (.int ((0:Nat):Int)),x] S= .ok (.ref S.length) (S++[.lst ((dX (ts.map Sm.flat).length).map λk=>D.tup ((ts.map Sm.flat).getD k []))]):=by
  refine UV (enc:=λk=>D.ref (M.length+1+k)) (h:=λk=>D.tup ((ts.map Sm.flat).getD k [])) (as:=dX (ts.map Sm.flat).length) (M1:=S) (lock:=Ya M.length) (λe=>∃a b c d y,e=[a,b,c,d,y]) ?_ ?_ ⟨_,_,_,_,_,rfl⟩ ?_ (by rw[PJ];exact hn)
  .show(R3.ok (D.ref M.length) S).bind _=_;simp only[R3.bind];rw[show S[M.length]?=_ from Hs M _];rfl
  .intro n hn';cases hn';exact Hs M _
  .intro k hk env ⟨a,b,c,d,y,e⟩;subst e;have hk:=En.mp hk;refine⟨_,rfl,⟨_,_,_,_,_,rfl⟩,λz=>?_⟩;refine je rfl ?_;refine(Zmk (x:=(ts.map Sm.flat).getD k []) (iC ?_ _));rw[ZpU,Y3 hk,Px,Y3 hk];rfl
 have hlist:((dX (ts.map Sm.flat).length).map λk=>D.tup ((ts.map Sm.flat).getD k []))=ts.map λt=>D.tup t.flat:=by
  apply List.ext_getElem?;intro j;rw[mL,mL];by_cases hj:j<ts.length
  .rw[List.getElem?_range (by simpa using hj),Y3 hj];simp[Px,mL,Y3 hj]
  .rw[YT (by simpa using hj),YT (by simpa using hj)];rfl
 rw[hlist]at lc;have hS:S=M++(.lst (lF M.length (ts.map Sm.flat).length)::(ts.map Sm.flat).map MO.lst):=rfl;refine⟨(.lst (lF M.length (ts.map Sm.flat).length)::(ts.map Sm.flat).map MO.lst)++[.lst (ts.map λt=>.tup t.flat)],1+(ts.map Sm.flat).length,?_,?_⟩
 .have hlen:S.length=M.length+(1+(ts.map Sm.flat).length):=by rw[ZmY,Qa]
  refine(jd (M':=S++[.lst (ts.map λt=>.tup t.flat)]) (d:=.ref S.length) (env:=[Ya (.tup (ts.map Sm.flat).flatten),Yh,Yh,Yh]) ?_).trans ?_
  .unfold Ud;rw[Zk (bN (d:=.ref M.length) (M':=fW M []) (iY rfl rfl)),Zk (bN (d:=.int 0) rfl),Zk ((RQ (it:=⟨(ts.map Sm.flat).flatten,Yh⟩) rfl).trans hx)];exact h_ ((ZsE (Zg rfl rfl (k_ rfl))).trans lc)
  .have hb:below M.length (.ref S.length)=false:=by show decide (S.length<M.length)=false;rw[hlen];exact decide_eq_false (by omega)
   rw[tidy,hb,hlen,hS,kj];rfl
 .simp[Ep 1]
theorem Zqp(M:Store)(t:Sm)(hg:t.good)(hl:t.flat.length<=500):∃G k,yr [.tup t.flat] M= .ok (.ref (M.length+k)) (M++G)/\G[k]?=Ya (.lst (t.parts.map λt=>.tup t.flat)):=by
 have hgp:∀s∈t.parts,s.good:=by
  cases t with
  |num _=>intro s h;cases h|bR _=>intro s h;cases h|gD a=>intro s h;rw[lO.mp h];exact hg|two o a b=>
   intro s h;rcases Y6.mp h with h|h
   .rw[h];exact hg.1
   .rw[lO.mp h];exact hg.2
 have e:=t.N6;have hl':(t.parts.map Sm.flat).flatten.length<=500:=by rw[e,Yo]at hl;omega
 obtain⟨G,k,h1,h2⟩:=Zmz M t.parts hgp hl';refine⟨G,k,?_,h2⟩;refine(jd (M':=M++G) (d:=.ref (M.length+k)) (env:=[Ya (.tup t.flat)]) ?_).trans ?_
 .unfold Ue;refine h_ (Aw (M1:=M) (a:=.tup (t.parts.map Sm.flat).flatten) ?_ h1);show R3.ok (D.tup (cutD t.flat (Ya ((1:Nat):Int)) Yh)) M=_;rw[Zk2,e];rfl
 .have hb:below M.length (.ref (M.length+k))=false:=decide_eq_false (by omega);rw[tidy,hb];rfl
noncomputable abbrev U0:S3:=aq (aF 6 (Zu Zq (Za (Zc 0) (Za (e2 bf (Zc 1) (aU bM (Za (Zc 4) (Ze)))) (Ze))))) (aq (aF 5 (e2 jR (Zc 5) (eC (.int 1)))) (aV (kO (e2 Fy (e2 bf (aU bM (Za (Zc 4) (Ze))) (Zc 5)) (Zc 3)) (e2 lV (e2 aO (Zc 6) (eC (.int 5))) (eC (.int 2)))) (aV (e2 bL (e2 aO (e2 dN (Zc 6) (eC (.int 5))) (eC (.int 3))) (eC (.int 0))) (Zw (bD bI cj (Zc 4) (Za (Zu oK (Za (e2 dN (Zc 6) (eC (.int 15))) (Ze))) (Ze)))) (Zw (bD bI cj (Zc 4) (Za (e2 Zr (Zc 2) (e2 aO (e2 dN (Zc 6) (eC (.int 15))) (aU bM (Za (Zc 2) (Ze))))) (Ze))))) (aV (e2 bL (e2 aO (Zc 6) (eC (.int 5))) (eC (.int 2))) (aq (Zw (bD bI cj (Zc 4) (Za (eC (.str [99,101,108,108])) (Ze)))) (aF 5 (e2 bf (Zc 5) (eC (.int 1))))) (aq (Zw (bD bI cj (Zc 4) (Za (e2 Zr (cg (Za (eC (.str [97,100,100])) (Za (eC (.str [115,117,98])) (Za (eC (.str [109,111,114,101])) (Ze))))) (e2 aO (e2 dN (Zc 6) (eC (.int 5))) (eC (.int 3)))) (Ze)))) (aF 5 (e2 bf (Zc 5) (eC (.int 2))))))))
inductive CZ(Q:List Nat->Prop)(lim n d:Nat):D->Nat->Prop
 |num (i:Int):CZ Q lim n d (.int i) d
 |bR (x:List Nat) (h:Q x):CZ Q lim n d (.str x) d
 |gD (h:n+d<lim):CZ Q lim n d (.str tY) (d+1)
 |two (o:Nat) (h:n+d<lim):CZ Q lim n d (.str (v6 o)) (d+2)
def Due(Q:List Nat->Prop)(words:List D)(due:Nat):Prop:=∀ts:List Sm,ts.length=due->(∀t∈ts,t.all Q)->∃t:Sm,t.all Q/\t.flat=words++(ts.map Sm.flat).flatten
theorem Zxd:Due Q [] 1:=λts h hg=>by
 match ts,h with
 |[t],_=>exact⟨t,hg t (by simp),by simp⟩
variable{words:List D}
theorem Mh{d:Nat}{t:Sm}{ts:List Sm}(h:Due Q words (d+1))(hl:ts.length=d)(ht:t.all Q)(hg:∀t∈ts,t.all Q):∃s:Sm,s.all Q/\s.flat=words++(t.flat++(ts.map Sm.flat).flatten):=by
 obtain⟨s,h1,h2⟩:=h (t::ts) (by rw[Yo,hl]) (λx hx=>by
  rcases Y6.mp hx with e|e
  .rw[e];exact ht
  .exact hg x e)
 exact⟨s,h1,h2⟩
theorem ZoJ{lim n d um:Nat}{w:D}(h:Due Q words (d+1))(t:CZ Q lim n d w um):Due Q (words++[w]) um:=by
 cases t with
 |num i=>exactλts hl hg=>by simpa[Sm.flat]using Mh h hl (t:=.num i) trivial hg|bR x hx=>exactλts hl hg=>by simpa[Sm.flat]using Mh h hl (t:=.bR x) hx hg|gD hh=>
  intro ts hl hg;cases ts with
  |nil=>cases hl|cons a ts=>simpa[Sm.flat]using Mh h (E_ hl) (t:=.gD a) (hg a (by simp)) λt ht=>hg t (Yp _ ht)
 | two o hh=>
  intro ts hl hg;cases ts with
  |nil=>cases hl|cons a ts=>cases ts with
   |nil=>simp at hl|cons b ts=>simpa[Sm.flat]using Mh h (by simp at hl;omega) (t:=.two o a b) ⟨hg a (by simp),hg b (by simp)⟩ λt ht=>hg t (Yp _ (Yp _ ht))
theorem Ht{G:Store}{x y:List D}:(M++ .lst x::G).set M.length (.lst y)=M++ .lst y::G:=by have:=FZ M (.lst x::G) 0 (.lst y);simpa using this
variable{names:List (List Nat)}
theorem ZnX(hl:ns.length<=63){G:Store}{nr at0 lim d:Nat}(hn:M[nr]?=Ya (.lst (names.map D.str)))(hne:0<names.length)(hlt:names.length<1000)(hop:∀x∈names,Q x)(hw:words.length<1000)(x:Option D):
  ∃w um G' Mi,CZ Q lim words.length d w um/\U0 [Ya (SC ns),Ya (.int (at0:Int)),Ya (.ref nr),Ya (.int (lim:Int)),Ya (.ref M.length),Ya (.int ((d+1:Nat):Int)),x] (M++ .lst words::G)=
   .nx [Ya (SC ns),Ya (.int (at0:Int)),Ya (.ref nr),Ya (.int (lim:Int)),Ya (.ref M.length),Ya (.int (um:Nat)),Mi] (M++ .lst (words++[w])::G'):=by
 have h4:(M++ .lst words::G)[M.length]?=Ya (.lst words):=dR _ _ _;have hlen:∀{env:Zo},Zc 4 env (M++ .lst words::G)= .ok (.ref M.length) (M++ .lst words::G)->aU bM (Za (Zc 4) (Ze)) env (M++ .lst words::G)= .ok (.int (words.length:Int)) (M++ .lst words::G):=λh=>je h (vm h4);have Mj:words.length<SZ:=lQ hw (by decide)
 let D0:=dr ns (at0+words.length)
 have hD:0<=D0:=Uy _ _;have s1:aF 6 (Zu Zq (Za (Zc 0) (Za (e2 bf (Zc 1) (aU bM (Za (Zc 4) (Ze)))) (Ze)))) [Ya (SC ns),Ya (.int (at0:Int)),Ya (.ref nr),Ya (.int (lim:Int)),Ya (.ref M.length),Ya (.int ((d+1:Nat):Int)),x] (M++ .lst words::G)= .nx [Ya (SC ns),Ya (.int (at0:Int)),Ya (.ref nr),Ya (.int (lim:Int)),Ya (.ref M.length),Ya (.int ((d+1:Nat):Int)),Ya (.int D0)] (M++ .lst words::G):=bN (pU hl (k:=at0+words.length) rfl (Zg rfl (hlen rfl) rfl));have s2:aF 5 (e2 jR (Zc 5) (eC (.int 1))) [Ya (SC ns),Ya (.int (at0:Int)),Ya (.ref nr),Ya (.int (lim:Int)),Ya (.ref M.length),Ya (.int ((d+1:Nat):Int)),Ya (.int D0)] (M++ .lst words::G)= .nx [Ya (SC ns),Ya (.int (at0:Int)),Ya (.ref nr),Ya (.int (lim:Int)),Ya (.ref M.length),Ya (.int (d:Int)),Ya (.int D0)] (M++ .lst words::G):=bN (d:=.int (d:Int)) (Zg rfl rfl (by rw[Rx];congr 2;omega));have c1:∀b:Bool,(b=true↔(lim:Int)<=(words.length:Int)+(d:Int)\/D0 % 5<2)->kO (e2 Fy (e2 bf (aU bM (Za (Zc 4) (Ze))) (Zc 5)) (Zc 3)) (e2 lV (e2 aO (Zc 6) (eC (.int 5))) (eC (.int 2))) [Ya (SC ns),Ya (.int (at0:Int)),Ya (.ref nr),Ya (.int (lim:Int)),Ya (.ref M.length),Ya (.int (d:Int)),Ya (.int D0)] (M++ .lst words::G)= .ok (.bl b) (M++ .lst words::G):=λb hb=>by
  by_cases hq:(lim:Int)<=(words.length:Int)+(d:Int)
  .have:b=true:=hb.mpr (.inl hq);subst this;exact ZvH (Zg (Zg (hlen rfl) rfl rfl) rfl (by rw[Znh,decide_eq_true hq]))
  .rw[Ga (Zg (Zg (hlen rfl) rfl rfl) rfl (by rw[Znh,decide_eq_false hq]))];refine Zg (Zg rfl rfl (dF (by decide))) rfl ?_;rw[u5];congr 2;cases hb2:b with
   |true=>exact decide_eq_true ((hb.mp hb2).resolve_left hq)|false=>exact decide_eq_false λz=>by have:=hb.mpr (.inr z);rw[hb2]at this;cases this
 show∃w um G' Mi,_/\aq _ _ _ _=_;rw[Zk s1,Zk s2];by_cases Wr:(lim:Int)<=(words.length:Int)+(d:Int)\/D0 % 5<2
 .rw[d9 (c1 true ⟨λ_=>Wr,λ_=>rfl⟩)];by_cases h3:D0 / 5 % 3=0
  .obtain⟨z,hz⟩:=UJ (d:=D0 / 15) (by omega);refine⟨.int z,d,G,Ya (.int D0),.num z,?_⟩;rw[d9 (Zg (Zg (Zg rfl rfl (jE (by decide))) rfl (dF (by decide))) rfl (k_ h3)),qW rfl h4 (Aw (Zg rfl rfl (jE (by decide))) (hz _)) h4 Mj,Ht]
  .obtain⟨a,ea,ha⟩:=nA (D0 / 15) names.length hne;have hga:names[a]?=Ya (names[a]'ha):=Y3 ha;refine⟨.str (names[a]'ha),d,G,Ya (.int D0),.bR _ (hop _ (Jj ha)),?_⟩;have hnr:(M++ .lst words::G)[nr]?=Ya (.lst (names.map D.str)):=iC hn _;rw[dh (Zg (Zg (Zg rfl rfl (jE (by decide))) rfl (dF (by decide))) rfl (iR h3)),qW rfl h4 (Zg rfl (Zg (Zg rfl rfl (jE (by decide))) (je rfl (vm hnr)) (dF (by rw[iz];omega))) (jy hnr (by rw[iz,ea,kZ,mL,hga];rfl))) h4 Mj,Ht]
 .have hlt2:words.length+d<lim:=by omega
  rw[dh (c1 false ⟨λz=>ft z,λz=>absurd z Wr⟩)];by_cases h2:D0 % 5=2
  .refine⟨.str tY,d+1,G,Ya (.int D0),.gD hlt2,?_⟩;rw[d9 (Zg (Zg rfl rfl (dF (by decide))) rfl (k_ h2)),Zk (qW rfl h4 rfl h4 Mj),Ht];exact bN (Zg rfl rfl rfl)
  .obtain⟨o,eo,ho⟩:=nA (D0 / 5) 3 (by decide);have eo:D0 / 5 % 3=(o:Int):=eo;refine⟨.str (v6 o),d+2,G++[.lst [.str [97,100,100],.str [115,117,98],.str [109,111,114,101]]],Ya (.int D0),.two o hlt2,?_⟩;have hM2:M++ .lst words::G++[.lst [.str [97,100,100],.str [115,117,98],.str [109,111,114,101]]]=M++ .lst words::(G++[.lst [.str [97,100,100],.str [115,117,98],.str [109,111,114,101]]]):=by simp
   have hi:[D.str [97,100,100],.str [115,117,98],.str [109,111,114,101]][o]?=Ya (.str (v6 o)):=by
    match o,ho with
    |0,_=>rfl|1,_=>rfl|2,_=>rfl
   rw[dh (Zg (Zg rfl rfl (dF (by decide))) rfl (iR h2)),Zk (qW (M':=M++ .lst words::(G++[.lst [.str [97,100,100],.str [115,117,98],.str [109,111,114,101]]])) rfl h4 (Zg (iY (ds:=[.str [97,100,100],.str [115,117,98],.str [109,111,114,101]]) rfl rfl) (Zg (Zg rfl rfl (jE (by decide))) rfl (dF (by decide))) (by rw[←hM2];exact jy (dR _ _ []) (by rw[eo,kZ];exact hi))) (dR _ _ _) Mj),Ht];exact bN (Zg rfl rfl rfl)
theorem ZlK(hl:ns.length<=63){nr at0 lim:Nat}(hn:M[nr]?=Ya (.lst (names.map D.str)))(hne:0<names.length)(hlt:names.length<1000)(hop:∀x∈names,Q x)(hlim:lim<=900):
  ∀(m fuel d:Nat) (words:List D) (G:Store) (x:Option D),words.length+m=lim+2->m<fuel->words.length+d<=lim+2->Due Q words d->(∀w∈words,mz w) ->
  ∃t:Sm,t.all Q/\t.flat.length<=lim+2/\(∀w∈t.flat,mz w)/\∃G' x',g_ (e2 jc (Zc 5) (eC (.int 0))) U0 fuel [Ya (SC ns),Ya (.int (at0:Int)),Ya (.ref nr),Ya (.int (lim:Int)),Ya (.ref M.length),Ya (.int (d:Int)),x] (M++ .lst words::G)=
   .nx [Ya (SC ns),Ya (.int (at0:Int)),Ya (.ref nr),Ya (.int (lim:Int)),Ya (.ref M.length),Ya (.int 0),x'] (M++ .lst t.flat::G'):=by
 intro m
 induction m with
 |zero=>
  intro fuel d words G x hm hf hd Ir hw;have:d=0:=by omega
  subst this;obtain⟨t,h1,h2⟩:=Ir [] rfl (λt ht=>by cases ht);have h2:t.flat=words:=by simpa using h2
  refine⟨t,h1,by rw[h2];omega,by rw[h2];exact hw,G,x,?_⟩;obtain⟨f,rfl⟩:∃f,fuel=f+1:=⟨fuel-1,by omega⟩;rw[oA,h2];rfl
 | succ m ih=>
  intro fuel d words G x hm hf hd Ir hw;obtain⟨f,rfl⟩:∃f,fuel=f+1:=⟨fuel-1,by omega⟩;cases d with
  |zero=>
   obtain⟨t,h1,h2⟩:=Ir [] rfl (λt ht=>by cases ht);have h2:t.flat=words:=by simpa using h2
   refine⟨t,h1,by rw[h2];omega,by rw[h2];exact hw,G,x,?_⟩;rw[oA,h2];rfl
  | succ d=>
   obtain⟨w,um,G',Mi,ht,hb⟩:=ZnX (at0:=at0) (lim:=lim) (d:=d) (G:=G) hl hn hne hlt hop (words:=words) (by omega) x;have hlen:(words++[w]).length=words.length+1:=by simp
   have AcS:=ZoJ Ir ht;have hiw:mz w:=by cases ht<;>first|exact .int _|exact .str _
   obtain⟨t,g1,g2,g3,G2,x2,g4⟩:=ih f um (words++[w]) G' Mi (by omega) (by omega) (by rw[hlen];cases ht<;>omega) AcS (λy hy=>by
    rcases rT.mp hy with hy|hy
    .exact hw y hy
    .rw[lO.mp hy];exact hiw)
   refine⟨t,g1,g2,g3,G2,x2,?_⟩;rw[oA];have hc:e2 jc (Zc 5) (eC (.int 0)) [Ya (SC ns),Ya (.int (at0:Int)),Ya (.ref nr),Ya (.int (lim:Int)),Ya (.ref M.length),Ya (.int ((d+1:Nat):Int)),x] (M++ .lst words::G)= .ok (.bl true) (M++ .lst words::G):=Zg rfl rfl (by rw[mW,decide_eq_true (by omega)]);rw[hc];show(match U0 _ _ with| .nx e M'=>_| .ct e M'=>_| .bk e M'=>_|o=>o)=_;rw[hb];exact g4
theorem qY{n:Nat}:∀{l:List D},(∀w∈l,mz w)->bV n l=true
 |[],_=>rfl|w::l,h=>by
  have h1:below n w=true:=by cases h w Yw<;>rfl
  show(below n w&&bV n l)=true;rw[h1,qY λx hx=>h x (Yp _ hx)];rfl
theorem Znj(hl:ns.length<=63){nr at0 lim:Nat}(hn:M[nr]?=Ya (.lst (names.map D.str)))(hne:0<names.length)(hlt:names.length<1000)(hop:∀x∈names,Q x)(hlim:lim<=900):
  ∃t:Sm,t.all Q/\t.flat.length<=lim+2/\oM [SC ns,.int (at0:Int),.ref nr,.int (lim:Int)] M= .ok (.tup t.flat) M:=by
 obtain⟨t,h1,h2,h3,G,x,h4⟩:=ZlK (at0:=at0) hl hn hne hlt hop hlim (lim+2) 1000000 1 [] [] Yh (by simp) (by omega) (by simp) Zxd (λw hw=>by cases hw);refine⟨t,h1,h2,?_⟩;refine(jd (M':=M++ .lst t.flat::G) (d:=.tup t.flat) (env:=[Ya (SC ns),Ya (.int (at0:Int)),Ya (.ref nr),Ya (.int (lim:Int)),Yh,Yh,Yh]) ?_).trans (Av (by show bV _ _=true;exact qY h3));unfold Uk;rw[Zk (bN (d:=.ref M.length) (M':=M++[.lst []]) (iY rfl rfl)),Zk (bN (d:=.int 1) rfl)];refine(Zk h4).trans ?_;exact h_ (je rfl (F_ (dR _ _ _)))
theorem yI(t:Sm):fD t.flat (0:Int)=Ya t.head:=by rw[t.N6];exact kZ _ 0
theorem ZrN{t p:Sm}(h:p∈t.parts):p.flat.length<t.flat.length:=by
 cases t with
 |num _=>cases h|bR _=>cases h|gD a=>rw[lO.mp h];simp[Sm.flat]|two o a b=>
  rcases Y6.mp h with h|h
  .rw[h];simp[Sm.flat];omega
  .rw[lO.mp h];simp[Sm.flat];omega
theorem ZnN{t p:Sm}(hg:t.good)(h:p∈t.parts):p.good:=by
 cases t with
 |num _=>cases h|bR _=>cases h|gD a=>rw[lO.mp h];exact hg|two o a b=>
  rcases Y6.mp h with h|h
  .rw[h];exact hg.1
  .rw[lO.mp h];exact hg.2
variable{o:E3}
theorem U3{ty:D->Store->Bool}{me:D->List D->Store->R3 D}{g:bU}{M M1 M2 M3:Store}{a:D}(h1:o env M= .ok a M1)(hi:ty a M1=true)(h2:g env M1= .ok ds M2)(h3:me a ds M2= .ok d M3):bD ty me o g env M= .ok d M3:=by simp only[bD,h1,R3.bind,hi,if_true,h2,h3]
def qZ(kvs:List (a_×D)):Prop:=∀k d,dD kvs k=Ya d->∃z,d= .int z
noncomputable def intOf(kvs:List (a_×D))(k:a_):Int:=match dD kvs k with
 |some (.int z)=>z|_=>0
variable{kvs:List (a_×D)}
theorem qZ.get(h:qZ kvs)(k:a_):(dD kvs k).getD (.int 0)= .int (intOf kvs k):=by
 unfold intOf;cases e:dD kvs k with
 |none=>rfl|some d=>obtain⟨z,rfl⟩:=h k d e;rfl
theorem U4(h:qZ kvs)(k:a_)(v:Int):qZ (putD k (.int v) kvs):=λj d hd=>by
 rw[Zp1]at hd;by_cases e:j=k
 .rw[if_pos e]at hd;exact⟨v,(gP hd).symm⟩
 .rw[if_neg e]at hd;exact h j d hd
theorem ZkG:qZ []:=λ_ _ h=>e_ h
theorem U5(k:a_)(v:D)(kvs:List (a_×D)):(putD k v kvs).length<=kvs.length+1:=by unfold putD;split <;>simp
theorem ZnS{i:xQ}{g:G3}{u:S3}{it:Ay}(h:i env M= .ok it M'):Gb i g u env M=m9 it.lk g u it.items env M':=by rw[Gb,h]
variable{S:Store}
theorem C_{o:MO}(h:M<+:S)(e:M[n]?=Ya o):S[n]?=Ya o:=by obtain⟨G,rfl⟩:=h;exact iC e G
theorem Hu{r:Nat}{o:MO}(h:M<+:S)(hr:M.length<=r):M<+:S.set r o:=by obtain⟨G,rfl⟩:=h;obtain⟨k,rfl⟩:=Nat.le.dest hr;rw[FZ];exact⟨_,rfl⟩
def LE(f:E3)(env:Zo)(M:Store)(xs:List D):Prop:=∃n S,f env M= .ok (.ref n) S/\M<+:S/\S[n]?=Ya (.lst xs)
def LF(f:E3)(env:Zo)(M:Store)(xs:List D):Prop:=∃n S,f env M= .ok (.ref n) S/\M<+:S/\S[n]?=Ya (.lst xs)/\M.length<=n
def BL(M0:Store)(u:S3)(env:Zo)(M:Store)(xs:List D):Prop:=∃n S,u env M= .rt (.ref n) S/\M0<+:S/\S[n]?=Ya (.lst xs)/\M0.length<=n
theorem LF.le(h:LF f env M xs):LE f env M xs:=let⟨n,S,a,b,c,_⟩:=h;⟨n,S,a,b,c⟩
theorem ZpF{m:Nat}{x y:List D}(h1:M[n]?=Ya (.lst x))(h2:M[m]?=Ya (.lst y))(hz:x.length+y.length<=900000):bf (.ref n) (.ref m) M= .ok (.ref M.length) (M++[.lst (x++y)]):=by rw[ZqA,h1,h2];exact if_pos (Yv hz (by decide))
theorem LE.add{g:E3}{x y:List D}(hf:LE f env M x)(hg:∀S,M<+:S->LE g env S y)(hz:x.length+y.length<=900000):LF (e2 bf f g) env M (x++y):=by obtain⟨n,S,h1,p1,g1⟩:=hf;obtain⟨m,S2,h2,p2,g2⟩:=hg S p1;exact⟨S2.length,S2++[.lst (x++y)],Zg h1 h2 (ZpF (C_ p2 g1) g2 hz),(p1.trans p2).trans (rR _ _),dR _ _ _,(p1.trans p2).length_le⟩
theorem LF.lst{g:bU}{env:Zo}{M:Store}{ds:List D}(h:g env M= .ok ds M)(hl:decide (ds.length<=100)=true):LF (cg g) env M ds:=⟨M.length,M++[.lst ds],iY h hl,rR _ _,dR _ _ _,Yl _⟩
variable{i:Nat}{M0:Store}
theorem BL.set{u:S3}{x xs:List D}(hf:LE f env M x)(hu:∀n S,M<+:S->S[n]?=Ya (.lst x)->BL M0 u (env.set i (Ya (.ref n))) S xs):BL M0 (aq (aF i f) u) env M xs:=by obtain⟨n,S,h1,p1,g1⟩:=hf;obtain⟨m,S2,h2,r⟩:=hu n S p1 g1;exact⟨m,S2,(Zk (bN h1 rfl)).trans h2,r⟩
inductive Ds where
 |nil
 |set (x:List Nat) (t:Sm) (r:Ds)
 |put (t u:Sm) (r:Ds)
 |tell (t:Sm) (r:Ds)
 |cF (t:Sm) (a b r:Ds)
 |whl (t:Sm) (a r:Ds)
noncomputable abbrev ZxM:List Nat:=[115,101,116]
noncomputable abbrev ZxC:List Nat:=[112,117,116]
noncomputable abbrev ZxG:List Nat:=[116,101,108,108]
noncomputable abbrev U6:List Nat:=[119,104,101,110]
noncomputable abbrev Zwo:List Nat:=[119,104,105,108,101]
noncomputable abbrev Dc(x:List Nat)(t:Sm):D:=.tup [.str ZxM,.str x,.tup t.flat]
noncomputable abbrev Dd(t u:Sm):D:=.tup [.str ZxC,.tup t.flat,.tup u.flat]
noncomputable abbrev Hv(t:Sm):D:=.tup [.str ZxG,.tup t.flat]
noncomputable abbrev nC(t:Sm)(a b:List D):D:=.tup [.str U6,.tup t.flat,.tup a,.tup b]
noncomputable abbrev cJ(t:Sm)(a:List D):D:=.tup [.str Zwo,.tup t.flat,.tup a]
noncomputable def Ds.enc:Ds->List D
 | .nil=>[]|.set x t r=>Dc x t::r.enc|.put t u r=>Dd t u::r.enc|.tell t r=>Hv t::r.enc
 | .cF t a b r=>nC t a.enc b.enc::r.enc|.whl t a r=>cJ t a.enc::r.enc
def Sm.ok(t:Sm):Prop:=t.good/\t.flat.length<=13
noncomputable def Ds.ok:Ds->Prop
 | .nil=>True|.set x t r=>oN x=false/\t.ok/\r.ok|.put t u r=>t.ok/\u.ok/\r.ok|.tell t r=>t.ok/\r.ok
 | .cF t a b r=>t.ok/\a.ok/\b.ok/\r.ok|.whl t a r=>t.ok/\a.ok/\r.ok
noncomputable def Ds.dep:Ds->Nat
 | .nil=>0|.set _ _ r=>r.dep|.put _ _ r=>r.dep|.tell _ r=>r.dep
 | .cF _ a b r=>gQ (gQ a.dep b.dep+1) r.dep|.whl _ a r=>gQ (a.dep+1) r.dep
noncomputable def Ds.wt:Ds->Nat
 | .nil=>0|.set _ t r=>2*t.flat.length+3+r.wt|.put t u r=>2*t.flat.length+2*u.flat.length+3+r.wt|.tell t r=>2*t.flat.length+3+r.wt
 | .cF t a b r=>2*t.flat.length+3+a.wt+b.wt+r.wt|.whl t a r=>2*t.flat.length+3+a.wt+r.wt
noncomputable def U7:List (List Nat):=[[116,97,107,101],[115,101,116],[112,117,116],[116,101,108,108],[119,104,101,110],[101,108,115,101],[119,104,105,108,101],[101,110,100],[97,100,100],[115,117,98],[109,111,114,101],[99,101,108,108]]
noncomputable abbrev oO(tk:List (List Nat))(ds:Ds):D:=.tup [.tup (tk.map D.str),.tup ds.enc]
noncomputable def gM(x:List Nat):Bool:=U7.contains x
noncomputable def rep1(w:List Nat):Bool:=(dX w.length).any λi=>(w.eraseIdx i).all λc=>c==(w.eraseIdx i).headD 0
theorem ZrB(a b p c:Nat):rep1 (Ye a p++[c]++Ye b p)=true:=by
 unfold rep1;rw[List.any_eq_true];refine⟨a,En.mpr (by simp only[Yt,lM,Yo,nW];omega),?_⟩;have e:(Ye a p++[c]++Ye b p).eraseIdx a=Ye (a+b) p:=by rw[kj,List.eraseIdx_append_of_length_le (by simp)];simp[List.replicate_append_replicate]
 rw[e,nU];intro y hy;obtain⟨h1,rfl⟩:=YZ.mp hy;obtain⟨k,hk⟩:∃k,a+b=k+1:=⟨a+b-1,by omega⟩;rw[hk,ju];simp
theorem CQ.gM{w:List Nat}(h:CQ w):gM w=false:=by
 obtain⟨⟨a,b,p,c,e⟩,hne,_⟩:=h;have h1:=ZrB a b p c;rw[←e]at h1;cases hr:Law.gM w with
 |false=>rfl|true=>
  have hm:w∈U7:=List.contains_iff_mem.mp hr;have key:∀y∈U7,y=[97,100,100]\/rep1 y=false:=by decide
  rcases key w hm with h|h
  .exact absurd h hne
  .rw[h]at h1;cases h1
theorem ZrE{x:List Nat}(h:oN x=true):gM x=true:=by rcases of_decide_eq_true h with rfl|rfl|rfl|rfl <;>decide
theorem U8{x:List Nat}(h:gM x=false):oN x=false:=by
 cases hx:oN x with
 |false=>rfl|true=>rw[ZrE hx]at h;cases h
noncomputable def Sm.nm:Sm->Prop
 | .num _=>True|.bR x=>gM x=false|.gD a=>a.nm|.two _ a b=>a.nm/\b.nm
noncomputable def Ds.nm:Ds->Prop
 | .nil=>True|.set x t r=>gM x=false/\t.nm/\r.nm|.put t u r=>t.nm/\u.nm/\r.nm|.tell t r=>t.nm/\r.nm
 | .cF t a b r=>t.nm/\a.nm/\b.nm/\r.nm|.whl t a r=>t.nm/\a.nm/\r.nm
noncomputable def j5(ns:List Int)(i:Nat):List Nat:=if h:ns.length<=63 then(Mf h i).choose else[]
theorem U9(h:ns.length<=63)(i:Nat):CQ (j5 ns i):=by unfold j5;rw[dif_pos h];exact(Mf h i).choose_spec.1
theorem U_(h:ns.length<=63)(i:Nat)(M:Store):nu [SC ns,.int (i:Int)] M= .ok (.str (j5 ns i)) M:=by unfold j5;rw[dif_pos h];exact(Mf h i).choose_spec.2.2 M
theorem Zsp(h:ns.length<=63)(i:Nat):(j5 ns i)[(dr ns 1 % 8).toNat]?=l_[(((i:Int)+dr ns 3) % 26).toNat]?:=by unfold j5;rw[dif_pos h];exact(Mf h i).choose_spec.2.1
noncomputable def yJ(d:Int):Int:=if h:0<=d then(UJ h).choose else 0
theorem Zo2{d:Int}(h:0<=d)(M:Store):oK [.int d] M= .ok (.int (yJ d)) M:=by unfold yJ;rw[dif_pos h];exact(UJ h).choose_spec M
noncomputable def v7(ns:List Int)(n:Nat):List (List Nat):=(dX n).map (j5 ns)
theorem Va(ns:List Int)(n:Nat):(v7 ns n).length=n:=by simp[v7]
theorem Zvw(n:Nat):Ar 0 n=(dX n).map λ(k:Nat)=>D.int (k:Int):=by unfold Ar;refine YW λk _=>?_;rw[zW]
theorem Zjk(h:f env M= .ok (.int (n:Int)) M)(hn:n<=1000):u9 f env M= .ok ⟨(dX n).map λ(k:Nat)=>D.int (k:Int),Yh⟩ M:=by
 have hc:(n:Int)<=1000000/\ -1000000<=(n:Int):=by omega
 simp only[u9,h,R3.bind,if_pos hc,qm,Zvw]
noncomputable def yK(d:Int):Int:=if d / 7 % 2=0 then 1 else 10^17
noncomputable def pW(ns:List Int)(n:Nat):List Int:=(dX n).map λk=>yJ (dr ns (60+k))*yK (dr ns (60+k))
theorem Zp9(ns:List Int)(n:Nat):(pW ns n).length=n:=by simp[pW]
theorem ZoY{d:Int}(hd:0<=d)(h3:∀M,Zc 3 env M= .ok (.int d) M)(M:Store):e2 eU (Zu oK (Za (Zc 3) (Ze))) (e2 Zr (cg (Za (eC (.int 1)) (Za (e2 Aj (eC (.int 10)) (eC (.int 17))) (Ze)))) (e2 aO (e2 dN (Zc 3) (eC (.int 7))) (eC (.int 2)))) env M= .ok (.int (yJ d*yK d)) (M++[.lst [.int 1,.int (10^17)]]):=by
 obtain⟨b,eb,hb⟩:=nA (d / 7) 2 (by decide);have eb:d / 7 % 2=(b:Int):=eb;have hg:[D.int 1,.int (10^17)][b]?=Ya (.int (yK d)):=by
  unfold yK;rw[eb]
  match b,hb with
  |0,_=>rfl|1,_=>rfl
 refine Zg (Aw (h3 M) (Zo2 hd M)) (Zg (iY (ds:=[.int 1,.int (10^17)]) rfl rfl) (Zg (Zg (h3 _) rfl (jE (by decide))) rfl (dF (by decide))) (jy (dR M _ []) (by rw[eb,kZ];exact hg))) ?_;rw[Ai,if_pos (mul_r (by unfold yK;split <;>decide))]
theorem Zix{α:Type}{enc h:α->D}{it:gA}{g:G3}{n:Nat}{elt:E3}{I:Zo->Prop}{J:α->MO}:∀(as:List α) (acc:List D) (env:Zo) (M G:Store),I env->M.length=n ->
  (∀a∈as,∀env,I env->∃cV,g (enc a) env=Ya cV/\I cV/\∀S,elt cV S= .ok (h a) (S++[J a]))->(∀x G,locked it (M++ .lst x::G)=true)->acc.length+as.length<=SZ ->
  ∃G',dg it g [] elt n (as.map enc) env (M++ .lst acc::G)= .ok (.ref n) (M++ .lst (acc++as.map h)::G')
 |[],acc,env,M,G,_,_,_,hl,_=>⟨G,by rw[xj,RP,if_pos (hl _ _),xj,qd]⟩|a::as,acc,env,M,G,hI,hn,hf,hl,hz=>by
  obtain⟨cV,hg,UT,he⟩:=hf a Yw env hI;have lt:acc.length<SZ:=by simp only[Yo]at hz;omega
  obtain⟨G',ih⟩:=Zix as (acc++[h a]) cV M (G++[J a]) UT hn (λb hb=>hf b (Yp _ hb)) hl (by simp only[Yt,Yo,nW]at hz ⊢;omega);refine⟨G',?_⟩;have e1:(M++ .lst acc::G)++[J a]=M++ .lst acc::(G++[J a]):=by simp
  have e2:(M++ .lst acc::(G++[J a]))[n]?=Ya (.lst acc):=by rw[←hn];exact dR _ _ _
  have e3:(M++ .lst acc::(G++[J a])).set n (.lst (acc++[h a]))=M++ .lst (acc++[h a])::(G++[J a]):=by rw[←hn];exact Ht
  rw[Y9,Kz,if_pos (hl _ _),hg];simp only[Ky,R3.jF,if_true,he,e1,e2,if_pos lt,e3];rw[ih];simp
theorem ZoC(hl:ns.length<=63){P:D}(hb:aU bM (Za (e2 Zr (Zc 1) (eC (.int 0))) (Ze)) [Ya (SC ns),Ya P,Yh] M= .ok (.int (n:Int)) M)(hn2:n<=100):Hj [SC ns,P] M= .ok (.tup ((pW ns n).map D.int)) M:=by
 have l1:lW (u9 (aU bM (Za (e2 Zr (Zc 1) (eC (.int 0))) (Ze)))) 1 (bQ 3) [] (Zu Zq (Za (Zc 0) (Za (e2 bf (eC (.int 60)) (Zc 3)) (Ze)))) [Ya (SC ns),Ya P,Yh] M= .ok (.ref M.length) (M++[.lst ((dX n).map λk=>D.int (dr ns (60+k)))]):=by
  refine UV (enc:=λk=>D.int ((k:Nat):Int)) (h:=λk=>D.int (dr ns (60+k))) (as:=dX n) (M1:=M) (lock:=Yh) (λe=>∃y z x,e=[Ya (SC ns),y,z,x]) ?_ (λ_ h=>by cases h) ⟨_,_,_,rfl⟩ ?_ (by simp;omega)
  .exact Zjk hb (by omega)
  .intro k _ env ⟨y,z,x,e⟩;subst e;exact⟨_,rfl,⟨_,_,_,rfl⟩,λx=>pU hl (k:=60+k) rfl (Zg rfl rfl rfl)⟩
 let M1:=M++[.lst ((dX n).map λk=>D.int (dr ns (60+k)))]
 have hM1:M1.length=M.length+1:=by simp[M1]
 obtain⟨G,l2⟩:=Zix (enc:=λk=>D.int (dr ns (60+k))) (h:=λk=>D.int (yJ (dr ns (60+k))*yK (dr ns (60+k)))) (J:=λ_=>.lst [.int 1,.int (10^17)]) (it:=⟨(dX n).map λk=>D.int (dr ns (60+k)),Ya M.length⟩) (g:=bQ 3) (n:=M1.length) (elt:=e2 eU (Zu oK (Za (Zc 3) (Ze))) (e2 Zr (cg (Za (eC (.int 1)) (Za (e2 Aj (eC (.int 10)) (eC (.int 17))) (Ze)))) (e2 aO (e2 dN (Zc 3) (eC (.int 7))) (eC (.int 2))))) (I:=λe=>∃y z u x,e=[y,z,u,x]) (dX n) [] ([Ya (SC ns),Ya P,Ya (.ref M.length)]++Ye 1 Yh) M1 [] ⟨_,_,_,_,rfl⟩ rfl
  (λk _ env ⟨y,z,u,x,e⟩=>by subst e;exact⟨_,rfl,⟨_,_,_,_,rfl⟩,λS=>ZoY (Uy _ _) (λ_=>rfl) S⟩)
  (λx G=>by show decide _=true;refine decide_eq_true ?_;rw[show M1++ .lst x::G=M++(.lst ((dX n).map λk=>D.int (dr ns (60+k))):: .lst x::G)by simp[M1]];exact dR _ _ _) (by simp;omega)
 have hres:([]:List D)++(dX n).map (λk=>D.int (yJ (dr ns (60+k))*yK (dr ns (60+k))))=(pW ns n).map D.int:=by simp[pW]
 rw[hres]at l2;refine(jd (M':=M1++ .lst ((pW ns n).map D.int)::G) (d:=.tup ((pW ns n).map D.int)) (env:=[Ya (SC ns),Ya P,Yh]) ?_).trans ?_
 .unfold Uq;refine(Zk (bN l1)).trans (h_ (je (a:=.ref M1.length) (M1:=M1++ .lst ((pW ns n).map D.int)::G) ?_ (F_ (dR _ _ _))));refine(Zpw (M':=M1) (it:=⟨(dX n).map λk=>D.int (dr ns (60+k)),Ya M.length⟩) ?_).trans l2;show(match M1[M.length]? with|some (.lst ds)=>R3.ok (⟨ds,Ya M.length⟩:gA) M1|_=>R3.bad)=_;rw[show M1[M.length]?=_ from dR M _ []]
 .have e:M1++ .lst ((pW ns n).map D.int)::G=M++(.lst ((dX n).map λk=>D.int (dr ns (60+k))):: .lst ((pW ns n).map D.int)::G):=by simp[M1]
  rw[e];refine Av ?_;show bV _ _=true;exact qY λw hw=>by obtain⟨i,_,rfl⟩:=zN.mp hw;exact .int i
theorem Zqu(hl:ns.length<=63)(n:Nat)(hn:n<=100)(I:Zo->Prop)(h0:I (env++Ye 1 Yh))(hI:∀e,I e->∀d,I (e.set i (Ya d))/\∀M,Zc 0 (e.set i (Ya d)) M= .ok (SC ns) M/\Zc i (e.set i (Ya d)) M= .ok d M)(M:Store):
  lW (u9 (eC (.int (n:Int)))) 1 (bQ i) [] (Zu nu (Za (Zc 0) (Za (Zc i) (Ze)))) env M= .ok (.ref M.length) (M++[.lst ((v7 ns n).map D.str)]):=by
 have h:=UV (enc:=λk=>D.int ((k:Nat):Int)) (h:=λk=>D.str (j5 ns k)) (own:=1) (i:=u9 (eC (.int (n:Int)))) (g:=bQ i) (elt:=Zu nu (Za (Zc 0) (Za (Zc i) (Ze)))) (env:=env) (M:=M) (as:=dX n) (M1:=M) (lock:=Yh) I
  (Zjk rfl (by omega)) (λ_ h=>by cases h) h0
  (λk _ e he=>⟨_,rfl,(hI e he _).1,λx=>qJ ((hI e he _).2 _).1 ((hI e he _).2 _).2 (U_ hl k _)⟩) (by simp;omega)
 rw[h];simp[v7]
noncomputable def Ds.app:Ds->Ds->Ds
 | .nil,s=>s|.set x t r,s=>.set x t (r.app s)|.put t u r,s=>.put t u (r.app s)|.tell t r,s=>.tell t (r.app s)
 | .cF t a b r,s=>.cF t a b (r.app s)|.whl t a r,s=>.whl t a (r.app s)
theorem yL:∀(d s:Ds),(d.app s).enc=d.enc++s.enc
 | .nil,_=>rfl|.set x t r,s=>by simp only[Ds.app,Ds.enc,yL r s,pB]|.put t u r,s=>by simp only[Ds.app,Ds.enc,yL r s,pB]|.tell t r,s=>by simp only[Ds.app,Ds.enc,yL r s,pB]
 | .cF t a b r,s=>by simp only[Ds.app,Ds.enc,yL r s,pB]|.whl t a r,s=>by simp only[Ds.app,Ds.enc,yL r s,pB]
structure fX(d:Ds)(n:Nat):Prop where
 ok:d.ok
 nm:d.nm
 dep:d.dep<=n
theorem Df:∀{d s:Ds},d.ok->s.ok->(d.app s).ok
 | .nil,_,_,h=>h|.set _ _ _,_,h,k=>⟨h.1,h.2.1,Df h.2.2 k⟩|.put _ _ _,_,h,k=>⟨h.1,h.2.1,Df h.2.2 k⟩|.tell _ _,_,h,k=>⟨h.1,Df h.2 k⟩
 | .cF _ _ _ _,_,h,k=>⟨h.1,h.2.1,h.2.2.1,Df h.2.2.2 k⟩|.whl _ _ _,_,h,k=>⟨h.1,h.2.1,Df h.2.2 k⟩
theorem Dg:∀{d s:Ds},d.nm->s.nm->(d.app s).nm
 | .nil,_,_,h=>h|.set _ _ _,_,h,k=>⟨h.1,h.2.1,Dg h.2.2 k⟩|.put _ _ _,_,h,k=>⟨h.1,h.2.1,Dg h.2.2 k⟩|.tell _ _,_,h,k=>⟨h.1,Dg h.2 k⟩
 | .cF _ _ _ _,_,h,k=>⟨h.1,h.2.1,h.2.2.1,Dg h.2.2.2 k⟩|.whl _ _ _,_,h,k=>⟨h.1,h.2.1,Dg h.2.2 k⟩
theorem Dh:∀(d s:Ds),(d.app s).dep=gQ d.dep s.dep
 | .nil,_=>by simp[Ds.app,Ds.dep]|.set _ _ r,s=>by simp only[Ds.app,Ds.dep,Dh r s]|.put _ _ r,s=>by simp only[Ds.app,Ds.dep,Dh r s]|.tell _ r,s=>by simp only[Ds.app,Ds.dep,Dh r s]
 | .cF _ a b r,s=>by simp only[Ds.app,Ds.dep,Dh r s];omega|.whl _ a r,s=>by simp only[Ds.app,Ds.dep,Dh r s];omega
theorem v8:∀(d s:Ds),(d.app s).wt=d.wt+s.wt
 | .nil,_=>by simp[Ds.app,Ds.wt]|.set _ _ r,s=>by simp only[Ds.app,Ds.wt,v8 r s];omega|.put _ _ r,s=>by simp only[Ds.app,Ds.wt,v8 r s];omega|.tell _ r,s=>by simp only[Ds.app,Ds.wt,v8 r s];omega
 | .cF _ a b r,s=>by simp only[Ds.app,Ds.wt,v8 r s];omega|.whl _ a r,s=>by simp only[Ds.app,Ds.wt,v8 r s];omega
theorem fX.app{d s:Ds}(h:fX d n)(k:fX s n):fX (d.app s) n:=⟨Df h.ok k.ok,Dg h.nm k.nm,by rw[Dh];have:=h.dep;have:=k.dep;omega⟩
theorem fX.nil(n:Nat):fX .nil n:=⟨trivial,trivial,eG _⟩
theorem fX.mono{d:Ds}{m:Nat}(h:fX d n)(a:n<=m):fX d m:=⟨h.ok,h.nm,Yv h.dep a⟩
inductive aQ where
 |whl (t:Sm) (l:Ds)
 |cF (t:Sm)
 |jq (t:Sm) (a:Ds)
noncomputable def aQ.enc:aQ->D
 | .whl t l=>.tup [.str Zwo,.tup t.flat,.tup l.enc]|.cF t=>.tup [.str U6,.tup t.flat,.non]|.jq t a=>.tup [.str U6,.tup t.flat,.tup a.enc]
def Sm.fine(t:Sm):Prop:=t.ok/\t.nm
noncomputable def aQ.fine(n:Nat):aQ->Prop
 | .whl t l=>t.fine/\fX l 0|.cF t=>t.fine|.jq t a=>t.fine/\fX a n
noncomputable def aQ.wt:aQ->Nat
 | .whl t l=>2*t.flat.length+3+l.wt|.cF t=>2*t.flat.length+3|.jq t a=>2*t.flat.length+3+a.wt
noncomputable def fY:Ds->List (aQ×Ds)->Prop
 |cur,[]=>fX cur 3|cur,(o,d)::r=>fX cur (2-r.length)/\r.length<3/\o.fine (2-r.length)/\fY d r
noncomputable def dH:Ds->List (aQ×Ds)->Nat
 |cur,[]=>cur.wt|cur,(o,d)::r=>cur.wt+o.wt+dH d r
theorem Ml(cur s:Ds)(r:List (aQ×Ds)):dH (cur.app s) r=dH cur r+s.wt:=by
 cases r with
 |nil=>exact v8 cur s|cons p r=>obtain⟨o,d⟩:=p;simp only[dH,v8];omega
theorem ZrO(cur:Ds)(o:aQ)(r:List (aQ×Ds)):dH .nil ((o,cur)::r)=dH cur r+o.wt:=by simp only[dH,Ds.wt];omega
theorem fY.cur{cur:Ds}{r:List (aQ×Ds)}(h:fY cur r):fX cur (3-r.length):=by
 cases r with
 |nil=>exact h|cons p r=>exact h.1.mono (by rw[Yo];omega)
theorem fY.len{cur:Ds}{r:List (aQ×Ds)}(h:fY cur r):r.length<=3:=by
 cases r with
 |nil=>exact eG _|cons p r=>have:=h.2.1;rw[Yo];omega
theorem fY.put{cur cur':Ds}{r:List (aQ×Ds)}(h:fY cur r)(hc:fX cur' (3-r.length)):fY cur' r:=by
 cases r with
 |nil=>exact hc|cons p r=>exact⟨hc.mono (by rw[Yo];omega),h.2.1,h.2.2.1,h.2.2.2⟩
theorem fY.push{cur:Ds}{r:List (aQ×Ds)}{o:aQ}(h:fY cur r)(hl:r.length<3)(ho:o.fine (2-r.length)):fY .nil ((o,cur)::r):=⟨fX.nil _,hl,ho,h⟩
theorem fY.whl{cur d l:Ds}{t:Sm}{r:List (aQ×Ds)}(h:fY cur ((.whl t l,d)::r)):fY (d.app (.whl t (cur.app l) .nil)) r:=by obtain⟨h1,h2,h3,h4⟩:=h;have ha:=h1.app (h3.2.mono (eG _));have hd:=ha.dep;exact h4.put (h4.cur.app (s:=.whl t (cur.app l) .nil) ⟨⟨h3.1.1,ha.ok,trivial⟩,⟨h3.1.2,ha.nm,trivial⟩,by simp only[Ds.dep];omega⟩)
theorem fY.jq{cur d a:Ds}{t:Sm}{r:List (aQ×Ds)}(h:fY cur ((.jq t a,d)::r)):fY (d.app (.cF t a cur .nil)) r:=by obtain⟨h1,h2,h3,h4⟩:=h;have hd:=h1.dep;have hd2:=h3.2.dep;exact h4.put (h4.cur.app (s:=.cF t a cur .nil) ⟨⟨h3.1.1,h3.2.ok,h1.ok,trivial⟩,⟨h3.1.2,h3.2.nm,h1.nm,trivial⟩,by simp only[Ds.dep];omega⟩)
theorem fY.cF{cur d:Ds}{t:Sm}{r:List (aQ×Ds)}(h:fY cur ((.cF t,d)::r)):fY .nil ((.jq t cur,d)::r):=⟨fX.nil _,h.2.1,⟨h.2.2.1,h.1⟩,h.2.2.2⟩
theorem Zuv(cur d l:Ds)(t:Sm)(r:List (aQ×Ds)):dH (d.app (.whl t (cur.app l) .nil)) r=dH cur ((.whl t l,d)::r):=by rw[Ml];simp only[dH,Ds.wt,aQ.wt,v8];omega
theorem Zue(cur d a:Ds)(t:Sm)(r:List (aQ×Ds)):dH (d.app (.cF t a cur .nil)) r=dH cur ((.jq t a,d)::r):=by rw[Ml];simp only[dH,Ds.wt,aQ.wt];omega
theorem Zuz(cur d:Ds)(t:Sm)(r:List (aQ×Ds)):dH .nil ((.jq t cur,d)::r)=dH cur ((.cF t,d)::r):=by simp only[dH,Ds.wt,aQ.wt];omega
theorem Mm(cur:Ds)(r:List (aQ×Ds)):cur.wt<=dH cur r:=by
 cases r with
 |nil=>exact Yl _|cons p r=>obtain⟨o,d⟩:=p;simp only[dH];omega
noncomputable def cU(r:List (aQ×Ds)):List D:=(r.map λq=>q.1.enc).reverse
noncomputable def dW(c:Nat)(rs:List Nat):List D:=(rs.reverse++[c]).map D.ref
theorem Zi3(x:aQ)(d:Ds)(r:List (aQ×Ds)):cU ((x,d)::r)=cU r++[x.enc]:=by simp[cU]
theorem Mp(c' c:Nat)(rs:List Nat):dW c' (c::rs)=dW c rs++[D.ref c']:=by simp[dW]
structure fG(M0:Store)(f o c:Nat)(rs:List Nat)(cur:Ds)(r:List (aQ×Ds))(M:Store):Prop where
 p:M0<+:M
 hf:M[f]?=Ya (MO.lst (dW c rs))
 ho:M[o]?=Ya (MO.lst (cU r))
 hc:M[c]?=Ya (.lst cur.enc)
 hr:∀(i:Nat) a q,rs[i]?=Ya a->r[i]?=Ya q->M[a]?=Ya (.lst q.2.enc)
 len:rs.length=r.length
 nd:(c::rs).Nodup
 fn:f∉c::rs
 on:o∉c::rs
 fo:f≠o
 lf:M0.length<=f
 lo:M0.length<=o
 lc:∀a∈c::rs,M0.length<=a
section
variable {M0:Store} {f o c:Nat} {rs:List Nat} {cur:Ds} {r:List (aQ×Ds)} {M:Store}
theorem fG.keep(h:fG M0 f o c rs cur r M)(p:M0<+:S)(k:∀a,a=f\/a=o\/a∈c::rs->S[a]?=M[a]?):fG M0 f o c rs cur r S:=⟨p,(k f (.inl rfl)).trans h.hf,(k o (.inr (.inl rfl))).trans h.ho,(k c (.inr (.inr Yw))).trans h.hc,λi a q h1 h2=>(k a (.inr (.inr (Yp _ (rQ h1))))).trans (h.hr i a q h1 h2),h.len,h.nd,h.fn,h.on,h.fo,h.lf,h.lo,h.lc⟩
theorem fG.lt(h:fG M0 f o c rs cur r M):∀a,a=f\/a=o\/a∈c::rs->a<M.length:=λa ha=>by
 rcases ha with e|e|e
 .rw[e];exact(Yf.mp h.hf).1
 .rw[e];exact(Yf.mp h.ho).1
 .rcases Y6.mp e with e|e
  .rw[e];exact(Yf.mp h.hc).1
  .obtain⟨i,hi⟩:=Py e;have hil:i<r.length:=by rw[←h.len];exact(Yf.mp hi).1
   exact(Yf.mp (h.hr i a r[i] hi (Y3 hil))).1
theorem fG.ext(h:fG M0 f o c rs cur r M)(p:M<+:S):fG M0 f o c rs cur r S:=h.keep (h.p.trans p) λa ha=>by obtain⟨G,rfl⟩:=p;exact Yx (h.lt a ha)
theorem fG.put(h:fG M0 f o c rs cur r M)(s:Ds):fG M0 f o c rs (cur.app s) r (M.set c (.lst (cur.enc++s.enc))):=by have hcl:=(Yf.mp h.hc).1;have hcf:c≠f:=λe=>h.fn (by rw[e];exact Yw);have hco:c≠o:=λe=>h.on (by rw[e];exact Yw);refine⟨Hu h.p (h.lc c Yw),by rw[Yj hcf];exact h.hf,by rw[Yj hco];exact h.ho,by rw[Y2 hcl,yL],λi a q h1 h2=>?_,h.len,h.nd,h.fn,h.on,h.fo,h.lf,h.lo,h.lc⟩;have hne:c≠a:=λe=>(qe.mp h.nd).1 (by rw[e];exact rQ h1);rw[Yj hne];exact h.hr i a q h1 h2
theorem fG.push(h:fG M0 f o c rs cur r M)(x:aQ):fG M0 f o M.length (c::rs) .nil ((x,cur)::r) (((M.set o (MO.lst (cU r++[x.enc])))++[MO.lst []]).set f (MO.lst (dW c rs++[D.ref M.length]))):=by
 have hol:=(Yf.mp h.ho).1;have hfl:=(Yf.mp h.hf).1;have hlt:=h.lt;have Mq:(M.set o (MO.lst (cU r++[x.enc]))).length=M.length:=rW ..;have get:∀a,a≠f->a≠o->a<M.length->(((M.set o (MO.lst (cU r++[x.enc])))++[MO.lst []]).set f (MO.lst (dW c rs++[D.ref M.length])))[a]?=M[a]?:=λa h1 h2 h3=>by rw[Yj (bW h1),Yx (by rw[Mq];exact h3),Yj (bW h2)]
 have nf:∀a∈c::rs,a≠f:=λa ha e=>h.fn (e▸ha);have no:∀a∈c::rs,a≠o:=λa ha e=>h.on (e▸ha);refine⟨Hu ((Hu h.p h.lo).trans (rR _ _)) h.lf,?_,?_,?_,λi a q h1 h2=>?_,?_,?_,?_,?_,h.fo,h.lf,h.lo,?_⟩
 .rw[Y2 (by rw[Yt,Mq];omega),Mp]
 .rw[Yj h.fo,Yx (by rw[Mq];exact hol),Y2 hol,Zi3]
 .rw[Yj (by omega)];have:=dR (M.set o (MO.lst (cU r++[x.enc]))) (MO.lst []) [];rw[Mq]at this;exact this
 .cases i with
  |zero=>have e1:c=a:=gP h1;have e2:(x,cur)=q:=gP h2;rw[←e1,←e2,get c (nf c Yw) (no c Yw) (hlt c (.inr (.inr Yw)))];exact h.hc|succ i=>have ha:a∈c::rs:=Yp _ (rQ (show rs[i]?=Ya a from h1));rw[get a (nf a ha) (no a ha) (hlt a (.inr (.inr ha)))];exact h.hr i a q h1 h2
 .rw[Yo,Yo,h.len]
 .rw[qe];exact⟨λhm=>absurd (hlt _ (.inr (.inr hm))) (rZ _),h.nd⟩
 .intro hm;rcases Y6.mp hm with e|e
  .omega
  .exact h.fn e
 .intro hm;rcases Y6.mp hm with e|e
  .omega
  .exact h.on e
 .intro a ha;rcases Y6.mp ha with e|e
  .rw[e];exact h.p.length_le
  .exact h.lc a e
theorem fG.pop{x:aQ}{d:Ds}{c':Nat}(h:fG M0 f o c (c'::rs) cur ((x,d)::r) M):fG M0 f o c' rs d r ((M.set f (MO.lst (dW c' rs))).set o (MO.lst (cU r))):=by
 have hol:=(Yf.mp h.ho).1;have hfl:=(Yf.mp h.hf).1;have get:∀a,a≠f->a≠o->((M.set f (MO.lst (dW c' rs))).set o (MO.lst (cU r)))[a]?=M[a]?:=λa h1 h2=>by rw[Yj (bW h2),Yj (bW h1)]
 have nf:∀a∈c'::rs,a≠f:=λa ha e=>h.fn (e▸Yp _ ha);have no:∀a∈c'::rs,a≠o:=λa ha e=>h.on (e▸Yp _ ha);refine⟨Hu (Hu h.p h.lf) h.lo,?_,?_,?_,λi a q h1 h2=>?_,E_ h.len,(qe.mp h.nd).2,λhm=>h.fn (Yp _ hm),λhm=>h.on (Yp _ hm),h.fo,h.lf,h.lo,λa ha=>h.lc a (Yp _ ha)⟩
 .rw[Yj (bW h.fo),Y2 hfl]
 .rw[Y2 (by rw[rW];exact hol)]
 .rw[get c' (nf c' Yw) (no c' Yw)];exact h.hr 0 c' (x,d) rfl rfl
 .have ha:a∈c'::rs:=Yp _ (rQ h1);rw[get a (nf a ha) (no a ha)];exact h.hr (i+1) a q h1 h2
end
theorem Mr(c:Nat)(rs:List Nat):dW c rs=rs.reverse.map D.ref++[D.ref c]:=by simp[dW]
theorem ZkK{f:Nat}{l l':List D}(hM:M[f]?=Ya (.lst (l++[.ref c])))(hc:c<M.length)(hS:S[f]?=Ya (.lst (l'++[.ref n])))(hn:M.length<=n):tidy M d S= .ok d S:=by
 have hf:=(Yf.mp hM).1;have ht:(S.take M.length)[f]?=Ya (.lst (l'++[.ref n])):=by rw[zH hf];exact hS
 have h1:S.take M.length≠M:=λe=>by
  rw[e,hM]at ht;have e1:l++[D.ref c]=l'++[.ref n]:=by injection ht with ht;injection ht
  have e2:=congrArg List.getLast? e1;simp at e2;omega
 have h2:(S.take M.length).all (tu M.length)=false:=by
  rw[List.all_eq_false];refine⟨_,rQ ht,?_⟩;show¬bV M.length (l'++[.ref n])=true;have:∀l:List D,bV M.length (l++[.ref n])=false:=by
   intro l
   induction l with
   |nil=>show(decide (n<M.length)&&true)=false;rw[decide_eq_false (by omega)];rfl|cons a l ih=>show(below M.length a&&bV M.length (l++[.ref n]))=false;rw[ih,Jm]
  rw[this];exact uK
 unfold tidy;rw[decide_eq_false h1,h2,Qe,Jm];rfl
theorem ZkM(hv:Zc i env M= .ok (.ref n) M)(h:M[n]?=Ya (.lst (xs++[d]))):bD bI sX (Zc i) (Ze) env M= .ok d (M.set n (.lst xs)):=by
 refine U3 hv (by rw[Ao,h]) rfl ?_;rw[RL,h];have e1:(xs++[d])[(xs++[d]).length-1]?=Ya d:=by simp
 simp only[e1,List.dropLast_concat]
noncomputable def aQ.mu:aQ->Nat
 | .whl _ _=>1|.cF _=>2|.jq _ _=>1
noncomputable def v9(r:List (aQ×Ds)):Nat:=(r.map λq=>q.1.mu).sum
theorem Di(x:aQ)(d:Ds)(r:List (aQ×Ds)):v9 ((x,d)::r)=x.mu+v9 r:=by simp[v9]
inductive ZtB(M0:Store)(f o:Nat)(w m:Nat)(S:Store):Prop
 |mk (c:Nat) (rs:List Nat) (cur:Ds) (r:List (aQ×Ds)) (h:fG M0 f o c rs cur r S) (g:fY cur r) (hw:dH cur r=w) (hm:v9 r<m)
theorem q_:∀d:Ds,d.enc.length<=d.wt
 | .nil=>Yl _|.set _ _ r=>by have:=q_ r;simp only[Ds.enc,Ds.wt,Yo];omega|.put _ _ r=>by have:=q_ r;simp only[Ds.enc,Ds.wt,Yo];omega|.tell _ r=>by have:=q_ r;simp only[Ds.enc,Ds.wt,Yo];omega
 | .cF _ _ _ r=>by have:=q_ r;simp only[Ds.enc,Ds.wt,Yo];omega|.whl _ _ r=>by have:=q_ r;simp only[Ds.enc,Ds.wt,Yo];omega
theorem Zjg{f o c':Nat}{rs:List Nat}{cur d:Ds}{x:aQ}{r:List (aQ×Ds)}(h:fG M0 f o c (c'::rs) cur ((x,d)::r) M)(g:fY cur ((x,d)::r))(hw:dH cur ((x,d)::r)<=100000):
  ∃S,vZ [.ref f,.ref o] M= .ok .non S/\ZtB M0 f o (dH cur ((x,d)::r)) (v9 ((x,d)::r)) S:=by
 have hf:M[f]?=Ya (.lst (dW c' rs++[.ref c])):=by rw[←Mp];exact h.hf
 have ho:M[o]?=Ya (.lst (cU r++[x.enc])):=by rw[←Zi3 x d r];exact h.ho
 have hfl:=(Yf.mp hf).1;have ho1:(M.set f (.lst (dW c' rs)))[o]?=Ya (.lst (cU r++[x.enc])):=by rw[Yj h.fo];exact ho
 have hcf:c≠f:=λe=>h.fn (by rw[e];exact Yw);have hc1:(M.set f (.lst (dW c' rs)))[c]?=Ya (.lst cur.enc):=by rw[Yj (bW hcf)];exact h.hc
 have h1:=h.pop;have hlen:=g.len;rw[Yo]at hlen;have hcw:=Mm cur ((x,d)::r);have hel:=q_ cur;have hdw:=Mm d r;have hsw:dH cur ((x,d)::r)=cur.wt+x.wt+dH d r:=rfl;have hel2:=q_ d
 let M1:=(M.set f (.lst (dW c' rs))).set o (.lst (cU r))
 have WK:M1.length=M.length:=by simp[M1]
 have s1:aF 2 (aU kW (Za (bD bI sX (Zc 0) (Ze)) (Ze))) [Ya (.ref f),Ya (.ref o),Yh,Yh] M= .nx [Ya (.ref f),Ya (.ref o),Ya (.tup cur.enc),Yh] (M.set f (.lst (dW c' rs))):=bN (je (ZkM rfl hf) (F_ hc1));have s2:aF 3 (bD bI sX (Zc 1) (Ze)) [Ya (.ref f),Ya (.ref o),Ya (.tup cur.enc),Yh] (M.set f (.lst (dW c' rs)))= .nx [Ya (.ref f),Ya (.ref o),Ya (.tup cur.enc),Ya x.enc] M1:=bN (ZkM rfl ho1);have AcT:fD (dW c' rs) (-1)=Ya (.ref c'):=by rw[Mr];exact getD_last _ _
 have idx:∀y z:Option D,e2 Zr (Zc 0) (e1 jk (eC (.int 1))) [Ya (.ref f),Ya (.ref o),y,z] M1= .ok (.ref c') M1:=λy z=>Zg rfl (dU rfl (Kh 1)) (jy h1.hf AcT);have hd:d.enc.length<SZ:=lQ (show d.enc.length<200000 by omega) (by decide);unfold vZ Ul;cases x with
 | whl t l=>
  have hll:=q_ l;have hxw:(aQ.whl t l).wt=2*t.flat.length+3+l.wt:=rfl;refine⟨_,(vf (M':=M1.set c' (.lst (d.enc++[cJ t (cur.enc++l.enc)]))) (env:=[Ya (.ref f),Ya (.ref o),Yh,Yh]) ((Zk s1).trans ((Zk s2).trans ((d9 (Zg rfl rfl (Hr rfl))).trans (yH (idx _ _) h1.hc (gk (Zm rfl (Zm rfl (Zm (Zg rfl rfl ?_) rfl))) rfl) h1.hc hd))))).trans (Hq (by simp[M1])),c',rs,d.app (.whl t (cur.app l) .nil),r,?_,g.whl,Zuv cur d l t r,by rw[Di];simp only[aQ.mu];omega⟩
  .rw[Kg];exact if_pos (show cur.enc.length+l.enc.length<=1000000 by omega)
  .have:=h1.put (.whl t (cur.app l) .nil);have e:(Ds.whl t (cur.app l) .nil).enc=[cJ t (cur.enc++l.enc)]:=by simp only[Ds.enc,yL]
   rw[e]at this;exact this
 |jq t a=>refine⟨_,(vf (M':=M1.set c' (.lst (d.enc++[nC t a.enc cur.enc]))) (env:=[Ya (.ref f),Ya (.ref o),Yh,Yh]) ((Zk s1).trans ((Zk s2).trans ((dh (Zg rfl rfl (yG (by decide)))).trans ((dh (Zg rfl rfl (by rw[Znd];rfl))).trans (yH (idx _ _) h1.hc (gk (Zm rfl (Zm rfl (Zm rfl (Zm rfl rfl)))) rfl) h1.hc hd)))))).trans (Hq (by simp[M1])),c',rs,d.app (.cF t a cur .nil),r,?_,g.jq,Zue cur d a t r,by rw[Di];simp only[aQ.mu];omega⟩;exact h1.put (.cF t a cur .nil)|cF t=>
  have h2:=h1.push (.jq t cur);have hol:(cU r).length<SZ:=by
   have:(cU r).length=r.length:=by simp[cU]
   rw[this];exact lQ (show r.length<100 by omega) (by decide)
  have Od:(dW c' rs).length<SZ:=by
   have:(dW c' rs).length=rs.length+1:=by simp[dW]
   rw[this,h1.len];exact lQ (show r.length+1<100 by omega) (by decide)
  have hf2:(M1.set o (MO.lst (cU r++[(aQ.jq t cur).enc])))[f]?=Ya (.lst (dW c' rs)):=by rw[Yj (bW h.fo)];exact h1.hf
  have s3:Zw (bD bI cj (Zc 1) (Za (bF (Za (e2 Zr (Zc 3) (eC (.int 0))) (Za (e2 Zr (Zc 3) (eC (.int 1))) (Za (Zc 2) (Ze))))) (Ze))) [Ya (.ref f),Ya (.ref o),Ya (.tup cur.enc),Ya (aQ.cF t).enc] M1= .nx [Ya (.ref f),Ya (.ref o),Ya (.tup cur.enc),Ya (aQ.cF t).enc] (M1.set o (MO.lst (cU r++[(aQ.jq t cur).enc]))):=qW rfl h1.ho (gk (Zm rfl (Zm rfl (Zm rfl rfl))) rfl) h1.ho hol;have s4:Zw (bD bI cj (Zc 0) (Za (cg (Ze)) (Ze))) [Ya (.ref f),Ya (.ref o),Ya (.tup cur.enc),Ya (aQ.cF t).enc] (M1.set o (MO.lst (cU r++[(aQ.jq t cur).enc])))= .nx [Ya (.ref f),Ya (.ref o),Ya (.tup cur.enc),Ya (aQ.cF t).enc] (((M1.set o (MO.lst (cU r++[(aQ.jq t cur).enc])))++[MO.lst []]).set f (MO.lst (dW c' rs++[.ref M1.length]))):=by have hn:(M1.set o (MO.lst (cU r++[(aQ.jq t cur).enc]))).length=M1.length:=rW ..;rw[←hn];exact qW rfl hf2 (iY rfl rfl) (iC hf2 _) Od
  refine⟨_,(vf (env:=[Ya (.ref f),Ya (.ref o),Yh,Yh]) ((Zk s1).trans ((Zk s2).trans ((dh (Zg rfl rfl (yG (by decide)))).trans ((d9 (Zg rfl rfl (by rw[Znd];rfl))).trans ((Zk s3).trans s4)))))).trans (ZkK hf ?_ (l':=dW c' rs) (n:=M1.length) ?_ ?_),M1.length,c'::rs,.nil,(.jq t cur,d)::r,h2,g.cF,Zuz cur d t r,by rw[Di,Di];simp only[aQ.mu];omega⟩
  .exact h.lt c (.inr (.inr Yw))
  .have:=h2.hf;rw[Mp]at this;exact this
  .exact su WK.symm
theorem Sm.Il:∀t:Sm,t.all (λx=>gM x=false)->t.nm
 | .num _,_=>trivial|.bR _,h=>h|.gD a,h=>a.Il h|.two _ a b,h=>⟨a.Il h.1,b.Il h.2⟩
theorem Sm.t_{t:Sm}(h:t.all (λx=>gM x=false))(hl:t.flat.length<=13):t.fine:=⟨⟨t.Ii (t.Ih (λ_=>U8) h),hl⟩,t.Il h⟩
inductive Dj(M0:Store)(f o:Nat)(w n:Nat)(S:Store):Prop
 |mk (c:Nat) (rs:List Nat) (cur:Ds) (r:List (aQ×Ds)) (h:fG M0 f o c rs cur r S) (g:fY cur r) (hw:dH cur r<=w) (hm:r.length<=n)
section
variable {ns:List Int} {M0:Store} {f o c nr:Nat} {rs:List Nat} {cur:Ds} {r:List (aQ×Ds)} {M:Store} {names:List (List Nat)}
theorem ZmK{x:aQ}(h:fG M0 f o c rs cur r M)(hl:r.length<3)(h2:∀S,Zc 2 env S= .ok (.ref f) S):
  Zw (bD bI cj (Zc 2) (Za (cg (Ze)) (Ze))) env (M.set o (MO.lst (cU r++[x.enc])))= .nx env (((M.set o (MO.lst (cU r++[x.enc])))++[MO.lst []]).set f (MO.lst (dW c rs++[.ref M.length]))):=by
 have hn:(M.set o (MO.lst (cU r++[x.enc]))).length=M.length:=rW ..;have hf2:(M.set o (MO.lst (cU r++[x.enc])))[f]?=Ya (.lst (dW c rs)):=by rw[Yj (bW h.fo)];exact h.hf
 have Od:(dW c rs).length<SZ:=by
  have:(dW c rs).length=rs.length+1:=by simp[dW]
  rw[this,h.len];exact lQ (show r.length+1<100 by omega) (by decide)
 rw[←hn];exact qW (h2 _) hf2 (iY rfl rfl) (iC hf2 _) Od
theorem Zof(hl:ns.length<=63)(k:Nat)(h:fG M0 f o c rs cur r M)(g:fY cur r)(hr:r.length<3)(hw:dH cur r<=100000)(hn:M0[nr]?=Ya (.lst (names.map D.str)))(hne:0<names.length)(hlt:names.length<1000)(hop:∀x∈names,gM x=false):
  ∃S,BJ [SC ns,.int (k:Int),.ref f,.ref o,.ref nr] M= .ok .non S/\Dj M0 f o (dH cur r+60) (r.length+1) S:=by
 let dd:=dr ns (100+k)
 have hf0:M[f]?=Ya (.lst (rs.reverse.map D.ref++[.ref c])):=by rw[←Mr];exact h.hf
 have hcM:c<M.length:=h.lt c (.inr (.inr Yw));have WL:(cU r).length<SZ:=by
  have:(cU r).length=r.length:=by simp[cU]
  rw[this];exact lQ (show r.length<100 by omega) (by decide)
 have hcw:=Mm cur r;have hel:=q_ cur;have fin:∀{env env':Zo} {x:aQ} {cur':Ds} {S:Store} (h':fG M0 f o c rs cur' r S) (g':fY cur' r) (hx:x.fine (2-r.length)) (hw':dH cur' r+x.wt<=dH cur r+60) (hSM:M.length<=S.length) (e:Hh env M= .nx env' (((S.set o (MO.lst (cU r++[x.enc])))++[MO.lst []]).set f (MO.lst (dW c rs++[.ref S.length])))) (he:[Ya (SC ns),Ya (.int (k:Int)),Ya (.ref f),Ya (.ref o),Ya (.ref nr),Yh,Yh,Yh,Yh]=env),∃S',BJ [SC ns,.int (k:Int),.ref f,.ref o,.ref nr] M= .ok .non S'/\Dj M0 f o (dH cur r+60) (r.length+1) S':=λ{env env' x cur' S} h' g' hx hw' hSM e he=>by have h2:=h'.push x;refine⟨_,(vf (ps:=5) (n:=9) (ds:=[SC ns,.int (k:Int),.ref f,.ref o,.ref nr]) e rfl he).trans (ZkK hf0 hcM (l':=dW c rs) (n:=S.length) ?_ hSM),S.length,c::rs,.nil,(x,cur')::r,h2,g'.push hr hx,by rw[ZrO];exact hw',Yl _⟩;have:=h2.hf;rw[Mp]at this;exact this
 have Ws:aF 5 (Zu Zq (Za (Zc 0) (Za (e2 bf (eC (.int 100)) (Zc 1)) (Ze)))) [Ya (SC ns),Ya (.int (k:Int)),Ya (.ref f),Ya (.ref o),Ya (.ref nr),Yh,Yh,Yh,Yh] M= .nx [Ya (SC ns),Ya (.int (k:Int)),Ya (.ref f),Ya (.ref o),Ya (.ref nr),Ya (.int dd),Yh,Yh,Yh] M:=bN (pU hl (k:=100+k) rfl (Zg rfl rfl rfl));by_cases h1:dd % 2=1
 .--a round
  let nm:=j5 ns (10+r.length)
  have hnm:gM nm=false:=(U9 hl _).gM;have WM:oN nm=false:=U8 hnm;obtain⟨q4,eq4,hq4⟩:=nA (dd / 2) 4 (by decide);obtain⟨q8,Ms,hq8⟩:=nA (dd / 8) 8 (by decide);have Ms:dd / 8 % 8=(q8:Int):=Ms
  let s1:Ds:=.set nm (.num (dd / 2 % 4)) .nil
  have hp:=h.put s1
  let M1:=M.set c (.lst (cur.enc++s1.enc))
  have WK:M1.length=M.length:=rW ..
  let za:List D:=[.tup [.str nm],.tup [.str [109,111,114,101],.str nm,.int 0],.tup [.str [97,100,100],.str nm,.int 0],.tup [.str [115,117,98],.str nm,.int 0],.tup [.int (1-dd / 64 % 3)]]
  let M2:=M1++[MO.lst za]
  have hp2:=hp.ext (rR M1 [MO.lst za])
  let Dt:List D:=[.tup [Dc nm (.two 1 (.bR nm) (.num 1))],.tup []]
  let M3:=M2++[MO.lst Dt]
  have hp3:=hp2.ext (rR M2 [MO.lst Dt])
  let less:Ds:=if q8=7 then .nil else .set nm (.two 1 (.bR nm) (.num 1)) .nil
  let cond:Sm:=match q8 % 5 with
   |0=>.bR nm|1=>.two 2 (.bR nm) (.num 0)|2=>.two 0 (.bR nm) (.num 0)|3=>.two 1 (.bR nm) (.num 0)
   |_=>.num (1-dd / 64 % 3)
  have h5:q8 % 5<5:=Nat.mod_lt _ (by decide);have hcond:za[q8 % 5]?=Ya (.tup cond.flat):=by
   show za[q8 % 5]?=Ya (.tup (Sm.flat (match q8 % 5 with|0=>.bR nm|1=>.two 2 (.bR nm) (.num 0)|2=>.two 0 (.bR nm) (.num 0)|3=>.two 1 (.bR nm) (.num 0)|_=>.num (1-dd / 64 % 3))))
   match q8 % 5,h5 with
   |0,_=>rfl|1,_=>rfl|2,_=>rfl|3,_=>rfl
   |4,_=>rfl
  have hcf:cond.fine/\cond.flat.length<=3:=by
   show Sm.fine (match q8 % 5 with|0=>.bR nm|1=>.two 2 (.bR nm) (.num 0)|2=>.two 0 (.bR nm) (.num 0)|3=>.two 1 (.bR nm) (.num 0)|_=>.num (1-dd / 64 % 3))/\(Sm.flat (match q8 % 5 with|0=>.bR nm|1=>.two 2 (.bR nm) (.num 0)|2=>.two 0 (.bR nm) (.num 0)|3=>.two 1 (.bR nm) (.num 0)|_=>.num (1-dd / 64 % 3))).length<=3
   match q8 % 5,h5 with
   |0,_=>exact⟨Sm.t_ hnm (by simp[Sm.flat]),by simp[Sm.flat]⟩|1,_=>exact⟨Sm.t_ ⟨hnm,trivial⟩ (by simp[Sm.flat]),by simp[Sm.flat]⟩|2,_=>exact⟨Sm.t_ ⟨hnm,trivial⟩ (by simp[Sm.flat]),by simp[Sm.flat]⟩|3,_=>exact⟨Sm.t_ ⟨hnm,trivial⟩ (by simp[Sm.flat]),by simp[Sm.flat]⟩
   |4,_=>exact⟨Sm.t_ trivial (by simp[Sm.flat]),by simp[Sm.flat]⟩
  have hlf:fX less 0/\less.wt<=9:=by
   show fX (if q8=7 then Ds.nil else .set nm (.two 1 (.bR nm) (.num 1)) .nil) 0/\(if q8=7 then Ds.nil else .set nm (.two 1 (.bR nm) (.num 1)) .nil).wt<=9;by_cases q:q8=7
   .rw[if_pos q];exact⟨fX.nil _,eG _⟩
   .rw[if_neg q];have hf:=Sm.t_ (t:=.two 1 (.bR nm) (.num 1)) ⟨hnm,trivial⟩ (by simp[Sm.flat]);exact⟨⟨⟨WM,hf.1,trivial⟩,⟨hnm,hf.2,trivial⟩,Yl _⟩,by simp[Ds.wt,Sm.flat]⟩
  have hless:Dt[if q8=7 then 1 else 0]?=Ya (.tup less.enc):=by
   show Dt[if q8=7 then 1 else 0]?=Ya (.tup (if q8=7 then Ds.nil else .set nm (.two 1 (.bR nm) (.num 1)) .nil).enc);by_cases q:q8=7
   .rw[if_pos q,if_pos q];rfl
   .rw[if_neg q,if_neg q];rfl
  have Ade:fX s1 (3-r.length):=⟨⟨WM,⟨trivial,by simp[Sm.flat]⟩,trivial⟩,⟨hnm,trivial,trivial⟩,eG _⟩;have Adf:s1.wt=5:=by simp[s1,Ds.wt,Sm.flat]
  have hlist:fD (dW c rs) (-1)=Ya (.ref c):=by rw[Mr];exact getD_last _ _
  refine fin (env:=[Ya (SC ns),Ya (.int (k:Int)),Ya (.ref f),Ya (.ref o),Ya (.ref nr),Yh,Yh,Yh,Yh]) (env':=[Ya (SC ns),Ya (.int (k:Int)),Ya (.ref f),Ya (.ref o),Ya (.ref nr),Ya (.int dd),Ya (.str nm),Ya (.ref M1.length),Ya (.tup less.enc)]) (x:=.whl cond less) hp3 (g.put (g.cur.app Ade)) ⟨hcf.1,hlf.1⟩ ?_ (by simp[M3,M2,M1]) ?_ rfl
  .have e1:(aQ.whl cond less).wt=2*cond.flat.length+3+less.wt:=rfl;have:=hcf.2;have:=hlf.2;rw[Ml,Adf,e1];omega
  unfold Hh;refine(Zk Ws).trans ?_;have t1:aF 6 (Zu nu (Za (Zc 0) (Za (e2 bf (eC (.int 10)) (aU bM (Za (Zc 3) (Ze)))) (Ze)))) [Ya (SC ns),Ya (.int (k:Int)),Ya (.ref f),Ya (.ref o),Ya (.ref nr),Ya (.int dd),Yh,Yh,Yh] M= .nx [Ya (SC ns),Ya (.int (k:Int)),Ya (.ref f),Ya (.ref o),Ya (.ref nr),Ya (.int dd),Ya (.str nm),Yh,Yh] M:=by refine bN (qJ (b:=.int ((10+r.length:Nat):Int)) (M2:=M) rfl (Zg rfl (je rfl (vm h.ho)) ?_) (U_ hl (10+r.length) M));rw[Kf];congr 2;simp[cU]
  have t2:Zw (bD bI cj (e2 Zr (Zc 2) (e1 jk (eC (.int 1)))) (Za (bF (Za (eC (.str [115,101,116])) (Za (Zc 6) (Za (bF (Za (e2 aO (e2 dN (Zc 5) (eC (.int 2))) (eC (.int 4))) (Ze))) (Ze))))) (Ze))) [Ya (SC ns),Ya (.int (k:Int)),Ya (.ref f),Ya (.ref o),Ya (.ref nr),Ya (.int dd),Ya (.str nm),Yh,Yh] M= .nx [Ya (SC ns),Ya (.int (k:Int)),Ya (.ref f),Ya (.ref o),Ya (.ref nr),Ya (.int dd),Ya (.str nm),Yh,Yh] M1:=yH (Zg rfl (dU rfl (Kh 1)) (jy h.hf hlist)) h.hc (gk (Zm rfl (Zm rfl (Zm (gk (Zm (Zg (Zg rfl rfl (jE (by decide))) rfl (dF (by decide))) rfl) rfl) rfl))) rfl) h.hc (lQ (show cur.enc.length<200000 by omega) (by decide));have t3:aF 7 (cg (Za (bF (Za (Zc 6) (Ze))) (Za (bF (Za (eC (.str [109,111,114,101])) (Za (Zc 6) (Za (eC (.int 0)) (Ze))))) (Za (bF (Za (eC (.str [97,100,100])) (Za (Zc 6) (Za (eC (.int 0)) (Ze))))) (Za (bF (Za (eC (.str [115,117,98])) (Za (Zc 6) (Za (eC (.int 0)) (Ze))))) (Za (bF (Za (e2 jR (eC (.int 1)) (e2 aO (e2 dN (Zc 5) (eC (.int 64))) (eC (.int 3)))) (Ze))) (Ze))))))) [Ya (SC ns),Ya (.int (k:Int)),Ya (.ref f),Ya (.ref o),Ya (.ref nr),Ya (.int dd),Ya (.str nm),Yh,Yh] M1= .nx [Ya (SC ns),Ya (.int (k:Int)),Ya (.ref f),Ya (.ref o),Ya (.ref nr),Ya (.int dd),Ya (.str nm),Ya (.ref M1.length),Yh] M2:=bN (iY (ds:=za) (Zm (gk rfl rfl) (Zm (gk rfl rfl) (Zm (gk rfl rfl) (Zm (gk rfl rfl) (Zm (gk (Zm (Zg rfl (Zg (Zg rfl rfl (jE (by decide))) rfl (dF (by decide))) rfl) rfl) rfl) rfl))))) rfl);have t4:aF 8 (e2 Zr (cg (Za (bF (Za (bF (Za (eC (.str [115,101,116])) (Za (Zc 6) (Za (bF (Za (eC (.str [115,117,98])) (Za (Zc 6) (Za (eC (.int 1)) (Ze))))) (Ze))))) (Ze))) (Za (bF (Ze)) (Ze)))) (aU tE (Za (e2 bL (e2 aO (e2 dN (Zc 5) (eC (.int 8))) (eC (.int 8))) (eC (.int 7))) (Ze)))) [Ya (SC ns),Ya (.int (k:Int)),Ya (.ref f),Ya (.ref o),Ya (.ref nr),Ya (.int dd),Ya (.str nm),Ya (.ref M1.length),Yh] M2= .nx [Ya (SC ns),Ya (.int (k:Int)),Ya (.ref f),Ya (.ref o),Ya (.ref nr),Ya (.int dd),Ya (.str nm),Ya (.ref M1.length),Ya (.tup less.enc)] M3:=by
   refine bN (Zg (iY (ds:=Dt) (Zm (gk (Zm (gk (Zm rfl (Zm rfl (Zm (gk rfl rfl) rfl))) rfl) rfl) rfl) (Zm (gk rfl rfl) rfl)) rfl) (je (a:=.bl (decide (q8=7))) (M1:=M3) (Zg (Zg (Zg rfl rfl (jE (by decide))) rfl (dF (by decide))) rfl ?_) (d:=.int ((if q8=7 then 1 else 0:Nat):Int)) ?_) (jy (dR M2 _ []) (by rw[kZ];exact hless)))
   .rw[Ms];by_cases q:q8=7
    .rw[decide_eq_true q];exact k_ (by omega)
    .rw[decide_eq_false q];exact iR (by omega)
   .rw[ZpL,Zrv];by_cases q:q8=7
    .rw[decide_eq_true q,if_pos q];rfl
    .rw[decide_eq_false q,if_neg q];rfl
  have AcL:M3[M1.length]?=Ya (.lst za):=iC (dR M1 _ []) _;have t5:Zw (bD bI cj (Zc 3) (Za (bF (Za (eC (.str [119,104,105,108,101])) (Za (e2 Zr (Zc 7) (e2 aO (e2 aO (e2 dN (Zc 5) (eC (.int 8))) (eC (.int 8))) (eC (.int 5)))) (Za (Zc 8) (Ze))))) (Ze))) [Ya (SC ns),Ya (.int (k:Int)),Ya (.ref f),Ya (.ref o),Ya (.ref nr),Ya (.int dd),Ya (.str nm),Ya (.ref M1.length),Ya (.tup less.enc)] M3= .nx [Ya (SC ns),Ya (.int (k:Int)),Ya (.ref f),Ya (.ref o),Ya (.ref nr),Ya (.int dd),Ya (.str nm),Ya (.ref M1.length),Ya (.tup less.enc)] (M3.set o (MO.lst (cU r++[(aQ.whl cond less).enc]))):=qW rfl hp3.ho (gk (Zm rfl (Zm (Zg rfl (Zg (Zg (Zg rfl rfl (jE (by decide))) rfl (dF (by decide))) rfl (dF (by decide))) (jy AcL (by rw[Ms,show((q8:Int) % 5)=((q8 % 5:Nat):Int)by omega,kZ];exact hcond))) (Zm rfl rfl))) rfl) hp3.ho WL;exact(Zk ((d9 (Zg (Zg rfl rfl (dF (by decide))) rfl (k_ h1))).trans ((Zk t1).trans ((Zk t2).trans ((Zk t3).trans ((Zk t4).trans t5)))))).trans (ZmK hp3 hr λ_=>rfl)
 .--a choice
  obtain⟨t,ht,htl,hsum⟩:=Znj (Q:=λx=>gM x=false) (at0:=200+30*k) (lim:=4) hl (M:=M) (nr:=nr) (names:=names) (C_ h.p hn) hne hlt hop (by decide);refine fin (env:=[Ya (SC ns),Ya (.int (k:Int)),Ya (.ref f),Ya (.ref o),Ya (.ref nr),Yh,Yh,Yh,Yh]) (env':=[Ya (SC ns),Ya (.int (k:Int)),Ya (.ref f),Ya (.ref o),Ya (.ref nr),Ya (.int dd),Yh,Yh,Yh]) (x:=.cF t) h g (Sm.t_ ht (by omega)) (by have e1:(aQ.cF t).wt=2*t.flat.length+3:=rfl;rw[e1];omega) (Yl _) ?_ rfl;unfold Hh;refine(Zk Ws).trans ?_;have hidx:e2 bf (eC (.int 200)) (e2 eU (eC (.int 30)) (Zc 1)) [Ya (SC ns),Ya (.int (k:Int)),Ya (.ref f),Ya (.ref o),Ya (.ref nr),Ya (.int dd),Yh,Yh,Yh] M= .ok (.int ((200+30*k:Nat):Int)) M:=by refine Zg rfl (Zg rfl rfl (by rw[Ai,if_pos (Ma (by decide))])) ?_;rw[Kf];congr 2
  have t5:Zw (bD bI cj (Zc 3) (Za (bF (Za (eC (.str [119,104,101,110])) (Za (Zu oM (Za (Zc 0) (Za (e2 bf (eC (.int 200)) (e2 eU (eC (.int 30)) (Zc 1))) (Za (Zc 4) (Za (eC (.int 4)) (Ze)))))) (Za (eC .non) (Ze))))) (Ze))) [Ya (SC ns),Ya (.int (k:Int)),Ya (.ref f),Ya (.ref o),Ya (.ref nr),Ya (.int dd),Yh,Yh,Yh] M= .nx [Ya (SC ns),Ya (.int (k:Int)),Ya (.ref f),Ya (.ref o),Ya (.ref nr),Ya (.int dd),Yh,Yh,Yh] (M.set o (MO.lst (cU r++[(aQ.cF t).enc]))):=qW rfl h.ho (gk (Zm rfl (Zm (Zo3 rfl hidx rfl rfl hsum) (Zm rfl rfl))) rfl) h.ho WL;exact(Zk ((dh (Zg (Zg rfl rfl (dF (by decide))) rfl (iR h1))).trans t5)).trans (ZmK h hr λ_=>rfl)
end
noncomputable abbrev Vb:S3:=aq (aF 7 (aU tE (Za (e2 bL (Zc 5) (e2 aO (Zu Zq (Za (Zc 0) (Za (eC (.int 58)) (Ze)))) (eC (.int 8)))) (Ze)))) (aq (aF 8 (Zu oM (Za (Zc 0) (Za (e2 bf (eC (.int 200)) (e2 eU (eC (.int 30)) (Zc 5))) (Za (Zc 2) (Za (e2 Zr (cg (Za (eC (.int 4)) (Za (eC (.int 10)) (Ze)))) (Zc 7)) (Ze))))))) (aV (e2 lV (e2 aO (Zc 6) (eC (.int 9))) (eC (.int 3))) (Zw (bD bI cj (e2 Zr (Zc 3) (e1 jk (eC (.int 1)))) (Za (bF (Za (eC (.str [115,101,116])) (Za (e2 Zr (Zc 2) (e2 aO (e2 dN (Zc 6) (eC (.int 9))) (eC (.int 6)))) (Za (Zc 8) (Ze))))) (Ze)))) (aV (e2 bL (e2 aO (Zc 6) (eC (.int 9))) (eC (.int 3))) (Zw (bD bI cj (e2 Zr (Zc 3) (e1 jk (eC (.int 1)))) (Za (bF (Za (eC (.str [112,117,116])) (Za (Zc 8) (Za (Zu oM (Za (Zc 0) (Za (e2 bf (eC (.int 215)) (e2 eU (eC (.int 30)) (Zc 5))) (Za (Zc 2) (Za (e2 Zr (cg (Za (eC (.int 3)) (Za (eC (.int 8)) (Ze)))) (Zc 7)) (Ze)))))) (Ze))))) (Ze)))) (aV (kJ (e2 lV (e2 aO (Zc 6) (eC (.int 9))) (eC (.int 6))) (e2 lV (aU bM (Za (Zc 4) (Ze))) (eC (.int 3)))) (Zw (Zu BJ (Za (Zc 0) (Za (Zc 5) (Za (Zc 3) (Za (Zc 4) (Za (Zc 2) (Ze)))))))) (aV (kJ (e2 bL (e2 aO (Zc 6) (eC (.int 9))) (eC (.int 6))) (e2 jc (aU bM (Za (Zc 4) (Ze))) (eC (.int 0)))) (Zw (Zu vZ (Za (Zc 3) (Za (Zc 4) (Ze))))) (Zw (bD bI cj (e2 Zr (Zc 3) (e1 jk (eC (.int 1)))) (Za (bF (Za (eC (.str [116,101,108,108])) (Za (Zc 8) (Ze)))) (Ze)))))))))
noncomputable abbrev jr(ns:List Int)(cl nr f o:Nat)(a5 a6 a7 a8:Option D):Zo:=[Ya (SC ns),Ya (.ref cl),Ya (.ref nr),Ya (.ref f),Ya (.ref o),a5,a6,a7,a8]
theorem ZkX(r:List (aQ×Ds)):(cU r).length=r.length:=by simp[cU]
variable{F:F3}
theorem Zt7{f g h k l:E3}{M M1 M2 M3 M4 M5 M6:Store}{a b c d e r:D}(h1:f env M= .ok a M1)(h2:g env M1= .ok b M2)(h3:h env M2= .ok c M3)(h4:k env M3= .ok d M4)(h5:l env M4= .ok e M5)(h6:F [a,b,c,d,e] M5= .ok r M6):Zu F (Za f (Za g (Za h (Za k (Za l Ze))))) env M= .ok r M6:=by simp only[Zu,Za,Ze,R3.bind,h1,h2,h3,h4,h5,h6]
section
variable {ns:List Int} {M0:Store} {f o cl nr:Nat} {names:List (List Nat)}
theorem Tt(hl:ns.length<=63)(hn:M0[nr]?=Ya (.lst (names.map D.str)))(hne:0<names.length)(hlt:names.length<1000)(hop:∀x∈names,gM x=false)(k:Nat)(p:M0<+:M)(base a b:Nat)(hab:a<=10/\b<=10)(deep:Bool)(e6 e8:Option D):
  ∃t:Sm,t.fine/\t.flat.length<=12/\Zu oM (Za (Zc 0) (Za (e2 bf (eC (.int (base:Int))) (e2 eU (eC (.int 30)) (Zc 5))) (Za (Zc 2) (Za (e2 Zr (cg (Za (eC (.int (a:Int))) (Za (eC (.int (b:Int))) (Ze)))) (Zc 7)) (Ze))))) (jr ns cl nr f o (Ya (.int (k:Int))) e6 (Ya (.int (if deep=true then 1 else 0))) e8) M= .ok (.tup t.flat) (M++[.lst [.int (a:Int),.int (b:Int)]]):=by
 obtain⟨t,ht,htl,hsum⟩:=Znj (Q:=λx=>gM x=false) (at0:=base+30*k) (lim:=if deep=true then b else a) hl (M:=M++[.lst [.int (a:Int),.int (b:Int)]]) (nr:=nr) (names:=names) (C_ (p.trans (rR _ _)) hn) hne hlt hop (by split <;>omega);have hlim:t.flat.length<=12:=by split at htl<;>omega
 refine⟨t,Sm.t_ ht (by omega),hlim,?_⟩;refine Zo3 (b:=.int ((base+30*k:Nat):Int)) (M2:=M) (d:=.int ((if deep=true then b else a:Nat):Int)) rfl (Zg rfl (Zg rfl rfl (by rw[Ai,if_pos (Ma (by decide))])) (by rw[Kf];congr 2)) rfl (Zg (iY (ds:=[.int (a:Int),.int (b:Int)]) rfl rfl) rfl (jy (dR M _ []) ?_)) hsum;cases deep with
 |true=>rfl|false=>rfl
theorem ZoX(hl:ns.length<=63)(hn:M0[nr]?=Ya (.lst (names.map D.str)))(hne:names.length=7)(hop:∀x∈names,gM x=false)(k:Nat)(cell:Int){rs:List Nat}{cur:Ds}{r:List (aQ×Ds)}(h:fG M0 f o c rs cur r M)(g:fY cur r)(hw:dH cur r<=50000)(a7 a8:Option D):
  ∃S b7 b8,Vb (jr ns cl nr f o (Ya (.int (k:Int))) (Ya (.int cell)) a7 a8) M= .nx (jr ns cl nr f o (Ya (.int (k:Int))) (Ya (.int cell)) b7 b8) S/\Dj M0 f o (dH cur r+60) 3 S:=by
 let deep:Bool:=decide ((k:Int)=dr ns 58 % 8)
 have s1:aF 7 (aU tE (Za (e2 bL (Zc 5) (e2 aO (Zu Zq (Za (Zc 0) (Za (eC (.int 58)) (Ze)))) (eC (.int 8)))) (Ze))) (jr ns cl nr f o (Ya (.int (k:Int))) (Ya (.int cell)) a7 a8) M= .nx (jr ns cl nr f o (Ya (.int (k:Int))) (Ya (.int cell)) (Ya (.int (if deep=true then 1 else 0))) a8) M:=bN (je (Zg rfl (Zg (pU hl (k:=58) rfl rfl) rfl (dF (by decide))) rfl) rfl);obtain⟨t,ht,htl,hsum⟩:=Tt (f:=f) (o:=o) (cl:=cl) hl hn (by omega) (by omega) hop k h.p 200 4 10 (by omega) deep (Ya (.int cell)) a8;have h1:=h.ext (rR M [.lst [.int ((4:Nat):Int),.int ((10:Nat):Int)]])
 let M1:=M++[MO.lst [.int ((4:Nat):Int),.int ((10:Nat):Int)]]
 have s2:aF 8 (Zu oM (Za (Zc 0) (Za (e2 bf (eC (.int 200)) (e2 eU (eC (.int 30)) (Zc 5))) (Za (Zc 2) (Za (e2 Zr (cg (Za (eC (.int 4)) (Za (eC (.int 10)) (Ze)))) (Zc 7)) (Ze)))))) (jr ns cl nr f o (Ya (.int (k:Int))) (Ya (.int cell)) (Ya (.int (if deep=true then 1 else 0))) a8) M= .nx (jr ns cl nr f o (Ya (.int (k:Int))) (Ya (.int cell)) (Ya (.int (if deep=true then 1 else 0))) (Ya (.tup t.flat))) M1:=bN hsum;have hcw:=Mm cur r;have hel:=q_ cur;have hcz:cur.enc.length<SZ:=lQ (show cur.enc.length<200000 by omega) (by decide);have hlist:fD (dW c rs) (-1)=Ya (.ref c):=by rw[Mr];exact getD_last _ _
 have hlen:∀{a7 a8:Option D},aU bM (Za (Zc 4) (Ze)) (jr ns cl nr f o (Ya (.int (k:Int))) (Ya (.int cell)) a7 a8) M1= .ok (.int (r.length:Int)) M1:=by exact je rfl ((vm h1.ho).trans (by rw[ZkX]))
 have idx:∀{a7 a8:Option D},e2 Zr (Zc 3) (e1 jk (eC (.int 1))) (jr ns cl nr f o (Ya (.int (k:Int))) (Ya (.int cell)) a7 a8) M1= .ok (.ref c) M1:=Zg rfl (dU rfl (Kh 1)) (jy h1.hf hlist);have h9:∀{a7 a8:Option D},e2 aO (Zc 6) (eC (.int 9)) (jr ns cl nr f o (Ya (.int (k:Int))) (Ya (.int cell)) a7 a8) M1= .ok (.int (cell % 9)) M1:=Zg rfl rfl (dF (by decide));have put:∀{s:Ds},fX s (3-r.length)->s.wt<=60->∀{S:Store},fG M0 f o c rs cur r S->Dj M0 f o (dH cur r+60) 3 (S.set c (.lst (cur.enc++s.enc))):=λ{s} hs hsw {S} hS=>⟨c,rs,cur.app s,r,hS.put s,g.put (g.cur.app hs),by rw[Ml];omega,g.len⟩;by_cases c1:cell % 9<3
 .obtain⟨q,eq,hq⟩:=nA (cell / 9) 6 (by decide);have eq:cell / 9 % 6=(q:Int):=eq;have hql:q<names.length:=by omega
  have hgq:names[q]?=Ya (names[q]'hql):=Y3 hql;have hres:=hop _ (Jj hql);have Adg:M1[nr]?=Ya (.lst (names.map D.str)):=C_ h1.p hn;refine⟨_,_,_,(Zk s1).trans ((Zk s2).trans ((d9 (Zg h9 rfl (by rw[u5,decide_eq_true c1]))).trans (yH idx h1.hc (gk (Zm rfl (Zm (Zg rfl (Zg (Zg rfl rfl (jE (by decide))) rfl (dF (by decide))) (jy Adg (by rw[eq,kZ,mL,hgq];rfl))) (Zm rfl rfl))) rfl) h1.hc hcz))),?_⟩;exact put (s:=.set (names[q]'hql) t .nil) ⟨⟨U8 hres,ht.1,trivial⟩,⟨hres,ht.2,trivial⟩,eG _⟩ (by simp only[Ds.wt];omega) h1
 have f1:∀{a7 a8:Option D},e2 lV (e2 aO (Zc 6) (eC (.int 9))) (eC (.int 3)) (jr ns cl nr f o (Ya (.int (k:Int))) (Ya (.int cell)) a7 a8) M1= .ok (.bl false) M1:=Zg h9 rfl (by rw[u5,decide_eq_false c1]);by_cases c2:cell % 9=3
 .obtain⟨u,hu,hul,AcU⟩:=Tt (f:=f) (o:=o) (cl:=cl) hl hn (by omega) (by omega) hop k h1.p 215 3 8 (by omega) deep (Ya (.int cell)) (Ya (.tup t.flat));have h2:=h1.ext (rR M1 [.lst [.int ((3:Nat):Int),.int ((8:Nat):Int)]]);refine⟨_,_,_,(Zk s1).trans ((Zk s2).trans ((dh f1).trans ((d9 (Zg h9 rfl (k_ c2))).trans (yH idx h1.hc (gk (Zm rfl (Zm rfl (Zm AcU rfl))) rfl) h2.hc hcz)))),?_⟩;exact put (s:=.put t u .nil) ⟨⟨ht.1,hu.1,trivial⟩,⟨ht.2,hu.2,trivial⟩,eG _⟩ (by simp only[Ds.wt];omega) h2
 have f2:∀{a7 a8:Option D},e2 bL (e2 aO (Zc 6) (eC (.int 9))) (eC (.int 3)) (jr ns cl nr f o (Ya (.int (k:Int))) (Ya (.int cell)) a7 a8) M1= .ok (.bl false) M1:=Zg h9 rfl (iR c2);by_cases c3:cell % 9<6/\r.length<3
 .obtain⟨S,e,hS⟩:=Zof hl k h1 g c3.2 (by omega) hn (by omega) (by omega) hop;obtain⟨c',rs',cur',r',q1,q2,q3,q4⟩:=hS;refine⟨S,_,_,(Zk s1).trans ((Zk s2).trans ((dh f1).trans ((dh f2).trans ((d9 ((Ax (Zg h9 rfl (by rw[u5,decide_eq_true c3.1]))).trans (Zg hlen rfl (by rw[u5,decide_eq_true (by omega)])))).trans (jm (Zt7 rfl rfl rfl rfl rfl e)))))),c',rs',cur',r',q1,q2,q3,q2.len⟩
 have f3:∀{a7 a8:Option D},kJ (e2 lV (e2 aO (Zc 6) (eC (.int 9))) (eC (.int 6))) (e2 lV (aU bM (Za (Zc 4) (Ze))) (eC (.int 3))) (jr ns cl nr f o (Ya (.int (k:Int))) (Ya (.int cell)) a7 a8) M1= .ok (.bl false) M1:=by
  by_cases q:cell % 9<6
  .exact(Ax (Zg h9 rfl (by rw[u5,decide_eq_true q]))).trans (Zg hlen rfl (by rw[u5,decide_eq_false (by omega)]))
  .exact RV (Zg h9 rfl (by rw[u5,decide_eq_false q]))
 by_cases c4:cell % 9=6/\0<r.length
 .cases r with
  |nil=>exact absurd c4.2 (by simp)|cons q r=>
   obtain⟨x,d⟩:=q;cases rs with
   |nil=>have:=h.len;simp at this|cons c' rs=>obtain⟨S,e,hS⟩:=Zjg h1 g (by omega);obtain⟨c2,Hw,DP,r2,q1,q2,q3,q4⟩:=hS;refine⟨S,_,_,(Zk s1).trans ((Zk s2).trans ((dh f1).trans ((dh f2).trans ((dh f3).trans ((d9 ((Ax (Zg h9 rfl (k_ c4.1))).trans (Zg hlen rfl (by rw[mW,decide_eq_true (by simp)])))).trans (jm (qJ rfl rfl e))))))),c2,Hw,DP,r2,q1,q2,by omega,q2.len⟩
 have f4:∀{a7 a8:Option D},kJ (e2 bL (e2 aO (Zc 6) (eC (.int 9))) (eC (.int 6))) (e2 jc (aU bM (Za (Zc 4) (Ze))) (eC (.int 0))) (jr ns cl nr f o (Ya (.int (k:Int))) (Ya (.int cell)) a7 a8) M1= .ok (.bl false) M1:=by
  by_cases q:cell % 9=6
  .exact(Ax (Zg h9 rfl (k_ q))).trans (Zg hlen rfl (by rw[mW,decide_eq_false (by omega)]))
  .exact RV (Zg h9 rfl (iR q))
 refine⟨_,_,_,(Zk s1).trans ((Zk s2).trans ((dh f1).trans ((dh f2).trans ((dh f3).trans ((dh f4).trans (yH idx h1.hc (gk rfl rfl) h1.hc hcz)))))),?_⟩;exact put (s:=.tell t .nil) ⟨⟨ht.1,trivial⟩,⟨ht.2,trivial⟩,eG _⟩ (by simp only[Ds.wt];omega) h1
theorem Zk3(hl:ns.length<=63)(hn:M0[nr]?=Ya (.lst (names.map D.str)))(hne:names.length=7)(hop:∀x∈names,gM x=false){items:List D}(hcl:M0[cl]?=Ya (.lst items)):∀(cs:List Int) (k w:Nat) (M:Store) (a5 a6 a7 a8:Option D),Dj M0 f o w 3 M->w+60*cs.length<=40000 ->
  ∃S b5 b6 b7 b8,m9 [(cl,items)] (Kw [5,6]) Vb (lX k (cs.map D.int)) (jr ns cl nr f o a5 a6 a7 a8) M= .nx (jr ns cl nr f o b5 b6 b7 b8) S/\Dj M0 f o (w+60*cs.length) 3 S
 |[],k,w,M,a5,a6,a7,a8,H,_=>by obtain⟨c,rs,cur,r,h,g,hw,hm⟩:=H;refine⟨M,a5,a6,a7,a8,?_,c,rs,cur,r,h,g,by simpa using hw,hm⟩;show m9 _ _ _ [] _ _=_;rw[RX,if_pos (by simp[qK,C_ h.p hcl])]|x::cs,k,w,M,a5,a6,a7,a8,H,hz=>by rw[Yo]at hz;obtain⟨c,rs,cur,r,h,g,hw,hm⟩:=H;obtain⟨S,b7,b8,e,HS⟩:=ZoX (cl:=cl) hl hn hne hop k x h g (by omega) a7 a8;obtain⟨c2,Hw,DP,r2,h2,g2,hw2,hm2⟩:=HS;obtain⟨S2,d5,d6,d7,d8,e2',HS2⟩:=Zk3 hl hn hne hop hcl cs (k+1) (w+60) S (Ya (.int (k:Int))) (Ya (.int x)) b7 b8 ⟨c2,Hw,DP,r2,h2,g2,by omega,hm2⟩ (by omega);obtain⟨c3,rs3,Oe,r3,h3,g3,hw3,hm3⟩:=HS2;refine⟨S2,d5,d6,d7,d8,?_,c3,rs3,Oe,r3,h3,g3,by rw[Yo];omega,hm3⟩;show m9 _ _ _ (.tup [.int (k:Int),.int x]::lX (k+1) (cs.map D.int)) _ _=_;rw[RZ,if_pos (by simp[qK,C_ h.p hcl])];have e:Vb [Ya (SC ns),Ya (.ref cl),Ya (.ref nr),Ya (.ref f),Ya (.ref o),Ya (.int (k:Int)),Ya (.int x),a7,a8] M= .nx [Ya (SC ns),Ya (.ref cl),Ya (.ref nr),Ya (.ref f),Ya (.ref o),Ya (.int (k:Int)),Ya (.int x),b7,b8] S:=e;simp only[Kw,Zmh,Zmd,nQ,nR,e];exact e2'
theorem Zwf(r:List (aQ×Ds)):v9 r<=2*r.length:=by
 induction r with
 |nil=>exact Yl _|cons p r ih=>
  obtain⟨x,d⟩:=p;rw[Di,Yo];have:x.mu<=2:=by cases x<;>simp[aQ.mu]
  omega
theorem ZnF(h3:∀S,Zc 3 env S= .ok (.ref f) S)(h4:∀S,Zc 4 env S= .ok (.ref o) S):∀(m fuel:Nat) (c:Nat) (rs:List Nat) (cur:Ds) (r:List (aQ×Ds)) (M:Store),v9 r<=m->m<fuel->fG M0 f o c rs cur r M->fY cur r->dH cur r<=100000 ->
  ∃S c' cur',g_ (e2 jc (aU bM (Za (Zc 4) (Ze))) (eC (.int 0))) (Zw (Zu vZ (Za (Zc 3) (Za (Zc 4) (Ze))))) fuel env M= .nx env S/\fG M0 f o c' [] cur' [] S/\fX cur' 3/\cur'.wt=dH cur r:=by
 intro m
 induction m with
 | zero=>
  intro fuel c rs cur r M hm hf h g hw;obtain⟨k,rfl⟩:∃k,fuel=k+1:=⟨fuel-1,by omega⟩;cases r with
  | nil=>
   cases rs with
   |cons _ _=>have:=h.len;simp at this|nil=>refine⟨M,c,cur,?_,h,g,rfl⟩;rw[oA,Zg (je (h4 M) (vm h.ho)) rfl (show jc (.int ((cU []).length:Int)) (.int 0) M= .ok (.bl false) M from rfl)]
  |cons q r=>obtain⟨x,d⟩:=q;rw[Di]at hm;cases x<;>simp[aQ.mu]at hm
 | succ m ih=>
  intro fuel c rs cur r M hm hf h g hw;obtain⟨k,rfl⟩:∃k,fuel=k+1:=⟨fuel-1,by omega⟩;cases r with
  | nil=>
   cases rs with
   |cons _ _=>have:=h.len;simp at this|nil=>refine⟨M,c,cur,?_,h,g,rfl⟩;rw[oA,Zg (je (h4 M) (vm h.ho)) rfl (show jc (.int ((cU []).length:Int)) (.int 0) M= .ok (.bl false) M from rfl)]
  | cons q r=>
   obtain⟨x,d⟩:=q;cases rs with
   |nil=>have:=h.len;simp at this|cons c' rs=>obtain⟨S,e,HS⟩:=Zjg h g hw;obtain⟨c2,Hw,DP,r2,q1,q2,q3,q4⟩:=HS;obtain⟨S2,c3,Oe,e2',h5,h6,h7⟩:=ih k c2 Hw DP r2 S (by omega) (by omega) q1 q2 (by omega);refine⟨S2,c3,Oe,?_,h5,h6,h7.trans q3⟩;rw[oA,Zg (je (h4 M) (vm h.ho)) rfl (show jc (.int ((cU ((x,d)::r)).length:Int)) (.int 0) M= .ok (.bl true) M by rw[mW,ZkX,decide_eq_true (by simp)])];show(match Zw _ _ _ with| .nx e M'=>_| .ct e M'=>_| .bk e M'=>_|o=>o)=_;rw[jm (qJ (h3 M) (h4 M) e)];exact e2'
end
theorem rm{n:Nat}:∀d:Ds,bV n d.enc=true
 | .nil=>rfl|.set x t r=>by show(below n (Dc x t)&&bV n r.enc)=true;rw[rm r,uN];show(true&&(bV n t.flat&&true))=true;rw[qY (qX t)];rfl
 | .put t u r=>by show(below n (Dd t u)&&bV n r.enc)=true;rw[rm r,uN];show(true&&(bV n t.flat&&(bV n u.flat&&true)))=true;rw[qY (qX t),qY (qX u)];rfl|.tell t r=>by show(below n (Hv t)&&bV n r.enc)=true;rw[rm r,uN];show(true&&(bV n t.flat&&true))=true;rw[qY (qX t)];rfl|.cF t a b r=>by show(below n (nC t a.enc b.enc)&&bV n r.enc)=true;rw[rm r,uN];show(true&&(bV n t.flat&&(bV n a.enc&&(bV n b.enc&&true))))=true;rw[qY (qX t),rm a,rm b];rfl|.whl t a r=>by show(below n (cJ t a.enc)&&bV n r.enc)=true;rw[rm r,uN];show(true&&(bV n t.flat&&(bV n a.enc&&true)))=true;rw[qY (qX t),rm a];rfl
theorem Zpr(hl:ns.length<=63){cl nr:Nat}{cs:List Int}(hcl:M[cl]?=Ya (.lst (cs.map D.int)))(hcs:cs.length<=24)(hn:M[nr]?=Ya (.lst (names.map D.str)))(hne:names.length=7)(hop:∀x∈names,gM x=false):
  ∃ds:Ds,fX ds 3/\ds.wt<=2000/\LQ [SC ns,.ref cl,.ref nr] M= .ok (.tup ds.enc) M:=by
 let M3:=M++[MO.lst [],.lst [.ref M.length],.lst []]
 have h0:fG M (M.length+1) (M.length+2) M.length [] .nil [] M3:=⟨rR _ _,vg M [MO.lst [],.lst [.ref M.length],.lst []] 1,vg M [MO.lst [],.lst [.ref M.length],.lst []] 2,vg M [MO.lst [],.lst [.ref M.length],.lst []] 0,λi a q h=>by simp at h,rfl,by simp,by simp,by simp,by omega,by omega,by omega,by simp⟩;obtain⟨S,b5,b6,b7,b8,e,H⟩:=Zk3 (f:=M.length+1) (o:=M.length+2) (cl:=cl) hl hn hne hop hcl cs 0 0 M3 Yh Yh Yh Yh ⟨M.length,[],.nil,[],h0,fX.nil 3,Yl _,by simp⟩ (by omega);obtain⟨c,rs,cur,r,h,g,hw,hm⟩:=H;have hmu:=Zwf r;obtain⟨S2,c',cur',e2',h5,h6,h7⟩:=ZnF (env:=jr ns cl nr (M.length+1) (M.length+2) b5 b6 b7 b8) (λ_=>rfl) (λ_=>rfl) (v9 r) 1000000 c rs cur r S (Yl _) (by omega) h g (by omega);obtain⟨G,hG⟩:=h5.p;refine⟨cur',h6,by omega,?_⟩;refine(jd (M':=S2) (d:=.tup cur'.enc) (env:=[Ya (SC ns),Ya (.ref cl),Ya (.ref nr),Yh,Yh,Yh,Yh,Yh,Yh]) ?_).trans ?_
 .unfold Um;refine(Zk (bN (d:=.ref (M.length+1)) (M':=M++[MO.lst [],.lst [.ref M.length]]) ?_)).trans ((Zk (bN (d:=.ref (M.length+2)) (M':=M3) ?_)).trans ?_)
  .have hi:Za (cg (Ze)) (Ze) [Ya (SC ns),Ya (.ref cl),Ya (.ref nr),Yh,Yh,Yh,Yh,Yh,Yh] M= .ok [.ref M.length] (M++[.lst []]):=Zm (iY rfl rfl) rfl;refine(iY hi rfl).trans ?_;rw[kj,Yt];rfl
  .refine(iY (ds:=[]) (M':=M++[MO.lst [],.lst [.ref M.length]]) rfl rfl).trans ?_;rw[kj,Yt];rfl
  have hit:R0 (Zc 1) (jr ns cl nr (M.length+1) (M.length+2) Yh Yh Yh Yh) M3= .ok ⟨lX 0 (cs.map D.int),[(cl,cs.map D.int)]⟩ M3:=by show(match M3[cl]? with|some (.lst ds)=>R3.ok (⟨lX 0 ds,[(cl,ds)]⟩:Ay) M3|_=>R3.bad)=_;rw[show M3[cl]?=_ from iC hcl _]
  refine(Zk ((ZnS hit).trans e)).trans ((Zk e2').trans (h_ (je (Zg rfl rfl (jy h5.hf rfl)) (F_ h5.hc))))
 .rw[←hG];exact Av (rm cur')
theorem Zqx(hl:ns.length<=63):(v7 ns 6).Nodup:=by
 unfold v7;have key:∀i j:Nat,i<6->j<6->j5 ns i=j5 ns j->i=j:=λi j hi hj e=>by
  have h1:=Zsp hl i;have h2:=Zsp hl j;rw[e,h2]at h1;have hb:∀x:Int,(x % 26).toNat<l_.length:=λx=>by have a:=zU x (b:=26) (by decide);have b:=Qg x (b:=26) (by decide);show _<26;omega
  have hn:l_.Nodup:=by decide
  have:=(ZC (hb _) hn).mp h1;have a1:=zU ((i:Int)+dr ns 3) (b:=26) (by decide);have a2:=zU ((j:Int)+dr ns 3) (b:=26) (by decide);omega
 have:∀l:List Nat,l.Nodup->(∀i∈l,i<6)->(l.map (j5 ns)).Nodup:=by
  intro l
  induction l with
  |nil=>intro _ _;exact ZL|cons i l ih=>intro hn Vc;rw[Y9,qe];refine⟨λhm=>?_,ih (qe.mp hn).2 λj hj=>Vc j (Yp _ hj)⟩;obtain⟨j,hj,e⟩:=zN.mp hm;have:=key j i (Vc j (Yp _ hj)) (Vc i Yw) e;exact(qe.mp hn).1 (this▸hj)
 exact this _ List.nodup_range λi hi=>En.mp hi
theorem Zhm(h:ns.length<=63)(n:Nat):∀x∈v7 ns n,gM x=false:=λx hx=>by obtain⟨i,_,rfl⟩:=zN.mp hx;exact(U9 h i).gM
inductive ZuR(ns:List Int)(P:D):Prop
 |mk (tk:List (List Nat)) (ds:Ds) (e:P=oO tk ds) (nd:tk.Nodup) (len:tk.length<=6) (fine:fX ds 3) (wt:ds.wt<=2000) (rs:∀x∈tk,gM x=false)
theorem ZlM(hl:ns.length<=63)(M:Store):∃P,ZuR ns P/\Hi [SC ns] M= .ok P M:=by
 obtain⟨j,ej,hj⟩:=nA (dr ns 50) 7 (by decide);have ej:dr ns 50 % 7=(j:Int):=ej
 let nm:=v7 ns 6
 let tk:=nm.take j
 let yM:=nm++[j5 ns 10]
 let cs:=ns.take 24
 have hcs:cs.length<=24:=by simp[cs];omega
 have Adh:yM.length=7:=by simp[yM,nm,Va]
 have hr7:∀x∈yM,gM x=false:=λx hx=>by
  rcases rT.mp hx with e|e
  .exact Zhm hl 6 x e
  .rw[lO.mp e];exact(U9 hl 10).gM
 have main:∀M:Store,∃ds:Ds,fX ds 3/\ds.wt<=2000/\Hi [SC ns] M= .ok (oO tk ds) M:=λM=>by
  let M1:=M++[MO.lst (nm.map D.str)]
  let M2:=M1++[MO.lst (tk.map D.str)]
  let M3:=M2++[MO.lst (cs.map D.int)]
  let M4:=M3++[MO.lst [.str (j5 ns 10)]]
  let M5:=M4++[MO.lst (yM.map D.str)]
  have hcl:M5[M2.length]?=Ya (.lst (cs.map D.int)):=iC (iC (dR M2 _ []) _) _;have hnr:M5[M4.length]?=Ya (.lst (yM.map D.str)):=dR M4 _ [];obtain⟨ds,hf,hw,hd⟩:=Zpr hl (M:=M5) hcl hcs hnr Adh hr7;refine⟨ds,hf,hw,?_⟩;refine(jd (M':=M5) (d:=oO tk ds) (env:=[Ya (SC ns),Yh,Yh]) ?_).trans ?_
  .unfold Uo;have s1:=Zqu hl 6 (by decide) (i:=3) (env:=[Ya (SC ns),Yh,Yh]) (λe=>∃a1 a2 a3,e=[Ya (SC ns),a1,a2,a3]) ⟨_,_,_,rfl⟩ (λe ⟨a1,a2,a3,he⟩ d=>by subst he;exact⟨⟨_,_,_,rfl⟩,λM=>⟨rfl,rfl⟩⟩) M;refine(Zk (bN s1)).trans ?_;have hsl:m7 (Zc 1) (mZ) (m5 (e2 aO (Zu Zq (Za (Zc 0) (Za (eC (.int 50)) (Ze)))) (eC (.int 7)))) [Ya (SC ns),Ya (.ref M.length),Yh] M1= .ok (.ref M1.length) M2:=by
    have hd:e2 aO (Zu Zq (Za (Zc 0) (Za (eC (.int 50)) (Ze)))) (eC (.int 7)) [Ya (SC ns),Ya (.ref M.length),Yh] M1= .ok (.int (j:Int)) M1:=Zg (pU hl (k:=50) rfl rfl) rfl ((dF (by decide)).trans (by rw[ej]));have ec:cutD (nm.map D.str) Yh (Ya (j:Int))=tk.map D.str:=by rw[Zpm,ZP]
    simp only[m7,Zc,R3.bind,mZ,m5];have hv:([Ya (SC ns),Ya (.ref M.length),Yh]:Zo)[1]?=Ya (Ya (.ref M.length)):=rfl;simp only[hv];rw[hd];simp only[R3.bind];rw[FJ,show M1[M.length]?=_ from dR M _ []];show alloc (.lst (cutD (nm.map D.str) Yh (Ya (j:Int)))) M1=_;rw[ec];rfl
   refine(Zk (bN (d:=.tup (tk.map D.str)) (M':=M2) (je hsl (F_ (dR M1 _ []))))).trans ?_;have Adi:m7 (Zc 0) (mZ) (m5 (eC (.int 24))) [Ya (SC ns),Ya (.ref M.length),Ya (.tup (tk.map D.str))] M2= .ok (.ref M2.length) M3:=by
    have ec:cutD (ns.map D.int) Yh (Ya ((24:Nat):Int))=cs.map D.int:=by rw[Zpm,ZP]
    show alloc (.lst (cutD (ns.map D.int) Yh (Ya ((24:Nat):Int)))) M2=_;rw[ec];rfl
   have h1:M4[M.length]?=Ya (.lst (nm.map D.str)):=iC (iC (iC (dR M _ []) _) _) _;have hadd:e2 bf (Zc 1) (cg (Za (Zu nu (Za (Zc 0) (Za (eC (.int 10)) (Ze)))) (Ze))) [Ya (SC ns),Ya (.ref M.length),Ya (.tup (tk.map D.str))] M3= .ok (.ref M4.length) M5:=by refine Zg rfl (iY (Zm (qJ rfl rfl (U_ hl 10 M3)) rfl) rfl) ((ZpF h1 (dR M3 _ []) (by rw[iz,Va];simp)).trans ?_);show R3.ok (D.ref M4.length) (M4++[.lst (nm.map D.str++[.str (j5 ns 10)])])=_;simp only[M5,yM,PN];rfl
   exact h_ (gk (Zm rfl (Zm (vh rfl Adi hadd hd) rfl)) rfl)
  .have e:M5=M++[MO.lst (nm.map D.str),.lst (tk.map D.str),.lst (cs.map D.int),.lst [.str (j5 ns 10)],.lst (yM.map D.str)]:=by simp[M5,M4,M3,M2,M1]
   rw[e];refine Av ?_;show(bV _ _&&(bV _ _&&true))=true;rw[rm,qY λw hw=>by obtain⟨x,_,rfl⟩:=zN.mp hw;exact mz.str x];rfl
 obtain⟨ds,hf,hw,e⟩:=main M;refine⟨oO tk ds,⟨tk,ds,rfl,(Zqx hl).sublist (PB _ _),?_,hf,hw,λx hx=>Zhm hl 6 x (List.take_subset _ _ hx)⟩,e⟩;simp[tk,nm,Va];omega
noncomputable abbrev bO:List Nat:=[87,97,108,107]
noncomputable abbrev oR:List Nat:=[110,97,109,101,100]
noncomputable abbrev rA:List Nat:=[99,101,108,108,115]
noncomputable abbrev v_:List Nat:=[110,117,109,98,101,114,115]
noncomputable abbrev wg:List Nat:=[115,116,101,112,115]
noncomputable abbrev yN:List Nat:=[109,111,115,116]
noncomputable abbrev Hx:List Nat:=[118,97,108,117,101,95,111,102]
noncomputable abbrev yO:List Nat:=[115,112,101,110,100]
noncomputable abbrev cG(a c b:Nat)(s m:Int):MO:=.ins bO [(oR,.ref a),(rA,.ref c),(v_,.ref b),(wg,.int s),(yN,.int m)]
theorem yP{c m:List Nat}{g:bU}{M M1 M2 M3:Store}{a:D}(h1:o env M= .ok a M1)(hi:tH c m a M1=true)(h2:g env M1= .ok ds M2)(h3:F (a::ds) M2= .ok d M3):bG c m F o g env M= .ok d M3:=by simp only[bG,h1,R3.bind,hi,if_true,h2,h3]
section
variable {a c b w:Nat} {s m:Int} {M:Store}
theorem ZsD(h:M[w]?=Ya (cG a c b s m)):jz bO oR (.ref w) M= .ok (.ref a) M:=by rw[A_,h];rfl
theorem ZsC(h:M[w]?=Ya (cG a c b s m)):jz bO rA (.ref w) M= .ok (.ref c) M:=by rw[A_,h];rfl
theorem Vd(h:M[w]?=Ya (cG a c b s m)):jz bO v_ (.ref w) M= .ok (.ref b) M:=by rw[A_,h];rfl
theorem Hy(h:M[w]?=Ya (cG a c b s m)):jz bO wg (.ref w) M= .ok (.int s) M:=by rw[A_,h];rfl
theorem ZsQ(h:M[w]?=Ya (cG a c b s m)):jz bO yN (.ref w) M= .ok (.int m) M:=by rw[A_,h];rfl
theorem mC(h:M[w]?=Ya (cG a c b s m)){x:List Nat}(hx:([oR,rA,v_,wg,yN].contains x)=false):tH bO x (.ref w) M=true:=by
 rw[Zlu,h];have:(ql x [(oR,D.ref a),(rA,.ref c),(v_,.ref b),(wg,.int s),(yN,.int m)])=Yh:=by simp only[YX,List.contains_nil,Bool.or_eq_false_iff]at hx;simp only[ql,hx.1,hx.2.1,hx.2.2.1,hx.2.2.2.1,hx.2.2.2.2.1]
 show(decide (bO=bO)&&(ql x [(oR,D.ref a),(rA,.ref c),(v_,.ref b),(wg,.int s),(yN,.int m)]).isNone)=true;rw[this];rfl
theorem Zsl(h:M[w]?=Ya (cG a c b s m))(v:Int):KD bO wg (.int v) (.ref w) M= .ok .non (M.set w (cG a c b v m)):=by rw[R6,h];rfl
end
noncomputable def opV(o:Nat)(x y:Int):Int:=match o with
 |0=>x+y|1=>x-y|_=>if x>y then 1 else 0
theorem Zoa(o:Nat)(x y:Int)(M:Store):Lq [.str (v6 o),.int x,.int y] M= .ok (.int (opV o x y)) M:=by
 refine(jd (M':=M) (d:=.int (opV o x y)) (env:=[Ya (.str (v6 o)),Ya (.int x),Ya (.int y)]) ?_).trans (RT rfl);unfold Uc
 match o with
 |0=>exact xP ((d9 (Zg rfl rfl (Hr rfl))).trans rfl)|1=>exact(Zk (qI (Zg rfl rfl (yG (by decide))))).trans (xP ((d9 (Zg rfl rfl (Hr rfl))).trans rfl))|o+2=>
  refine(Zk (qI (Zg rfl rfl (yG (by show[109,111,114,101]≠_;decide))))).trans ((Zk (qI (Zg rfl rfl (yG (by show[109,111,114,101]≠_;decide))))).trans ?_);by_cases h:x>y
  .exact h_ ((ZsE (M1:=M) (Zg rfl rfl (by rw[mW,decide_eq_true h]))).trans (by show R3.ok (D.int 1) M=R3.ok (D.int (if x>y then 1 else 0)) M;rw[if_pos h]))
  .exact h_ ((Zv7 (M1:=M) (Zg rfl rfl (by rw[mW,decide_eq_false h]))).trans (by show R3.ok (D.int 0) M=R3.ok (D.int (if x>y then 1 else 0)) M;rw[if_neg h]))
noncomputable def Sm.cost:Sm->Nat
 | .num _=>1|.bR _=>2|.gD a=>a.cost+2|.two _ a b=>a.cost+b.cost+1
noncomputable def Sm.val(nv:List Nat->Int)(cv:Int->Int):Sm->Int
 | .num i=>i|.bR x=>nv x|.gD a=>cv (a.val nv cv)|.two o a b=>opV o (a.val nv cv) (b.val nv cv)
structure eX(w:Nat)(M M':Store):Prop where
 len:M.length<=M'.length
 old:∀i,i<M.length->i≠w->M'[i]?=M[i]?
variable{w:Nat}
theorem eX.rfl:eX w M M:=⟨Yl _,λ_ _ _=>Eq.refl _⟩
theorem eX.trans{M M1 M2:Store}(h:eX w M M1)(k:eX w M1 M2):eX w M M2:=⟨Yv h.len k.len,λi hi hw=>(k.old i (Yn hi h.len) hw).trans (h.old i hi hw)⟩
theorem eX.at{o:MO}(h:eX w M M')(e:M[i]?=Ya o)(hw:i≠w):M'[i]?=Ya o:=(h.old i (Yf.mp e).1 hw).trans e
theorem eX.app(w:Nat)(M G:Store):eX w M (M++G):=⟨by simp,λi hi _=>Yx hi⟩
theorem eX.set(w:Nat)(M:Store)(o:MO):eX w M (M.set w o):=⟨by simp,λi _ hw=>Yj (bW hw)⟩
theorem Hz(M M':Store)(d:D)(hl:M.length<=M'.length):∃M2,tidy M d M'= .ok d M2/\M.length<=M2.length/\∀i,i<M.length->M2[i]?=M'[i]?:=by
 unfold tidy;split
 .exact⟨_,rfl,by rw[Ei];omega,λi hi=>by rw[zH hi]⟩
 .exact⟨_,rfl,hl,λ_ _=>rfl⟩
structure WS(w a c b:Nat)(m:Int)(nk ck:List (a_×D))(M:Store)(s:Int):Prop where
 ob:M[w]?=Ya (cG a c b s m)
 nm:M[a]?=Ya (.dct nk)
 cl:M[c]?=Ya (.dct ck)
 ac:a≠c
variable{s:Int}
section
variable {w a c b:Nat} {m:Int} {nk ck:List (a_×D)} {nv:List Nat->Int} {cv:Int->Int}
theorem WS.aw(h:WS w a c b m nk ck M s):a≠w:=λe=>by have:=h.ob;rw[←e,h.nm]at this;cases this
theorem WS.cw(h:WS w a c b m nk ck M s):c≠w:=λe=>by have:=h.ob;rw[←e,h.cl]at this;cases this
theorem WS.lt(h:WS w a c b m nk ck M s):w<M.length:=(Yf.mp h.ob).1
theorem WS.uo{s':Int}(h:WS w a c b m nk ck M s)(g:eX w M M')(e:M'[w]?=Ya (cG a c b s' m)):WS w a c b m nk ck M' s':=⟨e,g.at h.nm h.aw,g.at h.cl h.cw,h.ac⟩
end
structure W7 where
 n:List (a_×D)
 c:List (a_×D)
 o:List D
 s:Int
noncomputable def W7.v(x:W7)(t:Sm):Int:=t.val (λy=>intOf x.n (.inr y)) λi=>intOf x.c (.inl i)
noncomputable def W7.sp(x:W7)(k:Int):W7:=⟨x.n,x.c,x.o,x.s+k⟩
noncomputable def W7.set(x:W7)(y:List Nat)(t:Sm):W7:=⟨putD (.inr y) (.int (x.v t)) x.n,x.c,x.o,x.s+(t.cost:Int)+2⟩
noncomputable def W7.put(x:W7)(t u:Sm):W7:=⟨x.n,putD (.inl (x.v t)) (.int (x.v u)) x.c,x.o,x.s+(t.cost:Int)+(u.cost:Int)+2⟩
noncomputable def W7.tell(x:W7)(t:Sm):W7:=⟨x.n,x.c,x.o++[.int (x.v t)],x.s+(t.cost:Int)+1⟩
inductive G7 where
 |done (x:W7)
 |over
 |out
noncomputable def G7.on(g:G7)(f:W7->G7):G7:=match g with
 | .done x=>f x|.over=>.over|.out=>.out
noncomputable section
noncomputable def bY(m:Int)(x:W7)(g:G7):G7:=if x.s<=m then g else .over
noncomputable def aR(m:Int):Nat->Ds->W7->G7
 |0,_,_=>.out|_+1,.nil,x=>.done x|n+1,.set y t r,x=>bY m (x.set y t) (aR m n r (x.set y t))|n+1,.put t u r,x=>bY m (x.put t u) (aR m n r (x.put t u))
 |n+1,.tell t r,x=>bY m (x.tell t) (aR m n r (x.tell t))|n+1,.cF t a b r,x=>bY m (x.sp ((t.cost:Int)+1)) (if 0<x.v t then(aR m n a (x.sp ((t.cost:Int)+1))).on λy=>aR m n r y else(aR m n b (x.sp ((t.cost:Int)+1))).on λy=>bY m (y.sp 1) (aR m n r (y.sp 1)))|n+1,.whl t a r,x=>bY m (x.sp ((t.cost:Int)+1)) (if 0<x.v t then(aR m n a (x.sp ((t.cost:Int)+1))).on λy=>bY m (y.sp 1) (aR m n (.whl t a r) (y.sp 1))else bY m (x.sp ((t.cost:Int)+1+1)) (aR m n r (x.sp ((t.cost:Int)+1+1))))
end
variable{m:Int}{g:G7}
theorem iu{x:W7}(h:x.s<=m):bY m x g=g:=if_pos h
theorem oU{x:W7}(h:m<x.s):bY m x g= .over:=if_neg (by omega)
theorem jf{x y:W7}(h:bY m x g= .done y):x.s<=m/\g= .done y:=by
 by_cases q:x.s<=m
 .rw[iu q]at h;exact⟨q,h⟩
 .rw[oU (by omega)]at h;cases h
theorem Dk{f:W7->G7}{y:W7}(h:g.on f= .done y):∃x,g= .done x/\f x= .done y:=by
 cases g with
 |done x=>exact⟨x,rfl,h⟩|over=>cases h|out=>cases h
structure Bd(x y:W7)(f:Int->G7):Prop where
 le:x.s<=y.s
 ok:∀m,y.s<=m->f m= .done y
 ov:∀m,x.s<=m->m<y.s->f m= .over
theorem Bd.lim{x x1 y:W7}{f:Int->G7}(h:x.s<=x1.s)(k:Bd x1 y f):Bd x y λm=>bY m x1 (f m):=
 ⟨Ey h k.le,λm q=>(iu (Ey k.le q)).trans (k.ok m q),λm _ q2=>by
  by_cases z:x1.s<=m
  .exact(iu z).trans (k.ov m z q2)
  .exact oU (by omega)⟩
theorem Bd.on{x y z:W7}{f:Int->G7}{g:Int->W7->G7}(h:Bd x y f)(k:Bd y z λm=>g m y):Bd x z λm=>(f m).on (g m):=
 ⟨Ey h.le k.le,λm q=>by show(f m).on (g m)=_;rw[h.ok m (Ey k.le q)];exact k.ok m q,λm q1 q2=>by
  show(f m).on (g m)=_;by_cases w:y.s<=m
  .rw[h.ok m w];exact k.ov m w q2
  .rw[h.ov m q1 (by omega)];rfl⟩
theorem ZsM:∀(n:Nat) (d:Ds) (x y:W7),aR m n d x= .done y->Bd x y λm=>aR m n d x:=by
 intro n
 induction n with
 |zero=>intro d x y h;cases h|succ n ih=>
  intro d x y h;cases d with
  |nil=>have h:G7.done x= .done y:=h;cases h;exact⟨Int.le_refl _,λ_ _=>rfl,λ_ q1 q2=>by omega⟩|set z t r=>exact Bd.lim (by show x.s<=x.s+(t.cost:Int)+2;omega) (ih r _ _ (jf h).2)|put t u r=>exact Bd.lim (by show x.s<=x.s+(t.cost:Int)+(u.cost:Int)+2;omega) (ih r _ _ (jf h).2)
  |tell t r=>exact Bd.lim (by show x.s<=x.s+(t.cost:Int)+1;omega) (ih r _ _ (jf h).2)|cF t a b r=>
   have h:=(jf h).2;refine Bd.lim (x1:=x.sp ((t.cost:Int)+1)) (by show x.s<=x.s+((t.cost:Int)+1);omega) ?_;by_cases q:0<x.v t
   .rw[if_pos q]at h;obtain⟨z,h1,h2⟩:=Dk h;simp only[if_pos q];exact Bd.on (g:=λm y=>aR m n r y) (ih a _ _ h1) (ih r _ _ h2)
   .rw[if_neg q]at h;obtain⟨z,h1,h2⟩:=Dk h;simp only[if_neg q];exact Bd.on (g:=λm y=>bY m (y.sp 1) (aR m n r (y.sp 1))) (ih b _ _ h1) (Bd.lim (by show z.s<=z.s+1;omega) (ih r _ _ (jf h2).2))
  | whl t a r=>
   have h:=(jf h).2;refine Bd.lim (x1:=x.sp ((t.cost:Int)+1)) (by show x.s<=x.s+((t.cost:Int)+1);omega) ?_;by_cases q:0<x.v t
   .rw[if_pos q]at h;obtain⟨z,h1,h2⟩:=Dk h;simp only[if_pos q];exact Bd.on (g:=λm y=>bY m (y.sp 1) (aR m n (.whl t a r) (y.sp 1))) (ih a _ _ h1) (Bd.lim (by show z.s<=z.s+1;omega) (ih _ _ _ (jf h2).2))
   .rw[if_neg q]at h;simp only[if_neg q];exact Bd.lim (by show x.s+((t.cost:Int)+1)<=x.s+((t.cost:Int)+1+1);omega) (ih r _ _ (jf h).2)
structure F7(x:W7):Prop where
 n:qZ x.n
 c:qZ x.c
 nl:(x.n.length:Int)<=x.s+100
 cl:(x.c.length:Int)<=x.s+100
 ol:(x.o.length:Int)<=x.s+100
 oi:∀d∈x.o,∃z,d= .int z
theorem F7.sp{x:W7}(h:F7 x){k:Int}(hk:0<=k):F7 (x.sp k):=⟨h.n,h.c,by have:=h.nl;show(x.n.length:Int)<=x.s+k+100;omega,by have:=h.cl;show(x.c.length:Int)<=x.s+k+100;omega,by have:=h.ol;show(x.o.length:Int)<=x.s+k+100;omega,h.oi⟩
theorem F7.set{x:W7}(h:F7 x)(y:List Nat)(t:Sm):F7 (x.set y t):=⟨U4 h.n _ _,h.c,by have:=h.nl;have:=U5 (.inr y) (.int (x.v t)) x.n;show((putD _ _ _).length:Int)<=x.s+(t.cost:Int)+2+100;omega,by have:=h.cl;show(x.c.length:Int)<=x.s+(t.cost:Int)+2+100;omega,by have:=h.ol;show(x.o.length:Int)<=x.s+(t.cost:Int)+2+100;omega,h.oi⟩
theorem F7.put{x:W7}(h:F7 x)(t u:Sm):F7 (x.put t u):=⟨h.n,U4 h.c _ _,by have:=h.nl;show(x.n.length:Int)<=x.s+(t.cost:Int)+(u.cost:Int)+2+100;omega,by have:=h.cl;have:=U5 (.inl (x.v t)) (.int (x.v u)) x.c;show((putD _ _ _).length:Int)<=x.s+(t.cost:Int)+(u.cost:Int)+2+100;omega,by have:=h.ol;show(x.o.length:Int)<=x.s+(t.cost:Int)+(u.cost:Int)+2+100;omega,h.oi⟩
theorem F7.tell{x:W7}(h:F7 x)(t:Sm):F7 (x.tell t):=⟨h.n,h.c,by have:=h.nl;show(x.n.length:Int)<=x.s+(t.cost:Int)+1+100;omega,by have:=h.cl;show(x.c.length:Int)<=x.s+(t.cost:Int)+1+100;omega,by have:=h.ol;show((x.o++[_]).length:Int)<=x.s+(t.cost:Int)+1+100;rw[Yt];show((x.o.length+1:Nat):Int)<=_;omega,λd hd=>by
 rcases rT.mp hd with e|e
 .exact h.oi d e
 .exact⟨_,lO.mp e⟩⟩
theorem eY(h:f env M= .ok d M'):aP f env M= .ok d M':=by simp only[aP,h]
theorem jg{f:bU}{d:List D}(h:f env M= .ok d M'):aJ f env M= .ok d M':=by simp only[aJ,h]
theorem Mt{f:S3}{e:Zo}(h:f env M= .nx e M'):gB f env M= .nx e M':=by rw[gB,h]
theorem yQ{f:S3}(h:f env M= .rt d M'):gB f env M= .rt d M':=by rw[gB,h]
theorem HB{f g:S3}{x:X3}(h:f env M= .exc x M'):aq f g env M= .exc x M':=by rw[aq,h]
theorem Mu{ps:Nat}{body:S3}{x:X3}(h:body env M= .exc x M')(hl:ds.length=ps:=by rfl)(he:ds.map Ya++Ye (n-ps) Yh=env:=by rfl):bh ps n body ds M= .exc x M':=by subst he;rw[bh,if_pos hl,h]
theorem ZiU{c:List Nat}{g:bU}{M M1:Store}(h:g env M= .ok [d] M1):Ba c g env M= .exc ⟨c,.ref M1.length⟩ (M1++[.ins (0::c) []]):=by rw[Ba,h]
theorem yR{x:X3}(h:f env M= .exc x M'):Zw f env M= .exc x M':=by rw[Zw,h]
theorem ZkZ{x:X3}(h:f env M= .exc x M'):aF i f env M= .exc x M':=by rw[aF,h]
variable{j:Nat}{cs:List (List Nat)}
theorem ZkA{b g:S3}{env e1 e2:Zo}{M M' M2:Store}{x:X3}(h:b env M= .exc x M')(hc:cs.contains x.cls=true)(hg:g (env.set j (Ya x.arg)) M'= .nx e1 M2)(he:e1.set j Yh=e2):Bb cs j b g env M= .nx e2 M2:=by rw[Bb,h];simp only[hc,if_true,hg,he]
theorem Ve{c m:List Nat}{g:bU}{M M1 M2 M3:Store}{a:D}{x:X3}(h1:o env M= .ok a M1)(hi:tH c m a M1=true)(h2:g env M1= .ok ds M2)(h3:F (a::ds) M2= .exc x M3):bG c m F o g env M= .exc x M3:=by simp only[bG,h1,R3.bind,hi,if_true,h2,h3]
theorem Znn{yes no:List (List Nat)}{c:List Nat}{fs:List (List Nat×D)}(h:M[n]?=Ya (.ins (0::c) fs))(hy:yes.contains c=true):lg yes no (.ref n) M= .ok (.bl true) M:=by simp only[R7,h,hy,if_true]
theorem ZrK{yes no:List (List Nat)}{c:List Nat}{fs:List (List Nat×D)}(h:M[n]?=Ya (.ins (0::c) fs))(hy:yes.contains c=false)(hn:no.contains c=true):lg yes no (.ref n) M= .ok (.bl false) M:=by simp only[R7,h,hy,hn,if_true,Es,if_false]
noncomputable abbrev tZ:List Nat:=[83,112,101,110,116]
def cN(P:Nat->Prop)(M:Store)(r:R3 D):Prop:=∃k M',r= .exc ⟨tZ,.ref k⟩ M'/\M'[k]?=Ya (.ins (0::tZ) [])/\M.length<=M'.length/\∀i,i<M.length->P i->M'[i]?=M[i]?
variable{P:Nat->Prop}
theorem cN.from{M M1:Store}{r:R3 D}(h:cN P M1 r)(hl:M.length<=M1.length)(ho:∀i,i<M.length->P i->M1[i]?=M[i]?):cN P M r:=by obtain⟨k,M',a,b,c,d⟩:=h;exact⟨k,M',a,b,Yv hl c,λi hi hp=>(d i (Yn hi hl) hp).trans (ho i hi hp)⟩
theorem cN.imp{Q:Nat->Prop}{r:R3 D}(h:cN P M r)(k:∀i,i<M.length->Q i->P i):cN Q M r:=by obtain⟨j,M',a,b,c,d⟩:=h;exact⟨j,M',a,b,c,λi hi hq=>d i hi (k i hi hq)⟩
def aW(P:Nat->Prop)(M:Store)(r:O3):Prop:=∃k M',r= .exc ⟨tZ,.ref k⟩ M'/\M'[k]?=Ya (.ins (0::tZ) [])/\M.length<=M'.length/\∀i,i<M.length->P i->M'[i]?=M[i]?
theorem aW.from{M M1:Store}{r:O3}(h:aW P M1 r)(hl:M.length<=M1.length)(ho:∀i,i<M.length->P i->M1[i]?=M[i]?):aW P M r:=by obtain⟨k,M',a,b,c,d⟩:=h;exact⟨k,M',a,b,Yv hl c,λi hi hp=>(d i (Yn hi hl) hp).trans (ho i hi hp)⟩
theorem aW.imp{Q:Nat->Prop}{r:O3}(h:aW P M r)(k:∀i,i<M.length->Q i->P i):aW Q M r:=by obtain⟨j,M',a,b,c,d⟩:=h;exact⟨j,M',a,b,c,λi hi hq=>d i hi (k i hi hq)⟩
theorem aW.seq{f g:S3}(h:aW P M (f env M0)):aW P M (aq f g env M0):=by obtain⟨k,M',a,b⟩:=h;exact⟨k,M',HB a,b⟩
theorem aW.to{cV:Zo}{f g:S3}(e:f env M= .nx cV M0)(h:aW P M (g cV M0)):aW P M (aq f g env M):=by rw[Zk e];exact h
theorem aW.def{body:S3}{ps:Nat}(h:aW P M (body env M))(hl:ds.length=ps:=by rfl)(he:ds.map Ya++Ye (n-ps) Yh=env:=by rfl):cN P M (bh ps n body ds M):=by obtain⟨k,M',a,b⟩:=h;exact⟨k,M',Mu a hl he,b⟩
theorem cN.expr(h:cN P M (f env M0)):aW P M (Zw f env M0):=by obtain⟨k,M',a,b⟩:=h;exact⟨k,M',yR a,b⟩
theorem cN.sets(h:cN P M (f env M0)):aW P M (aF i f env M0):=by obtain⟨k,M',a,b⟩:=h;exact⟨k,M',ZkZ a,b⟩
theorem cN.meth{M M1 M2 M0:Store}{c m:List Nat}{g:bU}{a:D}(h1:o env M0= .ok a M1)(hi:tH c m a M1=true)(h2:g env M1= .ok ds M2)(h:cN P M (F (a::ds) M2)):cN P M (bG c m F (aP o) (aJ g) env M0):=by obtain⟨k,M',e,b⟩:=h;exact⟨k,M',Ve (eY h1) hi (jg h2) e,b⟩
variable{e:bU}
section
variable {a c b w:Nat} {s m:Int} {M:Store}
theorem Zo4(h:M[w]?=Ya (cG a c b s m))(k:Int)(hk:s+k<=m):Zz [.ref w,.int k] M= .ok .non (M.set w (cG a c b (s+k) m)):=by have hw:w<M.length:=(Yf.mp h).1;have h2:(M.set w (cG a c b (s+k) m))[w]?=Ya (cG a c b (s+k) m):=Y2 hw;refine(vf (M':=M.set w (cG a c b (s+k) m)) (env:=[Ya (.ref w),Ya (.int k)]) (env':=[Ya (.ref w),Ya (.int k)]) ?_).trans (Hq (rW ..));unfold Ls;refine(Zk (Mt (jm (Zg (Zg (dU rfl (Hy h)) rfl rfl) rfl (Zsl h (s+k)))))).trans ?_;exact(dh (eY (Zg (dU rfl (Hy h2)) (dU rfl (ZsQ h2)) (by rw[mW,decide_eq_false (by omega)])))).trans rfl
theorem Zq6(h:M[w]?=Ya (cG a c b s m))(k:Int)(hk:m<s+k):cN (· ≠w) M (Zz [.ref w,.int k] M):=by
 have hw:w<M.length:=(Yf.mp h).1;have h2:(M.set w (cG a c b (s+k) m))[w]?=Ya (cG a c b (s+k) m):=Y2 hw;refine aW.def (env:=[Ya (.ref w),Ya (.int k)]) ⟨(M.set w (cG a c b (s+k) m)).length,M.set w (cG a c b (s+k) m)++[.ins (0::tZ) []],?_,dR _ _ [],by simp,λi hi hw'=>?_⟩
 .unfold Ls;refine(Zk (Mt (jm (Zg (Zg (dU rfl (Hy h)) rfl rfl) rfl (Zsl h (s+k)))))).trans ?_;refine(d9 (eY (Zg (dU rfl (Hy h2)) (dU rfl (ZsQ h2)) (by rw[mW,decide_eq_true (by omega)])))).trans (ZiU rfl)
 .rw[Yx (by rw[rW];exact hi),Yj (bW hw')]
theorem yS(h:M[w]?=Ya (cG a c b s m))(k:Int)(hk:s+k<=m)(h0:o env M= .ok (.ref w) M)(he:e env M= .ok [.int k] M):Zw (bG bO yO Zz (aP o) (aJ e)) env M= .nx env (M.set w (cG a c b (s+k) m)):=jm (yP (eY h0) (mC h (by decide)) (jg he) (Zo4 h k hk))
theorem yU(h:M[w]?=Ya (cG a c b s m))(k:Int)(hk:m<s+k)(h0:o env M= .ok (.ref w) M)(he:e env M= .ok [.int k] M):aW (· ≠w) M (Zw (bG bO yO Zz (aP o) (aJ e)) env M):=(cN.meth h0 (mC h (by decide)) he (Zq6 h k hk)).expr
end
variable{it:gA}
theorem ZmZ{i:I3}{own:Nat}{g:G3}{M M1:Store}(h:i env M= .ok it M1):vp i own g f env M=dg it g [] f M1.length it.items (env++Ye own Yh) (M1++[.lst []]):=by rw[vp,h]
section
variable {w a c b:Nat} {m:Int} {nk ck:List (a_×D)} {nv:List Nat->Int} {cv:Int->Int}
def HD(w a c b:Nat)(m:Int)(nk ck:List (a_×D))(nv:List Nat->Int)(cv:Int->Int)(F:F3)(t:Sm):Prop:=
 ∀M s,WS w a c b m nk ck M s->s<=m ->
  (s+(t.cost:Int)<=m->∃M',F [.ref w,.tup t.flat] M= .ok (.int (t.val nv cv)) M'/\eX w M M'/\M'[w]?=Ya (cG a c b (s+(t.cost:Int)) m))/\
  (m<s+(t.cost:Int)->cN (· ≠w) M (F [.ref w,.tup t.flat] M))
noncomputable abbrev wj(F:F3):E3:=bG bO Hx F (aP (Zc 0)) (aJ (Za (Zc 3) (Ze)))
theorem ZnV{items:List D}{pk:Nat}{t:Sm}{ts:List Sm}{acc:List D}{M M1:Store}{T P x:Option D}{v:Int}(hp:M[pk]?=Ya (.lst items))(h1:F [.ref w,.tup t.flat] M= .ok (.int v) M1)(hi:tH bO Hx (.ref w) M=true)(hn1:M1[n]?=Ya (.lst acc))(hz:acc.length<1000):
  dg ⟨items,Ya pk⟩ (bQ 3) [] (wj F) n (.tup t.flat::ts.map λt=>.tup t.flat) [Ya (.ref w),T,P,x] M=dg ⟨items,Ya pk⟩ (bQ 3) [] (wj F) n (ts.map λt=>.tup t.flat) [Ya (.ref w),T,P,Ya (.tup t.flat)] (M1.set n (.lst (acc++[.int v]))):=by
 rw[Kz,if_pos (by show decide _=true;exact decide_eq_true hp)];have he:wj F [Ya (.ref w),T,P,Ya (.tup t.flat)] M= .ok (.int v) M1:=yP (eY rfl) hi (jg rfl) h1;have hlt:acc.length<SZ:=lQ hz (show 1000<SZ by decide);simp only[bQ,nQ,nR,Ky,R3.jF,if_true,he,hn1,if_pos hlt]
theorem Zn5{items:List D}{pk:Nat}(hpn:pk≠n):∀(ts:List Sm),(∀t∈ts,HD w a c b m nk ck nv cv F t)->∀(acc:List D) (M:Store) (s:Int) (T P x:Option D),M[n]?=Ya (.lst acc)->M[pk]?=Ya (.lst items)->WS w a c b m nk ck M s->s<=m->acc.length+ts.length<1000 ->
  (s+((ts.map Sm.cost).sum:Int)<=m->∃M',dg ⟨items,Ya pk⟩ (bQ 3) [] (wj F) n (ts.map λt=>.tup t.flat) [Ya (.ref w),T,P,x] M= .ok (.ref n) M'/\M'[n]?=Ya (.lst (acc++ts.map λt=>.int (t.val nv cv)))/\M.length<=M'.length/\(∀i,i<M.length->i≠w->i≠n->M'[i]?=M[i]?)/\M'[w]?=Ya (cG a c b (s+((ts.map Sm.cost).sum:Int)) m))/\
  (m<s+((ts.map Sm.cost).sum:Int)->cN (λi=>i≠w/\i≠n) M (dg ⟨items,Ya pk⟩ (bQ 3) [] (wj F) n (ts.map λt=>.tup t.flat) [Ya (.ref w),T,P,x] M)):=by
 intro ts
 induction ts with
 |nil=>intro _ acc M s T P x hn hp ws hs hz;refine⟨λ_=>⟨M,?_,by simpa using hn,Yl _,λ_ _ _ _=>rfl,by simpa using ws.ob⟩,λh=>by simp at h;omega⟩;rw[xj,RP,if_pos (by show decide _=true;exact decide_eq_true hp)]|cons t ts ih=>
  intro ht acc M s T P x hn hp ws hs hz;have es:s+(((t::ts).map Sm.cost).sum:Int)=s+(t.cost:Int)+((ts.map Sm.cost).sum:Int):=by rw[Y9,List.sum_cons,Jo,Jp]
  rw[es];have hi:tH bO Hx (.ref w) M=true:=mC ws.ob (by decide);by_cases hc:s+(t.cost:Int)<=m
  .obtain⟨M1,h1,g1,e1⟩:=(ht t Yw M s ws hs).1 hc;have wk:=ws.uo g1 e1;have hnw:n≠w:=λe=>by have:=ws.ob;rw[←e,hn]at this;cases this
   have hpw:pk≠w:=λe=>by have:=ws.ob;rw[←e,hp]at this;cases this
   have hn1:=g1.at hn hnw;have hln:n<M1.length:=(Yf.mp hn1).1;have hp1:=g1.at hp hpw;have nq:WS w a c b m nk ck (M1.set n (.lst (acc++[.int (t.val nv cv)]))) (s+(t.cost:Int)):=by
    have na:n≠a:=λe=>by have:=wk.nm;rw[←e,hn1]at this;cases this
    have nc:n≠c:=λe=>by have:=wk.cl;rw[←e,hn1]at this;cases this
    exact⟨by rw[Yj hnw];exact wk.ob,by rw[Yj na];exact wk.nm,by rw[Yj nc];exact wk.cl,wk.ac⟩
   have hst:=ZnV (items:=items) (pk:=pk) (n:=n) (t:=t) (ts:=ts) (acc:=acc) (T:=T) (P:=P) (x:=x) hp h1 hi hn1 (by omega);have hl1:M.length<=(M1.set n (.lst (acc++[.int (t.val nv cv)]))).length:=by rw[rW];exact g1.len
   have ho1:∀i,i<M.length->i≠w->i≠n->(M1.set n (.lst (acc++[.int (t.val nv cv)])))[i]?=M[i]?:=λi hi h2 h3=>by rw[Yj (bW h3)];exact g1.old i hi h2
   obtain⟨r1,r2⟩:=ih (λt' h'=>ht t' (Yp _ h')) (acc++[.int (t.val nv cv)]) (M1.set n (.lst (acc++[.int (t.val nv cv)]))) (s+(t.cost:Int)) T P (Ya (.tup t.flat)) (Y2 hln) (by rw[Yj (bW hpn)];exact hp1) nq hc (by simp at hz ⊢;omega);rw[Y9,hst];refine⟨λhs2=>?_,λhs2=>(r2 hs2).from hl1 λi hi q=>ho1 i hi q.1 q.2⟩;obtain⟨M',h2,h3,h4,h5,h6⟩:=r1 hs2;exact⟨M',h2,by simpa using h3,Yv hl1 h4,λi hi hw hn'=>(h5 i (Yn hi hl1) hw hn').trans (ho1 i hi hw hn'),h6⟩
  .refine⟨λh=>by omega,λ_=>?_⟩;obtain⟨k,M',e,q1,q2,q3⟩:=(ht t Yw M s ws hs).2 (by omega);refine⟨k,M',?_,q1,q2,λi hi hq=>q3 i hi hq.1⟩;rw[Y9,Kz,if_pos (by show decide _=true;exact decide_eq_true hp)];have he:wj F [Ya (.ref w),T,P,Ya (.tup t.flat)] M= .exc ⟨tZ,.ref k⟩ M':=Ve (eY rfl) hi (jg rfl) e;simp only[bQ,nQ,nR,Ky,R3.jF,if_true,he,R3.bind]
end
theorem aW.Vf{M M0 M1:Store}{c:E3}{f g:S3}(h:c env M0= .ok (.bl true) M1)(k:aW P M (f env M1)):aW P M (aV c f g env M0):=by rw[d9 h];exact k
theorem nD{c:E3}{f:S3}{M M1:Store}(h:c env M= .ok (.bl false) M1):aV (aP c) f (gB fQ) env M= .nx env M1:=(dh (eY h)).trans rfl
section
variable {w a c b:Nat} {m:Int} {nk ck:List (a_×D)} {nv:List Nat->Int} {cv:Int->Int}
noncomputable def Sm.own:Sm->Int
 | .num _=>1|.bR _=>2|.gD _=>2|.two _ _ _=>1
theorem ZpI(t:Sm):(t.cost:Int)=((t.parts.map Sm.cost).sum:Int)+t.own:=by
 cases t with
 |num _=>rfl|bR _=>rfl|gD a=>simp[Sm.parts,Sm.cost,Sm.own]|two o a b=>simp[Sm.parts,Sm.cost,Sm.own]
theorem ZlY{rec:Nat->F3}{t:Sm}(hg:t.good)(hl:t.flat.length<=500)(hN:∀x,(dD nk (.inr x)).getD (.int 0)= .int (nv x))(hC:∀i,(dD ck (.inl i)).getD (.int 0)= .int (cv i))(hr:∀p∈t.parts,HD w a c b m nk ck nv cv (rec 0) p):
  HD w a c b m nk ck nv cv (bh 2 3 (vX rec)) t:=by
 intro M s ws hs0;obtain⟨G,k,hp,hG⟩:=Zqp M t hg hl
 let M1:=M++G
 have hpk:M1[M.length+k]?=Ya (.lst (t.parts.map λt=>.tup t.flat)):=(vg M G k).trans hG;have hpl:M.length+k<M1.length:=(Yf.mp hpk).1;have g1:eX w M M1:=eX.app w M G;have wk:WS w a c b m nk ck (M1++[.lst []]) s:=ws.uo (g1.trans (eX.app w M1 _)) (iC (iC ws.ob G) _);have hn0:(M1++[MO.lst []])[M1.length]?=Ya (.lst []):=dR M1 _ [];have hco:=ZpI t;have AfW:t.parts.length<=2:=by cases t<;>simp[Sm.parts]
 have hit:kY (Zu yr (Za (Zc 1) (Ze))) [Ya (.ref w),Ya (.tup t.flat),Yh] M= .ok ⟨t.parts.map λt=>.tup t.flat,Ya (M.length+k)⟩ M1:=by show(Zu yr (Za (Zc 1) (Ze)) [Ya (.ref w),Ya (.tup t.flat),Yh] M).bind _=_;rw[Aw rfl hp,R3.jF];show(match M1[M.length+k]? with|some (.lst ds)=>R3.ok (⟨ds,Ya (M.length+k)⟩:gA) M1|_=>R3.bad)=_;rw[hpk]
 have Adj:w<M1.length:=Yn ws.lt g1.len;obtain⟨cok,cex⟩:=Zn5 (F:=rec 0) (nv:=nv) (cv:=cv) (items:=t.parts.map λt=>.tup t.flat) (pk:=M.length+k) (n:=M1.length) (eF hpl) t.parts hr [] (M1++[.lst []]) s (Ya (.tup t.flat)) Yh Yh hn0 (iC hpk _) wk hs0 (by simp;omega);by_cases hsum:s+((t.parts.map Sm.cost).sum:Int)<=m
 .obtain⟨M2,h1,h2,h3,h4,h5⟩:=cok hsum;rw[qj]at h2;have g2:eX w M M2:=⟨Yv g1.len (Yv (by simp) h3),λi hi hw=>by
   have hi1:i<M1.length:=Yn hi g1.len;rw[h4 i (by rw[Yt];omega) hw (eF hi1),Yx hi1];exact g1.old i hi hw⟩
  have nq:WS w a c b m nk ck M2 (s+((t.parts.map Sm.cost).sum:Int)):=ws.uo g2 h5;have s1:aF 2 (vp (kY (Zu yr (Za (Zc 1) (Ze)))) 1 (bQ 3) (wj (rec 0))) [Ya (.ref w),Ya (.tup t.flat),Yh] M= .nx [Ya (.ref w),Ya (.tup t.flat),Ya (.ref M1.length)] M2:=bN (d:=.ref M1.length) ((ZmZ hit).trans h1);have hlen:aU bM (Za (Zc 2) (Ze)) [Ya (.ref w),Ya (.tup t.flat),Ya (.ref M1.length)] M2= .ok (.int (t.parts.length:Int)) M2:=by refine je rfl ?_;rw[vm h2,iz]
  have hnw:M1.length≠w:=uH Adj;refine⟨λhs=>?_,λhs=>?_⟩
  .have hk:s+((t.parts.map Sm.cost).sum:Int)+t.own<=m:=by omega
   let M3:=M2.set w (cG a c b (s+((t.parts.map Sm.cost).sum:Int)+t.own) m)
   have gs:=eX.set w M2 (cG a c b (s+((t.parts.map Sm.cost).sum:Int)+t.own) m);have g3:eX w M M3:=g2.trans gs;have w3:WS w a c b m nk ck M3 (s+((t.parts.map Sm.cost).sum:Int)+t.own):=nq.uo gs (Y2 nq.lt);have n3:M3[M1.length]?=Ya (.lst (t.parts.map λt=>.int (t.val nv cv))):=gs.at h2 hnw;have fin:vX rec [Ya (.ref w),Ya (.tup t.flat),Yh] M= .rt (.int (t.val nv cv)) M3->∃M',bh 2 3 (vX rec) [.ref w,.tup t.flat] M= .ok (.int (t.val nv cv)) M'/\eX w M M'/\M'[w]?=Ya (cG a c b (s+(t.cost:Int)) m):=λhb=>by obtain⟨M4,e4,l4,o4⟩:=Hz M M3 (.int (t.val nv cv)) g3.len;exact⟨M4,(jd (env:=[Ya (.ref w),Ya (.tup t.flat),Yh]) hb).trans e4,⟨l4,λi hi hw=>(o4 i hi).trans (g3.old i hi hw)⟩,by rw[o4 w ws.lt,hco,←Jp];exact w3.ob⟩
   refine fin ?_;unfold vX;refine(Zk s1).trans ?_;cases t with
   |two o x y=>refine xP ((d9 (eY (Zg hlen rfl (k_ rfl)))).trans ((Zk (yS nq.ob 1 hk rfl rfl)).trans (yQ (h_ ?_))));exact vh (Zg rfl rfl (tD (yI _))) (Zg rfl rfl (jy n3 rfl)) (Zg rfl rfl (jy n3 rfl)) (Zoa o _ _ _)|gD x=>refine(Zk (nD (Zg hlen rfl (iR (show¬((1:Nat):Int)=2 by decide))))).trans (xP ((d9 (eY (Zg hlen rfl (k_ rfl)))).trans ((Zk (yS nq.ob 2 hk rfl rfl)).trans (yQ (h_ ?_)))));have hidx:e2 Zr (Zc 2) (eC (.int 0)) [Ya (.ref w),Ya (.tup (Sm.gD x).flat),Ya (.ref M1.length)] M3= .ok (.int (x.val nv cv)) M3:=Zg rfl rfl (jy n3 rfl);refine U3 (a:=.ref c) (M1:=M3) (M2:=M3) (M3:=M3) (dU rfl (ZsC w3.ob)) (by rw[Kv,w3.cl];rfl) (Zm hidx (Zm rfl rfl)) ?_;rw[RN,w3.cl];show R3.ok ((dD ck (.inl (x.val nv cv))).getD (.int 0)) _=_;rw[hC];rfl|num i=>exact(Zk (nD (Zg hlen rfl (iR (show¬((0:Nat):Int)=2 by decide))))).trans ((Zk (nD (Zg hlen rfl (iR (show¬((0:Nat):Int)=1 by decide))))).trans (xP ((d9 (eY (dU (Zg rfl rfl (tD (yI _))) (show m8 .int (.int i) M2= .ok (.bl true) M2 from rfl)))).trans ((Zk (yS nq.ob 1 hk rfl rfl)).trans (yQ (h_ (Zg rfl rfl (tD (yI _)))))))))|bR x=>refine(Zk (nD (Zg hlen rfl (iR (show¬((0:Nat):Int)=2 by decide))))).trans ((Zk (nD (Zg hlen rfl (iR (show¬((0:Nat):Int)=1 by decide))))).trans ((Zk (nD (dU (Zg rfl rfl (tD (yI _))) (show m8 .int (.str x) M2= .ok (.bl false) M2 from rfl)))).trans ((Zk (yS nq.ob 2 hk rfl rfl)).trans (yQ (h_ ?_)))));refine U3 (a:=.ref a) (M1:=M3) (M2:=M3) (M3:=M3) (dU rfl (ZsD w3.ob)) (by rw[Kv,w3.nm];rfl) (Zm (Zg rfl rfl (tD (yI _))) (Zm rfl rfl)) ?_;rw[show(Sm.bR x).head= .str x from rfl,RN,w3.nm];show R3.ok ((dD nk (.inr x)).getD (.int 0)) _=_;rw[hN];rfl
  .have hk:m<s+((t.parts.map Sm.cost).sum:Int)+t.own:=by omega
   refine aW.def (env:=[Ya (.ref w),Ya (.tup t.flat),Yh]) ?_;unfold vX;refine aW.to s1 (aW.from ?_ g2.len λi hi hw=>g2.old i hi hw);cases t with
   |two o x y=>exact(aW.Vf (eY (Zg hlen rfl (k_ rfl))) (yU nq.ob 1 hk rfl rfl).seq).seq|gD x=>exact aW.to (nD (Zg hlen rfl (iR (show¬((1:Nat):Int)=2 by decide)))) (aW.Vf (eY (Zg hlen rfl (k_ rfl))) (yU nq.ob 2 hk rfl rfl).seq).seq|num i=>exact aW.to (nD (Zg hlen rfl (iR (show¬((0:Nat):Int)=2 by decide)))) (aW.to (nD (Zg hlen rfl (iR (show¬((0:Nat):Int)=1 by decide)))) (aW.Vf (eY (dU (Zg rfl rfl (tD (yI _))) (show m8 .int (.int i) M2= .ok (.bl true) M2 from rfl))) (yU nq.ob 1 hk rfl rfl).seq).seq)|bR x=>exact aW.to (nD (Zg hlen rfl (iR (show¬((0:Nat):Int)=2 by decide)))) (aW.to (nD (Zg hlen rfl (iR (show¬((0:Nat):Int)=1 by decide)))) (aW.to (nD (dU (Zg rfl rfl (tD (yI _))) (show m8 .int (.str x) M2= .ok (.bl false) M2 from rfl))) (yU nq.ob 2 hk rfl rfl).seq))
 .refine⟨λhs=>?_,λ_=>?_⟩
  .have:0<=t.own:=by cases t<;>simp[Sm.own]
   omega
  .refine aW.def (env:=[Ya (.ref w),Ya (.tup t.flat),Yh]) ?_;unfold vX;have q:=cex (by omega);have q2:cN (· ≠w) M (dg ⟨t.parts.map λt=>.tup t.flat,Ya (M.length+k)⟩ (bQ 3) [] (wj (rec 0)) M1.length (t.parts.map λt=>.tup t.flat) [Ya (.ref w),Ya (.tup t.flat),Yh,Yh] (M1++[.lst []])):=by
    obtain⟨j,M',e1,e2,e3,e4⟩:=q;refine⟨j,M',e1,e2,Yv g1.len (Yv (by simp) e3),λi hi hw=>?_⟩;have hi1:i<M1.length:=Yn hi g1.len;rw[e4 i (by rw[Yt];omega) ⟨hw,eF hi1⟩,Yx hi1];exact g1.old i hi hw
   refine aW.seq (cN.sets ?_);rw[ZmZ hit];exact q2
theorem Zoq(hN:∀x,(dD nk (.inr x)).getD (.int 0)= .int (nv x))(hC:∀i,(dD ck (.inl i)).getD (.int 0)= .int (cv i)):∀(n:Nat) (t:Sm),t.good->t.flat.length<=n->n<=500->HD w a c b m nk ck nv cv (Lw n 0) t:=by
 intro n
 induction n with
 |zero=>intro t _ h _;obtain⟨x,r,e⟩:=UL t;rw[e,Yo]at h;omega|succ n ih=>intro t hg hl hn;exact ZlY hg (by omega) hN hC λp hp=>ih p (ZnN hg hp) (by have:=ZrN hp;omega) (by omega)
theorem value_eq{t:Sm}(hg:t.good)(hl:t.flat.length<=13)(hN:∀x,(dD nk (.inr x)).getD (.int 0)= .int (nv x))(hC:∀i,(dD ck (.inl i)).getD (.int 0)= .int (cv i)):HD w a c b m nk ck nv cv qU t:=Zoq hN hC 13 t hg hl (by omega)
end
noncomputable abbrev DOD:List Nat:=[100,111,95,100,101,101,100]
noncomputable abbrev Vg:List Nat:=[105,115,95,97,98,111,118,101]
noncomputable abbrev GTH:List Nat:=[103,111,95,116,104,114,111,117,103,104]
abbrev P4(w a c b i:Nat):Prop:=i≠w/\i≠a/\i≠c/\i≠b
structure iG(w a c b:Nat)(M M':Store):Prop where
 len:M.length<=M'.length
 old:∀i,i<M.length->P4 w a c b i->M'[i]?=M[i]?
theorem iG.rfl:iG w a c b M M:=⟨Yl _,λ_ _ _=>Eq.refl _⟩
theorem iG.trans{M M1 M2:Store}(h:iG w a c b M M1)(k:iG w a c b M1 M2):iG w a c b M M2:=⟨Yv h.len k.len,λi hi p=>(k.old i (Yn hi h.len) p).trans (h.old i hi p)⟩
theorem eX.nF(h:eX w M M'):iG w a c b M M':=⟨h.len,λi hi p=>h.old i hi p.1⟩
theorem Zvh(w a c b:Nat)(M:Store)(o:MO):iG w a c b M (M.set a o):=⟨by simp,λi _ p=>Yj (bW p.2.1)⟩
theorem Zwz(w a c b:Nat)(M:Store)(o:MO):iG w a c b M (M.set c o):=⟨by simp,λi _ p=>Yj (bW p.2.2.1)⟩
theorem ZwB(w a c b:Nat)(M:Store)(o:MO):iG w a c b M (M.set b o):=⟨by simp,λi _ p=>Yj (bW p.2.2.2)⟩
theorem aW.w4{r:O3}(h:aW (· ≠w) M r):aW (P4 w a c b) M r:=h.imp λ_ _ p=>p.1
theorem cN.w4{r:R3 D}(h:cN (· ≠w) M r):cN (P4 w a c b) M r:=h.imp λ_ _ p=>p.1
theorem aW.wu{M M1:Store}{r:O3}(g:iG w a c b M M1)(h:aW (P4 w a c b) M1 r):aW (P4 w a c b) M r:=h.from g.len g.old
structure WR(w a c b:Nat)(m:Int)(x:W7)(M:Store):Prop where
 ws:WS w a c b m x.n x.c M x.s
 nb:M[b]?=Ya (.lst x.o)
variable{e0:Option D}{y:List Nat}
section
variable {w a c b:Nat} {m:Int} {x:W7} {M:Store}
theorem WR.bw(h:WR w a c b m x M):b≠w:=λe=>by have:=h.ws.ob;rw[←e,h.nb]at this;cases this
theorem WR.bc(h:WR w a c b m x M):b≠c:=λe=>by have:=h.ws.cl;rw[←e,h.nb]at this;cases this
theorem WR.ba(h:WR w a c b m x M):b≠a:=λe=>by have:=h.ws.nm;rw[←e,h.nb]at this;cases this
theorem WR.uo{k:Int}(h:WR w a c b m x M)(g:eX w M M')(e:M'[w]?=Ya (cG a c b (x.s+k) m)):WR w a c b m (x.sp k) M':=⟨h.ws.uo g e,g.at h.nb h.bw⟩
theorem WR.N8(h:WR w a c b m x M)(k:Int):WR w a c b m (x.sp k) (M.set w (cG a c b (x.s+k) m)):=h.uo (eX.set w M _) (Y2 h.ws.lt)
theorem WR.yV(h:WR w a c b m x M):w<M.length/\a<M.length/\c<M.length/\b<M.length:=⟨(Yf.mp h.ws.ob).1,(Yf.mp h.ws.nm).1,(Yf.mp h.ws.cl).1,(Yf.mp h.nb).1⟩
theorem WR.AcV(h:WR w a c b m x M)(nk:List (a_×D)):WR w a c b m ⟨nk,x.c,x.o,x.s⟩ (M.set a (.dct nk)):=⟨⟨by rw[Yj h.ws.aw];exact h.ws.ob,Y2 h.yV.2.1,by rw[Yj h.ws.ac];exact h.ws.cl,h.ws.ac⟩,by rw[Yj (bW h.ba)];exact h.nb⟩
theorem WR.AcW(h:WR w a c b m x M)(ck:List (a_×D)):WR w a c b m ⟨x.n,ck,x.o,x.s⟩ (M.set c (.dct ck)):=⟨⟨by rw[Yj h.ws.cw];exact h.ws.ob,by rw[Yj (bW h.ws.ac)];exact h.ws.nm,Y2 h.yV.2.2.1,h.ws.ac⟩,by rw[Yj (bW h.bc)];exact h.nb⟩
theorem WR.AcX(h:WR w a c b m x M)(o:List D):WR w a c b m ⟨x.n,x.c,o,x.s⟩ (M.set b (.lst o)):=⟨⟨by rw[Yj h.bw];exact h.ws.ob,by rw[Yj h.ba];exact h.ws.nm,by rw[Yj h.bc];exact h.ws.cl,h.ws.ac⟩,Y2 h.yV.2.2.2⟩
theorem WR.tidy{M2 M0:Store}(h:WR w a c b m x M){x0:W7}(h0:WR w a c b m x0 M0)(o:∀i,i<M0.length->M2[i]?=M[i]?):WR w a c b m x M2:=⟨⟨(o w h0.yV.1).trans h.ws.ob,(o a h0.yV.2.1).trans h.ws.nm,(o c h0.yV.2.2.1).trans h.ws.cl,h.ws.ac⟩,(o b h0.yV.2.2.2).trans h.nb⟩
def aZ(w a c b:Nat)(m:Int)(F:R3 D)(M:Store)(g:G7):Prop:=(∀y,g= .done y->∃M',F= .ok .non M'/\WR w a c b m y M'/\iG w a c b M M')/\(g= .over->cN (P4 w a c b) M F)
def fH(w a c b:Nat)(m:Int)(r:O3)(M:Store)(g:G7):Prop:=(∀y,g= .done y->∃e M',r= .nx e M'/\WR w a c b m y M'/\iG w a c b M M')/\(g= .over->aW (P4 w a c b) M r)
theorem fH.def{body:S3}{ps N:Nat}{x0:W7}(h0:WR w a c b m x0 M)(h:fH w a c b m (body env M) M g)(hl:ds.length=ps:=by rfl)(he:ds.map Ya++Ye (N-ps) Yh=env:=by rfl):aZ w a c b m (bh ps N body ds M) M g:=by refine⟨λy e=>?_,λe=>aW.def (h.2 e) hl he⟩;obtain⟨e',M',h1,h2,h3⟩:=h.1 y e;obtain⟨M2,e2,l2,o2⟩:=Hz M M' .non h3.len;exact⟨M2,(vf h1 hl he).trans e2,h2.tidy h0 o2,l2,λi hi p=>(o2 i hi).trans (h3.old i hi p)⟩
theorem aZ.st{me:List Nat}{gl:bU}(h:aZ w a c b m (F (.ref w::ds) M) M g)(h0:WR w a c b m x M)(hm:([oR,rA,v_,wg,yN].contains me)=false)(ho:o env M= .ok (.ref w) M)(hg:gl env M= .ok ds M):fH w a c b m (Zw (bG bO me F (aP o) (aJ gl)) env M) M g:=by refine⟨λy e=>?_,λe=>(cN.meth ho (mC h0.ws.ob hm) hg (h.2 e)).expr⟩;obtain⟨M',h1,h2,h3⟩:=h.1 y e;exact⟨env,M',jm (yP (eY ho) (mC h0.ws.ob hm) (jg hg) h1),h2,h3⟩
theorem HF{t:Sm}(ht:t.ok)(hx:F7 x)(h:WR w a c b m x M)(hs:x.s<=m){g:E3}(ho:o env M= .ok (.ref w) M)(hg:g env M= .ok (.tup t.flat) M):
  (x.s+(t.cost:Int)<=m->∃M',bG bO Hx qU (aP o) (aJ (Za g Ze)) env M= .ok (.int (x.v t)) M'/\eX w M M'/\WR w a c b m (x.sp (t.cost:Int)) M')/\
  (m<x.s+(t.cost:Int)->cN (P4 w a c b) M (bG bO Hx qU (aP o) (aJ (Za g Ze)) env M)):=by
 obtain⟨h1,h2⟩:=value_eq (nv:=λy=>intOf x.n (.inr y)) (cv:=λi=>intOf x.c (.inl i)) ht.1 ht.2 (λ_=>hx.n.get _) (λ_=>hx.c.get _) M x.s h.ws hs;refine⟨λq=>?_,λq=>cN.meth ho (mC h.ws.ob (by decide)) (Zm hg rfl) (h2 q).w4⟩;obtain⟨M',e1,e2,e3⟩:=h1 q;exact⟨M',yP (eY ho) (mC h.ws.ob (by decide)) (jg (Zm hg rfl)) e1,e2,h.uo e2 e3⟩
theorem Vh(h:WR w a c b m x M)(k:Int)(h0:o env M= .ok (.ref w) M)(he:e env M= .ok [.int k] M):fH w a c b m (Zw (bG bO yO Zz (aP o) (aJ e)) env M) M (bY m (x.sp k) (.done (x.sp k))):=by
 refine⟨λy q=>?_,λq=>?_⟩
 .obtain⟨q1,q2⟩:=jf q;cases q2;exact⟨env,_,yS h.ws.ob k q1 h0 he,h.N8 k,(eX.set w M _).nF⟩
 .by_cases z:(x.sp k).s<=m
  .rw[iu z]at q;cases q
  .exact(yU h.ws.ob k (by have:(x.sp k).s=x.s+k:=rfl;omega) h0 he).w4
theorem fH.to{f g:S3}{env e1:Zo}{M1:Store}{q:G7}(e:f env M= .nx e1 M1)(gr:iG w a c b M M1)(h:fH w a c b m (g e1 M1) M1 q):fH w a c b m (aq f g env M) M q:=by rw[Zk e];refine⟨λy z=>?_,λz=>(h.2 z).wu gr⟩;obtain⟨e',M',h1,h2,h3⟩:=h.1 y z;exact⟨e',M',h1,h2,gr.trans h3⟩
theorem fH.over{r:O3}{x1:W7}(h:aW (P4 w a c b) M r)(q:m<x1.s):fH w a c b m r M (bY m x1 g):=by rw[oU q];exact⟨λy z=>(by cases z),λ_=>h⟩
theorem Zqg{i:E3}{M1:Store}{kd:D}{k:a_}(hf:f env M= .ok d M1)(ho:o env M1= .ok (.ref n) M1)(hi:i env M1= .ok kd M1)(hk:gF kd=Ya k)(hn:M1[n]?=Ya (.dct kvs))(hl:kvs.length<2000):vo o i f env M= .nx env (M1.set n (.dct (putD k d kvs))):=by
 have Adk:FP d (.ref n) kd M1= .ok .non (M1.set n (.dct (putD k d kvs))):=by rw[Zjj,hn,hk];exact if_pos (lQ hl (by decide))
 rw[vo,hf];exact Mt (show Zw (e3 FP _ _ _) _ _=_ from jm (ZxI rfl ho hi Adk))
theorem Zm2{i:E3}(h:cN P M (f env M)):aW P M (vo o i f env M):=by obtain⟨k,M',e,r⟩:=h;exact⟨k,M',by rw[vo,e],r⟩
theorem Zvt{M1:Store}{xs0:List D}(ho:o env M= .ok (.ref n) M)(hM:M[n]?=Ya (.lst xs0))(hf:f env M= .ok d M1)(hn:M1[n]?=Ya (.lst xs))(hl:xs.length<2000):Zw (xU o f) env M= .nx env (M1.set n (.lst (xs++[d]))):=by
 refine jm (d:=.non) ?_;have ht:bI (.ref n) M=true:=by rw[Ao,hM]
 have ha:cj (.ref n) [d] M1= .ok .non (M1.set n (.lst (xs++[d]))):=by rw[Ks,hn];exact if_pos (lQ hl (by decide))
 simp only[xU,eY ho,ht,if_true,hf];exact eY ha
theorem ZtJ{xs0:List D}(ho:o env M= .ok (.ref n) M)(hM:M[n]?=Ya (.lst xs0))(h:cN P M (f env M)):aW P M (Zw (xU o f) env M):=by
 obtain⟨k,M',e,r⟩:=h;refine⟨k,M',yR ?_,r⟩;have ht:bI (.ref n) M=true:=by rw[Ao,hM]
 simp only[xU,eY ho,ht,if_true,e]
theorem pX{z:List Nat}{r:List D}(h:y≠z){er:List (Option D)}(he:env=e0::Ya (.tup (.str y::r))::er):aP (e2 bL (e2 Zr (Zc 1) (eC (.int 0))) (eC (.str z))) env M= .ok (.bl false) M:=by subst he;exact eY (Zg (Zg rfl rfl (tD ((kZ (D.str y::r) 0).trans rfl))) rfl (yG h))
theorem HJ{r:List D}{er:List (Option D)}(he:env=e0::Ya (.tup (.str y::r))::er):aP (e2 bL (e2 Zr (Zc 1) (eC (.int 0))) (eC (.str y))) env M= .ok (.bl true) M:=by subst he;exact eY (Zg (Zg rfl rfl (tD ((kZ (D.str y::r) 0).trans rfl))) rfl (Hr rfl))
end
section
variable {w a c b:Nat} {m:Int} {x:W7} {M:Store}
theorem Zug(rec:Nat->F3){t:Sm}(ht:t.ok)(hx:F7 x)(h:WR w a c b m x M)(hs:x.s<=m)(hm:m<=1000):aZ w a c b m (bh 2 3 (lZ rec) [.ref w,Dc y t] M) M (bY m (x.set y t) (.done (x.set y t))):=by
 refine fH.def (env:=[Ya (.ref w),Ya (Dc y t),Yh]) h ?_;unfold lZ;rw[dh (pX (by decide) rfl),dh (pX (by decide) rfl),dh (pX (by decide) rfl),d9 (HJ rfl)];have hval:=HF ht hx h hs (o:=Zc 0) (g:=e2 Zr (Zc 1) (eC (.int 2))) (env:=[Ya (.ref w),Ya (Dc y t),Yh]) rfl rfl;by_cases hc:x.s+(t.cost:Int)<=m
 .obtain⟨M1,e1,g1,w1⟩:=hval.1 hc;have hl:=hx.nl;refine fH.to (Zqg (k:=.inr y) e1 (dU rfl (ZsD w1.ws.ob)) rfl rfl w1.ws.nm (by show x.n.length<2000;omega)) (g1.nF.trans (Zvh w a c b M1 _)) ?_;exact Vh (w1.AcV _) 2 rfl rfl
 .exact fH.over (Zm2 (hval.2 (by omega))).seq (by show m<x.s+(t.cost:Int)+2;omega)
theorem Zuu(rec:Nat->F3){t u:Sm}(ht:t.ok)(hu:u.ok)(hx:F7 x)(h:WR w a c b m x M)(hs:x.s<=m)(hm:m<=1000):aZ w a c b m (bh 2 3 (lZ rec) [.ref w,Dd t u] M) M (bY m (x.put t u) (.done (x.put t u))):=by
 refine fH.def (env:=[Ya (.ref w),Ya (Dd t u),Yh]) h ?_;unfold lZ;rw[dh (pX (by decide) rfl),dh (pX (by decide) rfl),d9 (HJ rfl)];have hval:=HF ht hx h hs (o:=Zc 0) (g:=e2 Zr (Zc 1) (eC (.int 1))) (env:=[Ya (.ref w),Ya (Dd t u),Yh]) rfl rfl;by_cases hc:x.s+(t.cost:Int)<=m
 .obtain⟨M1,e1,g1,w1⟩:=hval.1 hc;refine fH.to (bN e1) g1.nF ?_;have Wt:=HF hu (hx.sp (k:=(t.cost:Int)) (by omega)) w1 hc (o:=Zc 0) (g:=e2 Zr (Zc 1) (eC (.int 2))) (env:=[Ya (.ref w),Ya (Dd t u),Ya (.int (x.v t))]) rfl rfl;by_cases hc2:x.s+(t.cost:Int)+(u.cost:Int)<=m
  .obtain⟨M2,e2',g2,w2⟩:=Wt.1 hc2;have hl:=hx.cl;refine fH.to (Zqg (k:=.inl (x.v t)) e2' (dU rfl (ZsC w2.ws.ob)) rfl rfl w2.ws.cl (by show x.c.length<2000;omega)) (g2.nF.trans (Zwz w a c b M2 _)) ?_;exact Vh (w2.AcW _) 2 rfl rfl
  .exact fH.over (Zm2 (Wt.2 (by show m<x.s+(t.cost:Int)+(u.cost:Int);omega))).seq (by show m<x.s+(t.cost:Int)+(u.cost:Int)+2;omega)
 .exact fH.over (cN.sets (hval.2 (by omega))).seq (by show m<x.s+(t.cost:Int)+(u.cost:Int)+2;omega)
theorem Zrr(rec:Nat->F3){t:Sm}(ht:t.ok)(hx:F7 x)(h:WR w a c b m x M)(hs:x.s<=m)(hm:m<=1000):aZ w a c b m (bh 2 3 (lZ rec) [.ref w,Hv t] M) M (bY m (x.tell t) (.done (x.tell t))):=by
 refine fH.def (env:=[Ya (.ref w),Ya (Hv t),Yh]) h ?_;unfold lZ;rw[dh (pX (by decide) rfl),dh (pX (by decide) rfl),dh (pX (by decide) rfl),dh (pX (by decide) rfl)];have hval:=HF ht hx h hs (o:=Zc 0) (g:=e2 Zr (Zc 1) (eC (.int 1))) (env:=[Ya (.ref w),Ya (Hv t),Yh]) rfl rfl;by_cases hc:x.s+(t.cost:Int)<=m
 .obtain⟨M1,e1,g1,w1⟩:=hval.1 hc;have hl:=hx.ol;refine fH.to (Zvt (dU rfl (Vd h.ws.ob)) h.nb e1 w1.nb (by show x.o.length<2000;omega)) (g1.nF.trans (ZwB w a c b M1 _)) ?_;exact Vh (w1.AcX _) 1 rfl rfl
 .exact fH.over (ZtJ (dU rfl (Vd h.ws.ob)) h.nb (hval.2 (by omega))).seq (by show m<x.s+(t.cost:Int)+1;omega)
theorem Zli{t:Sm}(ht:t.ok)(hx:F7 x)(h:WR w a c b m x M)(hs:x.s<=m){g:E3}(ho:o env M= .ok (.ref w) M)(hg:g env M= .ok (.tup t.flat) M):
  (x.s+(t.cost:Int)+1<=m->∃M',bG bO Vg yu (aP o) (aJ (Za g Ze)) env M= .ok (.bl (decide (0<x.v t))) M'/\eX w M M'/\WR w a c b m (x.sp ((t.cost:Int)+1)) M')/\
  (m<x.s+(t.cost:Int)+1->cN (P4 w a c b) M (bG bO Vg yu (aP o) (aJ (Za g Ze)) env M)):=by
 have hval:=HF ht hx h hs (o:=Zc 0) (g:=Zc 1) (env:=[Ya (.ref w),Ya (.tup t.flat),Yh]) rfl rfl;by_cases hc:x.s+(t.cost:Int)<=m
 .obtain⟨M1,e1,g1,w1⟩:=hval.1 hc;refine⟨λq=>?_,λq=>?_⟩
  .have g2:=g1.trans (eX.set w M1 (cG a c b (x.s+(t.cost:Int)+1) m));obtain⟨M4,e4,l4,o4⟩:=Hz M (M1.set w (cG a c b (x.s+(t.cost:Int)+1) m)) (.bl (decide (0<x.v t))) g2.len;have w2:WR w a c b m (x.sp ((t.cost:Int)+1)) (M1.set w (cG a c b (x.s+(t.cost:Int)+1) m)):=by
    have:=w1.N8 1;have e:(x.sp (t.cost:Int)).sp 1=x.sp ((t.cost:Int)+1):=congrArg (λz=>W7.mk x.n x.c x.o z) (Jp x.s (t.cost:Int) 1);rw[e]at this;exact this
   refine⟨M4,yP (eY ho) (mC h.ws.ob (by decide)) (jg (Zm hg rfl)) ((jd (env:=[Ya (.ref w),Ya (.tup t.flat),Yh]) ?_).trans e4),⟨l4,λi hi hw=>(o4 i hi).trans (g2.old i hi hw)⟩,w2.tidy h o4⟩;unfold Hf;exact(Zk (bN e1)).trans ((Zk (yS w1.ws.ob 1 q rfl rfl)).trans (yQ (h_ (Zg rfl rfl (by rw[mW];rfl)))))
  .refine cN.meth ho (mC h.ws.ob (by decide)) (Zm hg rfl) (aW.def (env:=[Ya (.ref w),Ya (.tup t.flat),Yh]) ?_);unfold Hf;exact aW.to (bN e1) (aW.wu g1.nF (yU w1.ws.ob 1 q rfl rfl).w4.seq)
 .refine⟨λq=>by omega,λq=>cN.meth ho (mC h.ws.ob (by decide)) (Zm hg rfl) (aW.def (env:=[Ya (.ref w),Ya (.tup t.flat),Yh]) ?_)⟩;unfold Hf;exact(cN.sets (hval.2 (by omega))).seq
end
theorem Mv:∀(n:Nat) (d:Ds) (x y:W7),aR m n d x= .done y->F7 x->x.s<=m->F7 y/\y.s<=m:=by
 intro n
 induction n with
 |zero=>intro d x y h;cases h|succ n ih=>
  intro d x y h hx hs;cases d with
  |nil=>have h:G7.done x= .done y:=h;cases h;exact⟨hx,hs⟩|set z t r=>obtain⟨h1,h2⟩:=jf h;exact ih r _ _ h2 (hx.set z t) h1|put t u r=>obtain⟨h1,h2⟩:=jf h;exact ih r _ _ h2 (hx.put t u) h1
  |tell t r=>obtain⟨h1,h2⟩:=jf h;exact ih r _ _ h2 (hx.tell t) h1|cF t a b r=>
   obtain⟨h1,h2⟩:=jf h;have hx1:=hx.sp (k:=(t.cost:Int)+1) (by omega);by_cases q:0<x.v t
   .rw[if_pos q]at h2;obtain⟨z,h3,h4⟩:=Dk h2;obtain⟨k1,k2⟩:=ih a _ _ h3 hx1 h1;exact ih r _ _ h4 k1 k2
   .rw[if_neg q]at h2;obtain⟨z,h3,h4⟩:=Dk h2;obtain⟨k1,k2⟩:=ih b _ _ h3 hx1 h1;obtain⟨h5,h6⟩:=jf h4;exact ih r _ _ h6 (k1.sp (by decide)) h5
  | whl t a r=>
   obtain⟨h1,h2⟩:=jf h;have hx1:=hx.sp (k:=(t.cost:Int)+1) (by omega);by_cases q:0<x.v t
   .rw[if_pos q]at h2;obtain⟨z,h3,h4⟩:=Dk h2;obtain⟨k1,k2⟩:=ih a _ _ h3 hx1 h1;obtain⟨h5,h6⟩:=jf h4;exact ih _ _ _ h6 (k1.sp (by decide)) h5
   .rw[if_neg q]at h2;obtain⟨h5,h6⟩:=jf h2;exact ih r _ _ h6 (hx.sp (k:=(t.cost:Int)+1+1) (by omega)) h5
variable{A:List D}
section
variable {w a c b:Nat} {m:Int} {x:W7} {M:Store}
def iZ(w a c b:Nat)(m:Int)(env:Zo)(r:O3)(M:Store)(g:G7):Prop:=(∀y,g= .done y->∃M',r= .nx env M'/\WR w a c b m y M'/\iG w a c b M M')/\(g= .over->aW (P4 w a c b) M r)
theorem iZ.r{env:Zo}{r:O3}{g:G7}(h:iZ w a c b m env r M g):fH w a c b m r M g:=⟨λy e=>let⟨M',h1⟩:=h.1 y e;⟨env,M',h1⟩,h.2⟩
theorem aZ.se{me:List Nat}{gl:bU}(h:aZ w a c b m (F (.ref w::ds) M) M g)(h0:WR w a c b m x M)(hm:([oR,rA,v_,wg,yN].contains me)=false)(ho:o env M= .ok (.ref w) M)(hg:gl env M= .ok ds M):iZ w a c b m env (Zw (bG bO me F (aP o) (aJ gl)) env M) M g:=by refine⟨λy e=>?_,λe=>(cN.meth ho (mC h0.ws.ob hm) hg (h.2 e)).expr⟩;obtain⟨M',h1,h2,h3⟩:=h.1 y e;exact⟨M',jm (yP (eY ho) (mC h0.ws.ob hm) (jg hg) h1),h2,h3⟩
theorem Mw(h:WR w a c b m x M)(k:Int)(h0:o env M= .ok (.ref w) M)(he:e env M= .ok [.int k] M):iZ w a c b m env (Zw (bG bO yO Zz (aP o) (aJ e)) env M) M (bY m (x.sp k) (.done (x.sp k))):=by
 refine⟨λy q=>?_,λq=>?_⟩
 .obtain⟨q1,q2⟩:=jf q;cases q2;exact⟨_,yS h.ws.ob k q1 h0 he,h.N8 k,(eX.set w M _).nF⟩
 .by_cases z:(x.sp k).s<=m
  .rw[iu z]at q;cases q
  .exact(yU h.ws.ob k (by have:(x.sp k).s=x.s+k:=rfl;omega) h0 he).w4
theorem iZ.seq{f g:S3}{g1:G7}{k:W7->G7}(h1:iZ w a c b m env (f env M) M g1)(h2:∀y M1,g1= .done y->WR w a c b m y M1->iZ w a c b m env (g env M1) M1 (k y)):iZ w a c b m env (aq f g env M) M (g1.on k):=by
 cases g1 with
 |out=>exact⟨λy e=>(by cases e),λe=>(by cases e)⟩|over=>exact⟨λy e=>(by cases e),λ_=>(h1.2 rfl).seq⟩|done y=>obtain⟨M1,e1,w1,gr⟩:=h1.1 y rfl;obtain⟨k1,k2⟩:=h2 y M1 rfl w1;refine⟨λz e=>?_,λe=>aW.to e1 ((k2 e).wu gr)⟩;obtain⟨M2,e2,w2,Vi⟩:=k1 z e;exact⟨M2,(Zk e1).trans e2,w2,gr.trans Vi⟩
theorem iZ.grow{r:O3}{M1:Store}(gr:iG w a c b M M1)(h:iZ w a c b m env r M1 g):iZ w a c b m env r M g:=by refine⟨λy e=>?_,λe=>(h.2 e).wu gr⟩;obtain⟨M2,e2,w2,Vi⟩:=h.1 y e;exact⟨M2,e2,w2,gr.trans Vi⟩
theorem Vj{rec:Nat->F3}{t:Sm}{B:List D}{ga gb:G7}(ht:t.ok)(hx:F7 x)(h:WR w a c b m x M)(hs:x.s<=m)(ha:∀M1,(x.sp ((t.cost:Int)+1)).s<=m->WR w a c b m (x.sp ((t.cost:Int)+1)) M1->0<x.v t->aZ w a c b m (rec 0 [.ref w,.tup A] M1) M1 ga)(hb:∀M1,(x.sp ((t.cost:Int)+1)).s<=m->WR w a c b m (x.sp ((t.cost:Int)+1)) M1->¬0<x.v t->aZ w a c b m (rec 0 [.ref w,.tup B] M1) M1 gb):
  aZ w a c b m (bh 2 2 (Hg rec) [.ref w,nC t A B] M) M (bY m (x.sp ((t.cost:Int)+1)) (if 0<x.v t then ga else gb.on λy=>bY m (y.sp 1) (.done (y.sp 1)))):=by
 refine fH.def (env:=[Ya (.ref w),Ya (nC t A B)]) h (iZ.r (env:=[Ya (.ref w),Ya (nC t A B)]) ?_);unfold Hg;have hab:=Zli ht hx h hs (o:=Zc 0) (g:=e2 Zr (Zc 1) (eC (.int 1))) (env:=[Ya (.ref w),Ya (nC t A B)]) rfl rfl;by_cases hc:x.s+(t.cost:Int)+1<=m
 .obtain⟨M1,e1,g1,w1⟩:=hab.1 hc;have hc':(x.sp ((t.cost:Int)+1)).s<=m:=by show x.s+((t.cost:Int)+1)<=m;omega
  rw[iu hc'];by_cases q:0<x.v t
  .rw[if_pos q];rw[decide_eq_true q]at e1;rw[d9 e1];exact iZ.grow g1.nF (aZ.se (ha M1 hc' w1 q) w1 (by decide) rfl rfl)
  .rw[if_neg q];rw[decide_eq_false q]at e1;rw[dh e1];exact iZ.grow g1.nF (iZ.seq (aZ.se (hb M1 hc' w1 q) w1 (by decide) rfl rfl) λy M2 _ w2=>Mw w2 1 rfl rfl)
 .rw[oU (by show m<x.s+((t.cost:Int)+1);omega)];refine⟨λy e=>(by cases e),λ_=>?_⟩;obtain⟨k,M',e,r⟩:=hab.2 (by omega);exact⟨k,M',by rw[aV,e],r⟩
noncomputable abbrev oV:E3:=bG bO Vg yu (aP (Zc 0)) (aJ (Za (e2 Zr (Zc 1) (eC (.int 1))) (Ze)))
noncomputable abbrev nG(F:F3):S3:=aq (Zw (bG bO GTH F (aP (Zc 0)) (aJ (Za (e2 Zr (Zc 1) (eC (.int 2))) (Ze))))) (Zw (bG bO yO Zz (aP (Zc 0)) (aJ (Za (eC (.int 1)) (Ze)))))
noncomputable abbrev yW:S3:=Zw (bG bO yO Zz (aP (Zc 0)) (aJ (Za (eC (.int 1)) (Ze))))
theorem ZkC{t:Sm}{A r:Ds}(ht:t.ok):∀(n K:Nat),n<=K->(∀k,k<n->∀x1 M1,F7 x1->WR w a c b m x1 M1->x1.s<=m->aR m k A x1≠ .out->aZ w a c b m (F [.ref w,.tup A.enc] M1) M1 (aR m k A x1))->∀(x:W7) (M:Store),F7 x->WR w a c b m x M->x.s<=m->aR m n (.whl t A r) x≠ .out ->
  (aR m n (.whl t A r) x= .over/\aW (P4 w a c b) M (aq (g_ oV (nG F) K) yW [Ya (.ref w),Ya (cJ t A.enc)] M))\/
  (∃y k M',k<n/\aR m n (.whl t A r) x=aR m k r y/\aq (g_ oV (nG F) K) yW [Ya (.ref w),Ya (cJ t A.enc)] M= .nx [Ya (.ref w),Ya (cJ t A.enc)] M'/\WR w a c b m y M'/\iG w a c b M M'/\F7 y/\y.s<=m):=by
 intro n
 induction n with
 |zero=>intro K _ _ x M _ _ _ h;exact absurd rfl h|succ n ih=>
  intro K hK hA x M hx h hs hne;obtain⟨K,rfl⟩:∃k,K=k+1:=⟨K-1,by omega⟩;have hab:=Zli ht hx h hs (o:=Zc 0) (g:=e2 Zr (Zc 1) (eC (.int 1))) (env:=[Ya (.ref w),Ya (cJ t A.enc)]) rfl rfl;have eg:aR m (n+1) (.whl t A r) x=bY m (x.sp ((t.cost:Int)+1)) (if 0<x.v t then(aR m n A (x.sp ((t.cost:Int)+1))).on λy=>bY m (y.sp 1) (aR m n (.whl t A r) (y.sp 1))else bY m (x.sp ((t.cost:Int)+1+1)) (aR m n r (x.sp ((t.cost:Int)+1+1)))):=rfl;rw[eg]at hne ⊢;by_cases hc:x.s+(t.cost:Int)+1<=m
  .obtain⟨M1,e1,g1,w1⟩:=hab.1 hc;have e1:oV [Ya (.ref w),Ya (cJ t A.enc)] M= .ok (.bl (decide (0<x.v t))) M1:=e1;have hc':(x.sp ((t.cost:Int)+1)).s<=m:=by show x.s+((t.cost:Int)+1)<=m;omega
   have hx1:=hx.sp (k:=(t.cost:Int)+1) (by omega);rw[iu hc']at hne ⊢;by_cases q:0<x.v t
   .rw [if_pos q]at hne ⊢;rw[decide_eq_true q]at e1;have hgA:aR m n A (x.sp ((t.cost:Int)+1))≠ .out:=λe=>by rw[e]at hne;exact hne rfl
    have hcall:=hA n (zQ n) _ M1 hx1 w1 hc' hgA;have hb:iZ w a c b m [Ya (.ref w),Ya (cJ t A.enc)] (nG F [Ya (.ref w),Ya (cJ t A.enc)] M1) M1 ((aR m n A (x.sp ((t.cost:Int)+1))).on λy=>bY m (y.sp 1) (.done (y.sp 1))):=iZ.seq (aZ.se hcall w1 (by decide) rfl rfl) λy M2 _ w2=>Mw w2 1 rfl rfl;have Wn:aW (P4 w a c b) M1 (nG F [Ya (.ref w),Ya (cJ t A.enc)] M1)->aW (P4 w a c b) M (aq (g_ oV (nG F) (K+1)) yW [Ya (.ref w),Ya (cJ t A.enc)] M):=λhx=>by obtain⟨k,M',e,r⟩:=aW.wu g1.nF hx;refine aW.seq ⟨k,M',?_,r⟩;rw[oA,e1];simp only[e]
    cases hg:aR m n A (x.sp ((t.cost:Int)+1))with
    |out=>exact absurd hg hgA|over=>rw[hg]at hb;exact .inl ⟨rfl,Wn (hb.2 rfl)⟩|done y=>
     rw[hg]at hb hne;have hb:iZ w a c b m [Ya (.ref w),Ya (cJ t A.enc)] (nG F [Ya (.ref w),Ya (cJ t A.enc)] M1) M1 (bY m (y.sp 1) (.done (y.sp 1))):=hb;have hne:bY m (y.sp 1) (aR m n (.whl t A r) (y.sp 1))≠ .out:=hne;show(bY m (y.sp 1) (aR m n (.whl t A r) (y.sp 1))= .over/\_)\/(∃z k M',k<n+1/\bY m (y.sp 1) (aR m n (.whl t A r) (y.sp 1))=aR m k r z/\_);by_cases hy:(y.sp 1).s<=m
     .rw[iu hy]at hb hne ⊢;obtain⟨M2,e2,w2,g2⟩:=hb.1 _ rfl;obtain⟨k1,k2⟩:=Mv n A _ _ hg hx1 hc';have ew:aq (g_ oV (nG F) (K+1)) yW [Ya (.ref w),Ya (cJ t A.enc)] M=aq (g_ oV (nG F) K) yW [Ya (.ref w),Ya (cJ t A.enc)] M2:=by
       have:g_ oV (nG F) (K+1) [Ya (.ref w),Ya (cJ t A.enc)] M=g_ oV (nG F) K [Ya (.ref w),Ya (cJ t A.enc)] M2:=by rw[oA,e1];simp only[e2]
       rw[aq,aq,this]
      have gr:=g1.nF.trans g2;rcases ih K (by omega) (λk hk=>hA k (by omega)) (y.sp 1) M2 (k1.sp (by decide)) w2 hy hne with⟨o1,o2⟩|⟨z,k,M',o1,o2,o3,o4,o5,o6,o7⟩
      .exact .inl ⟨o1,by rw[ew];exact o2.wu gr⟩
      .exact .inr ⟨z,k,M',by omega,o2,ew.trans o3,o4,gr.trans o5,o6,o7⟩
     .have hy:m<(y.sp 1).s:=by omega
      rw[oU hy]at hb ⊢;exact .inl ⟨rfl,Wn (hb.2 rfl)⟩
   .rw[if_neg q]at hne ⊢;rw[decide_eq_false q]at e1;have ew:g_ oV (nG F) (K+1) [Ya (.ref w),Ya (cJ t A.enc)] M= .nx [Ya (.ref w),Ya (cJ t A.enc)] M1:=by rw[oA,e1]
    have es:(x.sp ((t.cost:Int)+1)).sp 1=x.sp ((t.cost:Int)+1+1):=congrArg (λz=>W7.mk x.n x.c x.o z) (Jp x.s ((t.cost:Int)+1) 1);have hsp:=Mw (env:=[Ya (.ref w),Ya (cJ t A.enc)]) (o:=Zc 0) (e:=Za (eC (.int 1)) (Ze)) w1 1 rfl rfl;rw[es]at hsp;by_cases hy:(x.sp ((t.cost:Int)+1+1)).s<=m
    .rw[iu hy]at hsp ⊢;obtain⟨M2,e2,w2,g2⟩:=hsp.1 _ rfl;exact .inr ⟨_,n,M2,zQ n,rfl,(Zk ew).trans e2,w2,g1.nF.trans g2,hx.sp (by omega),hy⟩
    .rw[oU (by omega)]at hsp ⊢;exact .inl ⟨rfl,aW.to ew ((hsp.2 rfl).wu g1.nF)⟩
  .rw[oU (by show m<x.s+((t.cost:Int)+1);omega)];refine .inl ⟨rfl,aW.seq ?_⟩;obtain⟨k,M',e,r⟩:=hab.2 (by omega);have e:oV [Ya (.ref w),Ya (cJ t A.enc)] M= .exc ⟨tZ,.ref k⟩ M':=e;exact⟨k,M',by rw[oA,e],r⟩
end
variable{W x0:Option D}
section
variable {w a c b:Nat} {m:Int} {x:W7} {M:Store}
theorem Zod{i:I3}{g:G3}{u:S3}{M:Store}(h:i env M= .ok it M'):Ge i g u env M=dZ it g u it.items env M':=by rw[Ge,h]
noncomputable abbrev dB(j:Nat):S3:=Zw (bG bO DOD (Zh (j+1) 1) (aP (Zc 0)) (aJ (Za (Zc 2) (Ze))))
def t6(w a c b:Nat)(m:Int)(W:Option D)(r:O3)(M:Store)(g:G7):Prop:=(∀y,g= .done y->∃M' x',r= .nx [Ya (.ref w),W,x'] M'/\WR w a c b m y M'/\iG w a c b M M')/\(g= .over->aW (P4 w a c b) M r)
theorem Vk(hi:it.lock=Yh){M1:Store}(hx:WR w a c b m x M)(h:Zh (j+1) 1 [.ref w,d] M= .ok .non M1)(gr:iG w a c b M M1)(k:t6 w a c b m W (dZ it (bQ 2) (dB j) ds [Ya (.ref w),W,Ya d] M1) M1 g):t6 w a c b m W (dZ it (bQ 2) (dB j) (d::ds) [Ya (.ref w),W,x0] M) M g:=by
 have hlk:locked it M=true:=by unfold locked;rw[hi]
 have he:dB j [Ya (.ref w),W,Ya d] M= .nx [Ya (.ref w),W,Ya d] M1:=jm (yP (eY rfl) (mC hx.ws.ob (by decide)) (jg rfl) h);have e:dZ it (bQ 2) (dB j) (d::ds) [Ya (.ref w),W,x0] M=dZ it (bQ 2) (dB j) ds [Ya (.ref w),W,Ya d] M1:=by rw[pN,if_pos hlk];simp only[bQ,nQ,nR,he]
 rw[e];refine⟨λy q=>?_,λq=>(k.2 q).wu gr⟩;obtain⟨M',x',h1,h2,h3⟩:=k.1 y q;exact⟨M',x',h1,h2,gr.trans h3⟩
theorem HN(hi:it.lock=Yh)(hx:WR w a c b m x M)(h:cN (P4 w a c b) M (Zh (j+1) 1 [.ref w,d] M))(hg:g= .over):t6 w a c b m W (dZ it (bQ 2) (dB j) (d::ds) [Ya (.ref w),W,x0] M) M g:=by
 subst hg;refine⟨λy q=>(by cases q),λ_=>?_⟩;have hlk:locked it M=true:=by unfold locked;rw[hi]
 obtain⟨k,M',e,r⟩:=h;have he:dB j [Ya (.ref w),W,Ya d] M= .exc ⟨tZ,.ref k⟩ M':=yR (Ve (eY rfl) (mC hx.ws.ob (by decide)) (jg rfl) e);refine⟨k,M',?_,r⟩;rw[pN,if_pos hlk];simp only[bQ,nQ,nR,he]
theorem Mx(hi:it.lock=Yh){x1:W7}(hx:WR w a c b m x M)(h:aZ w a c b m (Zh (j+1) 1 [.ref w,d] M) M (bY m x1 (.done x1)))(k:x1.s<=m->∀M1,WR w a c b m x1 M1->t6 w a c b m W (dZ it (bQ 2) (dB j) ds [Ya (.ref w),W,Ya d] M1) M1 g):
  t6 w a c b m W (dZ it (bQ 2) (dB j) (d::ds) [Ya (.ref w),W,x0] M) M (bY m x1 g):=by
 by_cases q:x1.s<=m
 .rw[iu q]at h ⊢;obtain⟨M1,h1,h2,h3⟩:=h.1 _ rfl;exact Vk hi hx h1 h3 (k q M1 h2)
 .rw[oU (by omega)]at h ⊢;exact HN hi hx (h.2 rfl) rfl
theorem Vl{A:Ds}(hx:WR w a c b m x M)(h:t6 w a c b m (Ya (.tup A.enc)) (dZ ⟨A.enc,Yh⟩ (bQ 2) (dB j) A.enc [Ya (.ref w),Ya (.tup A.enc),Yh] M) M g):aZ w a c b m (Zh (j+2) 0 [.ref w,.tup A.enc] M) M g:=by refine fH.def (body:=Ly (Zh (j+1))) (ps:=2) (N:=3) (ds:=[.ref w,.tup A.enc]) (env:=[Ya (.ref w),Ya (.tup A.enc),Yh]) hx ?_;unfold Ly;rw[Zod (it:=⟨A.enc,Yh⟩) (M':=M) rfl];exact⟨λy q=>let⟨M',x',h1,h2⟩:=h.1 y q;⟨_,M',h1,h2⟩,h.2⟩
theorem Vm{t:Sm}{B:List D}(hx:WR w a c b m x M)(h:aZ w a c b m (bh 2 2 (Hg (Zh (j+2))) [.ref w,nC t A B] M) M g):aZ w a c b m (Zh (j+3+1) 1 [.ref w,nC t A B] M) M g:=by refine fH.def (body:=lZ (Zh (j+3))) (ps:=2) (N:=3) (ds:=[.ref w,nC t A B]) (env:=[Ya (.ref w),Ya (nC t A B),Yh]) hx ?_;unfold lZ;rw[d9 (HJ rfl)];exact aZ.st (F:=Zh (j+3) 2) (ds:=[nC t A B]) h hx (by decide) rfl rfl
theorem ZuQ{t:Sm}{y:W7}(hx:WR w a c b m x M)(h:aq (g_ oV (nG (Zh (j+2) 0)) 1000000) yW [Ya (.ref w),Ya (cJ t A)] M= .nx [Ya (.ref w),Ya (cJ t A)] M')(hy:WR w a c b m y M')(g:iG w a c b M M'):∃M2,Zh (j+3+1) 1 [.ref w,cJ t A] M= .ok .non M2/\WR w a c b m y M2/\iG w a c b M M2:=by
 have c1:aZ w a c b m (bh 2 2 (Lx (Zh (j+2))) [.ref w,cJ t A] M) M (.done y):=fH.def (env:=[Ya (.ref w),Ya (cJ t A)]) hx ⟨λz q=>by cases q;exact⟨_,M',h,hy,g⟩,λq=>(by cases q)⟩;have c2:aZ w a c b m (Zh (j+3+1) 1 [.ref w,cJ t A] M) M (.done y):=by refine fH.def (body:=lZ (Zh (j+3))) (ps:=2) (N:=3) (ds:=[.ref w,cJ t A]) (env:=[Ya (.ref w),Ya (cJ t A),Yh]) hx ?_;unfold lZ;rw[dh (pX (by decide) rfl),d9 (HJ rfl)];exact aZ.st (F:=Zh (j+3) 3) (ds:=[cJ t A]) c1 hx (by decide) rfl rfl
 exact c2.1 y rfl
theorem ZvV{t:Sm}(hx:WR w a c b m x M)(h:aW (P4 w a c b) M (aq (g_ oV (nG (Zh (j+2) 0)) 1000000) yW [Ya (.ref w),Ya (cJ t A)] M)):cN (P4 w a c b) M (Zh (j+3+1) 1 [.ref w,cJ t A] M):=by
 have c1:aZ w a c b m (bh 2 2 (Lx (Zh (j+2))) [.ref w,cJ t A] M) M .over:=fH.def (env:=[Ya (.ref w),Ya (cJ t A)]) hx ⟨λz q=>(by cases q),λ_=>h⟩;have c2:aZ w a c b m (Zh (j+3+1) 1 [.ref w,cJ t A] M) M .over:=by refine fH.def (body:=lZ (Zh (j+3))) (ps:=2) (N:=3) (ds:=[.ref w,cJ t A]) (env:=[Ya (.ref w),Ya (cJ t A),Yh]) hx ?_;unfold lZ;rw[dh (pX (by decide) rfl),d9 (HJ rfl)];exact aZ.st (F:=Zh (j+3) 3) (ds:=[cJ t A]) c1 hx (by decide) rfl rfl
 exact c2.2 rfl
theorem Zr5(hm:m<=1000):∀(N n:Nat),n<=N->n<=1000000->∀(d:Ds) (x:W7) (M:Store) (j:Nat) (it:gA) (W x0:Option D),it.lock=Yh->d.ok->3*d.dep<=j->F7 x->WR w a c b m x M->x.s<=m->aR m n d x≠ .out ->
  t6 w a c b m W (dZ it (bQ 2) (dB j) d.enc [Ya (.ref w),W,x0] M) M (aR m n d x):=by
 intro N
 induction N with
 |zero=>intro n hn _ d x M j it W x0 _ _ _ _ _ _ h;obtain rfl:n=0:=(by omega);exact absurd rfl h|succ N IH=>
  intro n hn Gx d x M j it W x0 hi hd hj hx h hs hne;cases n with
  |zero=>exact absurd rfl hne|succ n=>
   have ih:=IH n (by omega) (by omega);cases d with
   |nil=>refine⟨λy q=>?_,λq=>(by cases q)⟩;have q:G7.done x= .done y:=q;cases q;refine⟨M,x0,?_,h,.rfl⟩;show dZ it (bQ 2) (dB j) [] _ _=_;rw[sY,if_pos (by unfold locked;rw[hi])]|set y t r=>refine Mx hi h (Zug _ hd.2.1 hx h hs hm) λq M1 w1=>ih r _ M1 j it W _ hi hd.2.2 hj (hx.set y t) w1 q λz=>hne ?_;show bY m _ _=_;rw[iu q,z]|put t u r=>refine Mx hi h (Zuu _ hd.1 hd.2.1 hx h hs hm) λq M1 w1=>ih r _ M1 j it W _ hi hd.2.2 hj (hx.put t u) w1 q λz=>hne ?_;show bY m _ _=_;rw[iu q,z]|tell t r=>refine Mx hi h (Zrr _ hd.1 hx h hs hm) λq M1 w1=>ih r _ M1 j it W _ hi hd.2 hj (hx.tell t) w1 q λz=>hne ?_;show bY m _ _=_;rw[iu q,z]
   | cF t A B r=>
    have hj:3*gQ (gQ A.dep B.dep+1) r.dep<=j:=hj;obtain⟨j,rfl⟩:∃k,j=k+3:=⟨j-3,by omega⟩;have hx1:=hx.sp (k:=(t.cost:Int)+1) (by omega);have hgo:∀(E:Ds),E.ok->3*E.dep<=j->∀M1,(x.sp ((t.cost:Int)+1)).s<=m->WR w a c b m (x.sp ((t.cost:Int)+1)) M1->aR m n E (x.sp ((t.cost:Int)+1))≠ .out->aZ w a c b m (Zh (j+2) 0 [.ref w,.tup E.enc] M1) M1 (aR m n E (x.sp ((t.cost:Int)+1))):=λE hE hEj M1 hs1 w1 ho=>Vl w1 (ih E _ M1 j ⟨E.enc,Yh⟩ _ Yh rfl hE hEj hx1 w1 hs1 ho);have hne:bY m (x.sp ((t.cost:Int)+1)) (if 0<x.v t then(aR m n A (x.sp ((t.cost:Int)+1))).on λy=>aR m n r y else(aR m n B (x.sp ((t.cost:Int)+1))).on λy=>bY m (y.sp 1) (aR m n r (y.sp 1)))≠ .out:=hne;show t6 w a c b m W _ M (bY m (x.sp ((t.cost:Int)+1)) (if 0<x.v t then(aR m n A (x.sp ((t.cost:Int)+1))).on λy=>aR m n r y else(aR m n B (x.sp ((t.cost:Int)+1))).on λy=>bY m (y.sp 1) (aR m n r (y.sp 1))));have rest:∀(y:W7) (M1:Store),F7 y->y.s<=m->WR w a c b m y M1->aR m n r y≠ .out->t6 w a c b m W (dZ it (bQ 2) (dB (j+3)) r.enc [Ya (.ref w),W,Ya (nC t A.enc B.enc)] M1) M1 (aR m n r y):=λy M1 hy hys w1 ho=>ih r y M1 (j+3) it W _ hi hd.2.2.2 (by omega) hy w1 hys ho;by_cases hc:(x.sp ((t.cost:Int)+1)).s<=m
    .rw[iu hc]at hne ⊢;by_cases q:0<x.v t
     .rw[if_pos q]at hne ⊢;have hoA:aR m n A (x.sp ((t.cost:Int)+1))≠ .out:=λz=>hne (by rw[z];rfl);have hch:=Vj (rec:=Zh (j+2)) (t:=t) (A:=A.enc) (B:=B.enc) (ga:=aR m n A (x.sp ((t.cost:Int)+1))) (gb:=.out) hd.1 hx h hs (λM1 hs1 w1 _=>hgo A hd.2.1 (by omega) M1 hs1 w1 hoA) (λ_ _ _ z=>absurd q z);rw[iu hc,if_pos q]at hch;have hdd:=Vm h hch;cases hg:aR m n A (x.sp ((t.cost:Int)+1))with
      |out=>exact absurd hg hoA|over=>rw[hg]at hdd;exact HN hi h (hdd.2 rfl) rfl|done y=>rw[hg]at hdd hne;obtain⟨M1,e1,w1,g1⟩:=hdd.1 y rfl;obtain⟨k1,k2⟩:=Mv n A _ _ hg hx1 hc;exact Vk hi h e1 g1 (rest y M1 k1 k2 w1 hne)
     .rw[if_neg q]at hne ⊢;have hoB:aR m n B (x.sp ((t.cost:Int)+1))≠ .out:=λz=>hne (by rw[z];rfl);have hch:=Vj (rec:=Zh (j+2)) (t:=t) (A:=A.enc) (B:=B.enc) (ga:=.out) (gb:=aR m n B (x.sp ((t.cost:Int)+1))) hd.1 hx h hs (λ_ _ _ z=>absurd z q) (λM1 hs1 w1 _=>hgo B hd.2.2.1 (by omega) M1 hs1 w1 hoB);rw[iu hc,if_neg q]at hch;have hdd:=Vm h hch;cases hg:aR m n B (x.sp ((t.cost:Int)+1))with
      |out=>exact absurd hg hoB|over=>rw[hg]at hdd;exact HN hi h (hdd.2 rfl) rfl|done y=>rw[hg]at hdd hne;obtain⟨k1,k2⟩:=Mv n B _ _ hg hx1 hc;have hdd:aZ w a c b m _ M (bY m (y.sp 1) (.done (y.sp 1))):=hdd;have hne:bY m (y.sp 1) (aR m n r (y.sp 1))≠ .out:=hne;exact Mx hi h hdd λz M1 w1=>rest (y.sp 1) M1 (k1.sp (by decide)) z w1 λe=>hne (by rw[iu z,e])
    .have hch:=Vj (rec:=Zh (j+2)) (t:=t) (A:=A.enc) (B:=B.enc) (ga:=.out) (gb:=.out) hd.1 hx h hs (λ_ z _ _=>absurd z hc) (λ_ z _ _=>absurd z hc);rw[oU (by omega)]at hch ⊢;exact HN hi h ((Vm h hch).2 rfl) rfl
   | whl t A r=>
    have hj:3*gQ (A.dep+1) r.dep<=j:=hj;obtain⟨j,rfl⟩:∃k,j=k+3:=⟨j-3,by omega⟩;have hA:∀k,k<n+1->∀x1 M1,F7 x1->WR w a c b m x1 M1->x1.s<=m->aR m k A x1≠ .out->aZ w a c b m (Zh (j+2) 0 [.ref w,.tup A.enc] M1) M1 (aR m k A x1):=λk hk x1 M1 f1 w1 s1 ho=>Vl w1 (IH k (by omega) (by omega) A x1 M1 j ⟨A.enc,Yh⟩ _ Yh rfl hd.2.1 (by omega) f1 w1 s1 ho);rcases ZkC (F:=Zh (j+2) 0) (r:=r) hd.1 (n+1) 1000000 Gx hA x M hx h hs hne with⟨o1,o2⟩|⟨y,k,M',o1,o2,o3,o4,o5,o6,o7⟩
    .exact HN hi h (ZvV h o2) o1
    .obtain⟨M2,e2,w2,g2⟩:=ZuQ h o3 o4 o5;rw[o2]at hne ⊢;exact Vk hi h e2 g2 (IH k (by omega) (by omega) r y M2 (j+3) it W _ hi hd.2.2 (by omega) o6 w2 o7 hne)
end
noncomputable def zl(names:List (List Nat))(gs:List Int):List (a_×D):=(names.zip gs).map λp=>(.inr p.1,.int p.2)
theorem Ziu:∀(names:List (List Nat)) (gs:List Int),pM (xR (names.map D.str) (gs.map D.int))=Ya (zl names gs)
 |[],_=>rfl|_::_,[]=>rfl|x::names,g::gs=>by show(pM (xR (names.map D.str) (gs.map D.int))).map (λl=>((.inr x,.int g)::l:List (a_×D)))=_;rw[Ziu names gs];rfl
theorem Zje:∀(l:List (List Nat×Int)) (acc:List (a_×D)),qZ acc->qZ ((l.map λp=>((.inr p.1,.int p.2):a_×D)).foldl (λacc p=>putD p.1 p.2 acc) acc)
 |[],_,h=>h|_::l,_,h=>Zje l _ (U4 h _ _)
theorem ZqZ(names:List (List Nat))(gs:List Int):qZ (dictOf (zl names gs)):=Zje _ [] ZkG
theorem ZpC(names:List (List Nat))(gs:List Int):(zl names gs).length<=names.length:=by unfold zl;rw[iz,List.length_zip];omega
theorem ZrS(names:List (List Nat))(gs:List Int)(h:names.length<=1000)(M:Store):KJ (names.map D.str) (gs.map D.int) M= .ok (.ref M.length) (M++[.dct (dictOf (zl names gs))]):=by unfold KJ;rw[Ziu];exact if_pos (Yv (ZpC names gs) (Yv h (by decide)))
theorem HW{G:Store}{f:List Nat}{v:D}{fs:List (List Nat×D)}(h:fs.length<1000):KD bO f v (.ref M.length) (M++ .ins bO fs::G)= .ok .non (M++ .ins bO (tG f v fs)::G):=by rw[R6,dR];have e:=FZ M (.ins bO fs::G) 0 (.ins bO (tG f v fs));rw[Qc]at e;exact(if_pos (⟨rfl,h⟩:bO=bO/\fs.length<1000)).trans (by rw[e];rfl)
theorem ZnC(h1:M'.take M.length≠M)(h2:(M'.take M.length).all (tu M.length)=false):tidy M d M'= .ok d M':=by unfold tidy;rw[decide_eq_false h1,h2,Qe,Jm];rfl
theorem Zq4(M:Store)(a:Nat)(m:Int):yt [.ref M.length,.ref a,.int m] (M++[.ins bO []])= .ok .non (M++[cG a (M.length+1) (M.length+2) 0 m,.dct [],.lst []]):=by
 refine(vf (M':=M++[cG a (M.length+1) (M.length+2) 0 m,.dct [],.lst []]) (env:=[Ya (.ref M.length),Ya (.ref a),Ya (.int m)]) (env':=[Ya (.ref M.length),Ya (.ref a),Ya (.int m)]) ?_).trans ?_
 .unfold Ug;refine(Zk (M':=M++[.ins bO [(oR,.ref a)]]) (jm (Zg rfl rfl (HW (by decide))))).trans ?_;refine(Zk (M':=M++[.ins bO [(oR,.ref a),(rA,.ref (M.length+1))],.dct []]) (jm (Zg (M1:=M++[.ins bO [(oR,.ref a)],.dct []]) (a:=.ref (M.length+1)) ?_ rfl (HW (by simp))))).trans ?_
  .show R3.ok (D.ref (M++[_]).length) ((M++[_])++[_])=_;rw[kj,Yt];rfl
  refine(Zk (M':=M++[.ins bO [(oR,.ref a),(rA,.ref (M.length+1)),(v_,.ref (M.length+2))],.dct [],.lst []]) (jm (Zg (M1:=M++[.ins bO [(oR,.ref a),(rA,.ref (M.length+1))],.dct [],.lst []]) (a:=.ref (M.length+2)) ?_ rfl (HW (by simp))))).trans ?_
  .refine(iY rfl rfl).trans ?_;rw[kj,Yt];rfl
  exact(Zk (jm (Zg rfl rfl (HW (by simp))))).trans (jm (Zg rfl rfl (HW (by simp[tG]))))
 .have hl:(M++[MO.ins bO []]).length=M.length+1:=by simp
  have ht:(M++[cG a (M.length+1) (M.length+2) 0 m,.dct [],.lst []]).take (M++[MO.ins bO []]).length=M++[cG a (M.length+1) (M.length+2) 0 m]:=by rw[hl,List.take_append,wZ (by omega)];simp
  refine ZnC ?_ ?_
  .rw[ht];intro e;have:=List.append_cancel_left e;simp at this
  .rw[ht,List.all_append,hl];have hb:tu (M.length+1) (cG a (M.length+1) (M.length+2) 0 m)=false:=by
    show bV (M.length+1) [.ref a,.ref (M.length+1),.ref (M.length+2),.int 0,.int m]=false;simp[bV,below]
   simp[hb]
variable{gs:List D}
theorem refuse_eq{ns:List D}(h:gs.length=ns.length)(M:Store):tW [.tup [.tup ns,.tup ds],.tup gs] M= .ok .non M:=by refine(vf (M':=M) (env:=[Ya (.tup [.tup ns,.tup ds]),Ya (.tup gs)]) (env':=[Ya (.tup [.tup ns,.tup ds]),Ya (.tup gs)]) ?_).trans (Hq rfl);unfold LC;refine nD (Zg (M1:=M) (M2:=M) (a:=.int (gs.length:Int)) (b:=.int (ns.length:Int)) rfl rfl ?_);rw[h];show(match Ya (decide ((ns.length:Int)=ns.length))with|some r=>R3.ok (D.bl (!r)) M|none=>R3.bad)=_;rw[decide_eq_true rfl];rfl
noncomputable def x7(names:List (List Nat))(gs:List Int):W7:=⟨dictOf (zl names gs),[],[],2*(gs.length:Int)⟩
theorem Zil:∀(l:List (a_×D)) (acc:List (a_×D)),(l.foldl (λacc p=>putD p.1 p.2 acc) acc).length<=acc.length+l.length
 |[],_=>by simp|p::l,acc=>by have h:=Zil l (putD p.1 p.2 acc);have k:=U5 p.1 p.2 acc;rw[qi,Yo];omega
theorem ZvG(gs:List Int)(h:names.length<=6):F7 (x7 names gs):=by
 have h1:(dictOf (zl names gs)).length<=(zl names gs).length:=by have:=Zil (zl names gs) [];rw[nW,zR]at this;exact this
 have h2:=ZpC names gs;exact⟨ZqZ names gs,ZkG,by show((dictOf (zl names gs)).length:Int)<=2*(gs.length:Int)+100;omega,by show((0:Nat):Int)<=2*(gs.length:Int)+100;omega,by show((0:Nat):Int)<=2*(gs.length:Int)+100;omega,λd hd=>(by cases hd)⟩
theorem ZlI{gs:List Int}(Mz:gs.length=names.length)(hnl:names.length<=6){ds:Ds}(hd:ds.ok)(hdd:ds.dep<=3)(hm:m<=1000)(hn:n<=1000000)(hne:aR m n ds (x7 names gs)≠ .out)(M:Store):
  ((x7 names gs).s<=m->∀y,aR m n ds (x7 names gs)= .done y->∃M' q,jD [oO names ds,.tup (gs.map D.int),.int m] M= .ok (.tup [.ref q,.int y.s]) M'/\M'[q]?=Ya (.lst y.o)/\M.length<=q/\M.length<=M'.length/\∀i,i<M.length->M'[i]?=M[i]?)/\
  ((m<(x7 names gs).s\/aR m n ds (x7 names gs)= .over)->cN (λ_=>True) M (jD [oO names ds,.tup (gs.map D.int),.int m] M)):=by
 let S:=M++[MO.dct (dictOf (zl names gs))]
 let w:=S.length
 have hw:w=M.length+1:=by simp[w,S]
 let M1:=S++[cG M.length (w+1) (w+2) 0 m,.dct [],.lst []]
 have w0:WR w M.length (w+1) (w+2) m ⟨dictOf (zl names gs),[],[],0⟩ M1:=⟨⟨dR S _ _,iC (dR M _ []) _,vg S [cG M.length (w+1) (w+2) 0 m,.dct [],.lst []] 1,by omega⟩,vg S [cG M.length (w+1) (w+2) 0 m,.dct [],.lst []] 2⟩
 let env:Option D->Zo:=λz=>[Ya (oO names ds),Ya (.tup (gs.map D.int)),Ya (.int m),z]
 have s0:Zw (Zu tW (aJ (Za (Zc 0) (Za (Zc 1) (Ze))))) (env Yh) M= .nx (env Yh) M:=by refine jm (d:=.non) ?_;show(aJ _ (env Yh) M).bind _=_;rw[jg (d:=[oO names ds,.tup (gs.map D.int)]) (M':=M) rfl,R3.jF];exact refuse_eq (by simp[Mz]) M
 have mk:Gd bO yt (Za (Gg (e2 Zr (Zc 0) (eC (.int 0))) (Zc 1)) (Za (Zc 2) (Ze))) (env Yh) M= .ok (.ref w) M1:=by have hz:Gg (e2 Zr (Zc 0) (eC (.int 0))) (Zc 1) (env Yh) M= .ok (.ref M.length) S:=ZrS names gs (by omega) M;have hi:=Zq4 S M.length m;show(Za _ _ _ M).bind _=_;rw[Zm hz (Zm (M2:=S) (d:=.int m) rfl rfl),R3.jF];show(match yt [.ref S.length,.ref M.length,.int m] (S++[.ins bO []])with| .ok .non M2=>R3.ok (D.ref S.length) M2|_=>.bad)=_;rw[hi]
 have s1:gB (aF 3 (Gd bO yt (Za (Gg (e2 Zr (Zc 0) (eC (.int 0))) (Zc 1)) (Za (Zc 2) (Ze))))) (env Yh) M= .nx (env (Ya (.ref w))) M1:=Mt (bN mk);have hl1:M.length<=M1.length:=by simp only[M1,S,Yt,Yo,nW];omega
 have ho1:∀i,i<M.length->M1[i]?=M[i]?:=λi hi=>by show((M++[_])++_)[i]?=_;rw[kj,Yx hi]
 have p4:∀i,i<M.length->P4 w M.length (w+1) (w+2) i:=λi hi=>⟨by omega,by omega,by omega,by omega⟩;have sp:=Mw (env:=env (Ya (.ref w))) (o:=Zc 3) (e:=Za (e2 eU (eC (.int 2)) (aU bM (Za (Zc 1) (Ze)))) (Ze)) w0 (2*(gs.length:Int)) rfl (Zm (d:=.int (2*(gs.length:Int))) (M1:=M1) (by refine Zg (M2:=M1) (b:=.int (gs.length:Int)) rfl (je rfl (by rw[FN,iz])) ?_;rw[Ai,if_pos (Ma (by decide))]) rfl);have ex:W7.sp ⟨dictOf (zl names gs),[],[],0⟩ (2*(gs.length:Int))=x7 names gs:=by show W7.mk _ _ _ _=W7.mk _ _ _ _;congr 1;exact zW _
 rw[ex]at sp;have body:iZ w M.length (w+1) (w+2) m (env (Ya (.ref w))) (aq (Zw (bG bO yO Zz (aP (Zc 3)) (aJ (Za (e2 eU (eC (.int 2)) (aU bM (Za (Zc 1) (Ze)))) (Ze))))) (Zw (bG bO GTH Lz (aP (Zc 3)) (aJ (Za (e2 Zr (Zc 0) (eC (.int 1))) (Ze))))) (env (Ya (.ref w))) M1) M1 ((bY m (x7 names gs) (.done (x7 names gs))).on λy=>aR m n ds y):=iZ.seq sp λy M2 hy w2=>by obtain⟨q1,q2⟩:=jf hy;cases q2;exact aZ.se (F:=Lz) (ds:=[.tup ds.enc]) (Vl w2 (Zr5 hm n n (Yl _) hn ds (x7 names gs) M2 11 ⟨ds.enc,Yh⟩ _ Yh rfl hd (by omega) (ZvG gs hnl) w2 q1 hne)) w2 (by decide) rfl rfl
 refine⟨λhs y hy=>?_,λh=>?_⟩
 .have hb:=body.1 y (by rw[iu hs];exact hy);obtain⟨M2,e2',w2,g2⟩:=hb;have hlen:M.length<=M2.length:=Yv hl1 g2.len;refine⟨M2,w+2,?_,w2.nb,by omega,hlen,λi hi=>(g2.old i (Yn hi hl1) (p4 i hi)).trans (ho1 i hi)⟩;refine(jd (M':=M2) (d:=.tup [.ref (w+2),.int y.s]) (env:=env Yh) ?_).trans ?_
  .unfold Bx;refine(Zk s0).trans ((Zk s1).trans ?_);obtain⟨M3,e3',w3,g3⟩:=sp.1 _ (iu hs);have e4:=e2';rw[Zk e3']at e4;exact(Zk e3').trans ((Zk e4).trans (yQ (h_ (gk (Zm (dU rfl (Vd w2.ws.ob)) (Zm (dU rfl (Hy w2.ws.ob)) rfl)) rfl))))
  .have hb:below M.length (.tup [.ref (w+2),.int y.s])=false:=by
    show(decide (w+2<M.length)&&_)=false;rw[decide_eq_false (by omega)];rfl
   rw[tidy,hb];rfl
 .have ho:(bY m (x7 names gs) (.done (x7 names gs))).on (λy=>aR m n ds y)= .over:=by
   by_cases hs:(x7 names gs).s<=m
   .rw[iu hs];rcases h with h|h
    .omega
    .exact h
   .rw[oU (by omega)];rfl
  have hx:=body.2 ho;have hx2:aW (λ_=>True) M (Bx (env Yh) M):=by
   unfold Bx;refine aW.to s0 (aW.to s1 ?_);by_cases hs:(x7 names gs).s<=m
   .obtain⟨M3,e3',w3,g3⟩:=sp.1 _ (iu hs);obtain⟨k,M',e,r1,r2,r3⟩:=hx;rw[Zk e3']at e;exact⟨k,M',(Zk e3').trans (HB e),r1,Yv hl1 r2,λi hi _=>(r3 i (Yn hi hl1) (p4 i hi)).trans (ho1 i hi)⟩
   .obtain⟨k,M',e,r1,r2,r3⟩:=sp.2 (oU (by omega));exact⟨k,M',HB e,r1,Yv hl1 r2,λi hi _=>(r3 i (Yn hi hl1) (p4 i hi)).trans (ho1 i hi)⟩
  exact aW.def (env:=env Yh) hx2
theorem ZvT:∀(n:Nat) (d:Ds) (x:W7),m-x.s<(n:Int)->0<n->aR m n d x≠ .out:=by
 intro n
 induction n with
 |zero=>intro d x _ h;omega|succ n ih=>
  intro d x hx _;have cpos:∀t:Sm,(1:Int)<=(t.cost:Int):=λt=>by cases t<;>simp[Sm.cost]<;>omega
  have lm:∀(x1:W7) (g:G7),(x1.s<=m->g≠ .out)->bY m x1 g≠ .out:=λx1 g h=>by
   by_cases q:x1.s<=m
   .rw[iu q];exact h q
   .rw[oU (by omega)];intro z;cases z
  have rn:∀(d:Ds) (x1:W7),x.s+1<=x1.s->x1.s<=m->aR m n d x1≠ .out:=λd x1 h1 h2=>ih d x1 (by omega) (by omega);have on:∀(d:Ds) (x1:W7) (f:W7->G7),x.s+1<=x1.s->x1.s<=m->(∀y,x1.s<=y.s->f y≠ .out)->(aR m n d x1).on f≠ .out:=λd x1 f h1 h2 h3=>by
   cases e:aR m n d x1 with
   |out=>exact absurd e (rn d x1 h1 h2)|over=>intro z;cases z|done y=>exact h3 y (ZsM n d x1 y e).le
  cases d with
  |nil=>intro z;cases z|set y t r=>exact lm _ _ (rn r _ (by have:=cpos t;show x.s+1<=x.s+(t.cost:Int)+2;omega))|put t u r=>exact lm _ _ (rn r _ (by have:=cpos t;have:=cpos u;show x.s+1<=x.s+(t.cost:Int)+(u.cost:Int)+2;omega))|tell t r=>exact lm _ _ (rn r _ (by have:=cpos t;show x.s+1<=x.s+(t.cost:Int)+1;omega))
  | cF t a b r=>
   have h1:x.s+1<=(x.sp ((t.cost:Int)+1)).s:=by have:=cpos t;show x.s+1<=x.s+((t.cost:Int)+1);omega
   refine lm _ _ λq=>?_;by_cases z:0<x.v t
   .rw[if_pos z];refine on a _ _ h1 q λy hy=>?_;by_cases hm:y.s<=m
    .exact rn r y (by omega) hm
    .exact ih r y (by omega) (by have:=cpos t;have:(x.sp ((t.cost:Int)+1)).s=x.s+((t.cost:Int)+1):=rfl;omega)
   .rw[if_neg z];exact on b _ _ h1 q λy hy=>lm _ _ (rn r _ (by show x.s+1<=y.s+1;omega))
  | whl t a r=>
   have h1:x.s+1<=(x.sp ((t.cost:Int)+1)).s:=by have:=cpos t;show x.s+1<=x.s+((t.cost:Int)+1);omega
   refine lm _ _ λq=>?_;by_cases z:0<x.v t
   .rw[if_pos z];exact on a _ _ h1 q λy hy=>lm _ _ (rn _ _ (by show x.s+1<=y.s+1;omega))
   .rw[if_neg z];exact lm _ _ (rn r _ (by have:=cpos t;show x.s+1<=x.s+((t.cost:Int)+1+1);omega))
section
variable {m:Int} (hm:m<=1000) {x:W7} (h0:0<=x.s)
include hm h0
end
noncomputable abbrev mD:List Nat:=[66,97,100,71,105,118,101,110]
theorem Zig{ns:List D}(h:gs.length≠ns.length)(M:Store):tW [.tup [.tup ns,.tup ds],.tup gs] M= .exc ⟨mD,.ref M.length⟩ (M++[.ins (0::mD) []]):=by refine Mu (env:=[Ya (.tup [.tup ns,.tup ds]),Ya (.tup gs)]) ?_;unfold LC;refine(d9 (M':=M) (eY (Zg (M1:=M) (M2:=M) (a:=.int (gs.length:Int)) (b:=.int (ns.length:Int)) rfl rfl ?_))).trans (ZiU (M1:=M) (Zm (M1:=M) rfl rfl));show(match Ya (decide ((gs.length:Int)=ns.length))with|some r=>R3.ok (D.bl (!r)) M|none=>R3.bad)=_;rw[decide_eq_false (λz=>h (Int.ofNat_inj.mp z))];rfl
section
variable {ns ds gs:List D} {M:Store}
theorem ZnM(h:gs.length≠ns.length):vY [.tup [.tup ns,.tup ds],.tup gs] M= .exc ⟨mD,.ref M.length⟩ (M++[.ins (0::mD) []]):=by refine Mu (env:=[Ya (.tup [.tup ns,.tup ds]),Ya (.tup gs)]) ?_;unfold LK;refine HB (yR ?_);show(aJ _ _ M).bind _=_;rw[jg (d:=[.tup [.tup ns,.tup ds],.tup gs]) (M':=M) rfl,R3.jF];exact Zig h M
theorem Zlz(h:gs.length≠ns.length)(m:Int):jD [.tup [.tup ns,.tup ds],.tup gs,.int m] M= .exc ⟨mD,.ref M.length⟩ (M++[.ins (0::mD) []]):=by refine Mu (env:=[Ya (.tup [.tup ns,.tup ds]),Ya (.tup gs),Ya (.int m),Yh]) ?_;unfold Bx;refine HB (yR ?_);show(aJ _ _ M).bind _=_;rw[jg (d:=[.tup [.tup ns,.tup ds],.tup gs]) (M':=M) rfl,R3.jF];exact Zig h M
theorem MF{x:D}{k:Int}(h1:2<=k)(h2:k<=1000):oE (.tup [x]) (.int k) M= .ok (.tup (Ye k.toNat x)) M:=(ZnW x k).trans (if_pos ⟨rfl,h1,h2⟩)
theorem Zpl(h:gs.length=ns.length)(hl:ns.length<=6):vY [.tup [.tup ns,.tup ds],.tup gs] M= .ok (.tup (gs++Ye (8-gs.length) (.int 0))) M:=by
 refine(jd (M':=M) (env:=[Ya (.tup [.tup ns,.tup ds]),Ya (.tup gs)]) ?_).trans (Hq rfl);unfold LK;have s0:Zw (Zu tW (aJ (Za (Zc 0) (Za (Zc 1) (Ze))))) [Ya (.tup [.tup ns,.tup ds]),Ya (.tup gs)] M= .nx [Ya (.tup [.tup ns,.tup ds]),Ya (.tup gs)] M:=by refine jm (d:=.non) ?_;show(aJ _ _ M).bind _=_;rw[jg (d:=[.tup [.tup ns,.tup ds],.tup gs]) (M':=M) rfl,R3.jF];exact refuse_eq h M
 refine(Zk s0).trans (yQ (h_ ?_));refine Zg (M1:=M) (M2:=M) (a:=.tup gs) (b:=.tup (Ye (8-gs.length) (.int 0))) rfl (Zg (M1:=M) (M2:=M) (a:=.tup [.int 0]) (b:=.int (8-(gs.length:Int))) (gk (Zm rfl rfl) rfl) rfl ?_) ?_
 .rw[MF (by omega) (by omega),show(8-(gs.length:Int)).toNat=8-gs.length by omega]
 .rw[Kg];exact if_pos (Yv (by rw[lM];omega:gs.length+(Ye (8-gs.length) (D.int 0)).length<=900000) (by decide))
end
noncomputable abbrev rfB:S3:=aV (kO (e1 mV (e1 (lg [[66,97,100,71,105,118,101,110]] [[83,112,101,110,116]]) (Zc 6))) (kO (e1 (lg [[83,112,101,110,116]] [[66,97,100,71,105,118,101,110]]) (Zc 6)) (e1 mV (e1 (lg [[66,97,100,71,105,118,101,110],[83,112,101,110,116]] []) (Zc 6))))) (cM (eC (.bl false))) (fQ)
theorem Zng{e1' e2' e3' e4 e5:Option D}{k:Nat}(hk:M[k]?=Ya (.ins (0::mD) [])):rfB [e0,e1',e2',e3',e4,e5,Ya (.ref k)] M= .nx [e0,e1',e2',e3',e4,e5,Ya (.ref k)] M:=qI ((Ga (M1:=M) (dU (a:=.bl true) (M1:=M) (dU rfl (Znn hk (by decide))) rfl)).trans ((Ga (M1:=M) (dU rfl (ZrK hk (by decide) (by decide)))).trans (dU (a:=.bl true) (M1:=M) (dU rfl (Znn hk (by decide))) rfl)))
theorem ZhO{ns:List D}(h:gs.length≠ns.length)(m:Int)(M:Store):∃M',yw [.tup [.tup ns,.tup ds],.tup gs,.int m] M= .ok (.bl true) M'/\M.length<=M'.length/\∀i,i<M.length->M'[i]?=M[i]?:=by
 let P:D:=.tup [.tup ns,.tup ds]
 let M1:=M++[MO.ins (0::mD) []]
 let M2:=M1++[MO.ins (0::mD) []]
 let M3:=M2++[MO.lst [.ref M.length,.ref M1.length]]
 have l3:M.length<=M3.length:=by simp only[M3,M2,M1,Yt,Yo,nW];omega
 have o3:∀i,i<M.length->M3[i]?=M[i]?:=λi hi=>by show(((M++[_])++[_])++[_])[i]?=_;rw[kj,kj,Yx hi]
 obtain⟨M4,e4,l4,o4⟩:=Hz M M3 (.bl true) l3;refine⟨M4,(jd (M':=M3) (env:=[Ya P,Ya (.tup gs),Ya (.int m),Yh,Yh,Yh,Yh]) ?_).trans e4,l4,λi hi=>(o4 i hi).trans (o3 i hi)⟩;unfold Ur;have h1:Zw (Zu vY (aJ (Za (Zc 0) (Za (Zc 1) (Ze))))) [Ya P,Ya (.tup gs),Ya (.int m),Ya .non,Ya .non,Yh,Yh] M= .exc ⟨mD,.ref M.length⟩ M1:=by refine yR ?_;show(aJ _ _ M).bind _=_;rw[jg (d:=[P,.tup gs]) (M':=M) rfl,R3.jF];exact ZnM h
 have h2:Zw (Zu jD (aJ (Za (Zc 0) (Za (Zc 1) (Za (Zc 2) (Ze)))))) [Ya P,Ya (.tup gs),Ya (.int m),Ya (.ref M.length),Ya .non,Yh,Yh] M1= .exc ⟨mD,.ref M1.length⟩ M2:=by refine yR ?_;show(aJ _ _ M1).bind _=_;rw[jg (d:=[P,.tup gs,.int m]) (M':=M1) rfl,R3.jF];exact Zlz h m
 have hc:([[66,97,100,71,105,118,101,110],[83,112,101,110,116]]:List (List Nat)).contains mD=true:=by decide
 have k1:M3[M.length]?=Ya (.ins (0::mD) []):=iC (iC (dR M _ []) _) _;have k2:M3[M1.length]?=Ya (.ins (0::mD) []):=iC (dR M1 _ []) _;have hlk:locked ⟨[.ref M.length,.ref M1.length],Ya M2.length⟩ M3=true:=decide_eq_true (dR M2 _ []);have hit:kY (cg (Za (Zc 3) (Za (Zc 4) (Ze)))) [Ya P,Ya (.tup gs),Ya (.int m),Ya (.ref M.length),Ya (.ref M1.length),Yh,Yh] M2= .ok ⟨[.ref M.length,.ref M1.length],Ya M2.length⟩ M3:=by show(cg _ _ M2).bind _=_;rw[iY (M':=M2) (ds:=[.ref M.length,.ref M1.length]) rfl rfl,R3.jF];show(match M3[M2.length]? with|some (.lst ds)=>R3.ok (⟨ds,Ya M2.length⟩:gA) M3|_=>R3.bad)=_;rw[show M3[M2.length]?=_ from dR M2 _ []]
 refine(Zk (bN rfl)).trans ((Zk (bN rfl)).trans ((Zk (env':=[Ya P,Ya (.tup gs),Ya (.int m),Ya (.ref M.length),Ya .non,Yh,Yh]) (ZkA h1 hc (bN rfl) rfl)).trans ((Zk (env':=[Ya P,Ya (.tup gs),Ya (.int m),Ya (.ref M.length),Ya (.ref M1.length),Yh,Yh]) (ZkA h2 hc (bN rfl) rfl)).trans ((Zk (env':=[Ya P,Ya (.tup gs),Ya (.int m),Ya (.ref M.length),Ya (.ref M1.length),Yh,Ya (.ref M1.length)]) (M':=M3) ((RQ hit).trans ?_)).trans (h_ rfl)))));show dZ _ (bQ 6) rfB [.ref M.length,.ref M1.length] _ M3=_;rw[pN,if_pos hlk];simp only[bQ,nQ,nR,Zng k1];rw[pN,if_pos hlk];simp only[bQ,nQ,nR,Zng k2];rw[sY,if_pos hlk]
theorem ZoP{b g:S3}{e:Zo}(h:b env M= .nx e M'):xV cs b g env M= .nx e M':=by rw[xV,h]
theorem Zow{b g:S3}{env e1:Zo}{M M' M2:Store}{x:X3}(h:b env M= .exc x M')(hc:cs.contains x.cls=true)(hg:g env M'= .nx e1 M2):xV cs b g env M= .nx e1 M2:=by rw[xV,h];simp only[hc,if_true,hg]
noncomputable abbrev meB:S3:=aV (aP (e2 bL (Zc 0) (eC (.int 0)))) (aF 3 (Zu (Tv jD [.int 400]) (aJ (Za (Zc 1) (Za (Zc 2) (Ze)))))) (aV (aP (e2 bL (Zc 0) (eC (.int 1)))) (aF 3 (Zu jD (aJ (Ld (Za (Zc 1) (Za (Zc 2) (Ze))) (eC (.int 150)))))) (aF 3 (Zu jD (aJ (Za (Zc 1) (Za (Zc 2) (Za (eC (.int 150)) (Ze))))))))
noncomputable def Vn(c:Int):Int:=if c=0 then 400 else 150
theorem ZsH{c:Int}(hc:c=0\/c=1\/c=2)(P G:D)(M:Store):∃f:E3,meB [Ya (.int c),Ya P,Ya G,Ya .non] M=aF 3 f [Ya (.int c),Ya P,Ya G,Ya .non] M/\f [Ya (.int c),Ya P,Ya G,Ya .non] M=jD [P,G,.int (Vn c)] M:=by
 rcases hc with rfl|rfl|rfl
 .refine⟨_,d9 (M':=M) (eY (Zg rfl rfl (k_ rfl))),?_⟩;show(aJ _ _ M).bind _=_;rw[jg (d:=[P,G]) (M':=M) rfl,R3.jF];rfl
 .refine⟨_,(dh (M':=M) (eY (Zg rfl rfl (iR (by decide))))).trans (d9 (M':=M) (eY (Zg rfl rfl (k_ rfl)))),?_⟩;show(aJ _ _ M).bind _=_;rw[jg (d:=[P,G,.int 150]) (M':=M) rfl,R3.jF];rfl
 .refine⟨_,(dh (M':=M) (eY (Zg rfl rfl (iR (by decide))))).trans (dh (M':=M) (eY (Zg rfl rfl (iR (by decide))))),?_⟩;show(aJ _ _ M).bind _=_;rw[jg (d:=[P,G,.int 150]) (M':=M) rfl,R3.jF];rfl
theorem Vo{c:Int}(hc:c=0\/c=1\/c=2){P G:D}{q:Nat}(h:jD [P,G,.int (Vn c)] M= .ok (.tup [.ref q,.int s]) M')(hq:M.length<=q):yx [.int c,P,G] M= .ok (.tup [.ref q,.int s]) M':=by
 obtain⟨f,e1',e2'⟩:=ZsH hc P G M;refine(jd (M':=M') (d:=.tup [.ref q,.int s]) (env:=[Ya (.int c),Ya P,Ya G,Yh]) ?_).trans ?_
 .unfold LR;exact(Zk (bN rfl)).trans ((Zk (ZoP (e1'.trans (bN (e2'.trans h))))).trans (h_ rfl))
 .have hb:below M.length (.tup [.ref q,.int s])=false:=by
   show(decide (q<M.length)&&_)=false;rw[decide_eq_false (by omega)];rfl
  rw[tidy,hb];rfl
theorem ZlX{c:Int}(hc:c=0\/c=1\/c=2){P G:D}(h:cN (λ_=>True) M (jD [P,G,.int (Vn c)] M)):∃M',yx [.int c,P,G] M= .ok .non M':=by obtain⟨f,e1',e2'⟩:=ZsH hc P G M;obtain⟨k,M1,e,_,hl,_⟩:=h;obtain⟨M2,t2,_⟩:=Hz M M1 .non hl;refine⟨M2,(jd (M':=M1) (env:=[Ya (.int c),Ya P,Ya G,Yh]) ?_).trans t2⟩;unfold LR;exact(Zk (bN rfl)).trans ((Zk (Zow (e1'.trans (ZkZ (e2'.trans e))) (show([[83,112,101,110,116]]:List (List Nat)).contains tZ=true by decide) (bN rfl))).trans (h_ rfl))
noncomputable abbrev nbC:S3:=aV (kO (e1 mV (e1 (m8 .int) (Zc 4))) (e1 (m8 .bool) (Zc 4))) (cM (eC (.bl false))) (fQ)
theorem Zlw{it:gA}{e0 e1' e2' e3' e5 e6:Option D}{M:Store}(hlk:locked it M=true):∀(ds:List D),(∀d∈ds,∃z,d= .int z)->∀x,∃x',dZ it (bQ 4) nbC ds [e0,e1',e2',e3',x,e5,e6] M= .nx [e0,e1',e2',e3',x',e5,e6] M
 |[],_,x=>⟨x,by rw[sY,if_pos hlk]⟩|d::ds,h,x=>by obtain⟨z,rfl⟩:=h d Yw;obtain⟨x',e⟩:=Zlw hlk ds (λd hd=>h d (Yp _ hd)) (Ya (.int z));refine⟨x',?_⟩;have hb:nbC [e0,e1',e2',e3',Ya (.int z),e5,e6] M= .nx [e0,e1',e2',e3',Ya (.int z),e5,e6] M:=qI ((Ga (M1:=M) (dU (a:=.bl true) (M1:=M) rfl rfl)).trans rfl);rw[pN,if_pos hlk];simp only[bQ,nQ,nR,hb];exact e
noncomputable abbrev rfT:S3:=aV (e1 mV (Zu yw (Za (Zc 1) (Za (Zc 5) (Za (e2 aO (Zu Zq (Za (Zc 0) (Za (eC (.int 53)) (Ze)))) (eC (.int 151))) (Ze)))))) (cM (eC (.bl false))) (fQ)
theorem Znr(h:∀d∈ds,∃z,d= .int z)(M:Store):sW (.tup ds) (.tup ds) M= .ok (.bl false) M:=by
 have p:ds.all (cD DEEP)=true:=nU.mpr λd hd=>by obtain⟨z,rfl⟩:=h d hd;rfl
 have e:mX (.tup ds) (.tup ds) M=Ya true:=by rw[Kl,p,Zi8 p];rfl
 show(match mX (.tup ds) (.tup ds) M with|some r=>R3.ok (D.bl (!r)) M|none=>R3.bad)=_;rw[e];rfl
theorem ZxL(M:Store)(h:n=8):sW (.int (n:Int)) (.int 8) M= .ok (.bl false) M:=by subst h;show(match Ya (decide (((8:Nat):Int)=8))with|some r=>R3.ok (D.bl (!r)) M|none=>R3.bad)=_;rw[decide_eq_true (p:=((8:Nat):Int)=8) rfl];rfl
theorem ZhV{ns:List Int}(hl:ns.length<=63){nm ds:List D}{it:gA}{e2' e3' e4 e6:Option D}:∀(ws:List (List D)),(∀w∈ws,w.length≠nm.length)->∀(x:Option D) (M:Store),(∀M':Store,(∀i,i<M.length->M'[i]?=M[i]?)->locked it M'=true) ->
  ∃x' M',dZ it (bQ 5) rfT (ws.map D.tup) [Ya (SC ns),Ya (.tup [.tup nm,.tup ds]),e2',e3',e4,x,e6] M= .nx [Ya (SC ns),Ya (.tup [.tup nm,.tup ds]),e2',e3',e4,x',e6] M'
 |[],_,x,M,hk=>⟨x,M,by rw[xj,sY,if_pos (hk M λ_ _=>rfl)]⟩|w::ws,h,x,M,hk=>by obtain⟨M1,e,l1,o1⟩:=ZhO (ds:=ds) (h w Yw) (dr ns 53 % 151) M;obtain⟨x',M2,Adl⟩:=ZhV hl ws (λw hw=>h w (Yp _ hw)) (Ya (.tup w)) M1 (λM' h'=>hk M' λi hi=>(h' i (Yn hi l1)).trans (o1 i hi));refine⟨x',M2,?_⟩;have hb:rfT [Ya (SC ns),Ya (.tup [.tup nm,.tup ds]),e2',e3',e4,Ya (.tup w),e6] M= .nx [Ya (SC ns),Ya (.tup [.tup nm,.tup ds]),e2',e3',e4,Ya (.tup w),e6] M1:=qI (dU (a:=.bl true) (M1:=M1) (vh (M1:=M) (M2:=M) (M3:=M) (c:=.int (dr ns 53 % 151)) rfl rfl (Zg (M1:=M) (M2:=M) (qJ rfl rfl (UG hl 53 M)) rfl (by rw[Ry,if_pos (by decide)])) e) rfl);rw[Y9,pN,if_pos (hk M λ_ _=>rfl)];simp only[bQ,nQ,nR,hb];exact Adl
theorem ZkW{k q:Nat}{o:List D}(hk:M[k]?=Ya (.lst o))(hq:M[q]?=Ya (.lst o))(hn:k≠q)(ho:∀d∈o,∃z,d= .int z):Gh (.tup [.ref k,.int s]) (.tup [.ref q,.int s]) M= .ok (.bl true) M:=by
 show(match M[k]?,M[q]? with|some (.lst x),Ya (.lst z)=>if k=q then R3.bad else KN x z _ M|_,_=>R3.bad)=_;rw[hk,hq];refine(if_neg hn).trans ?_;have Vp:o.all (cD 50)=true:=nU.mpr λd hd=>by obtain⟨z,rfl⟩:=ho d hd;rfl
 unfold KN;rw[if_pos ⟨Vp,Vp⟩,KC 50 o (by simpa using Vp)];simp
theorem law_holds(ns:List Int)(hl:ns.length<=63):∃M',Zm5 [.bH (ns.map D.int)] []= .ok (.bl true) M':=by
 refine Rt.law (env:=[Ya (SC ns),Yh,Yh,Yh,Yh,Yh,Yh]) ?_;unfold Us;obtain⟨P,⟨tk,ds,eP,hnd,htk,hf,hw,hrs⟩,hP⟩:=ZlM hl [];subst eP
 let gs:=pW ns tk.length
 have Mz:gs.length=tk.length:=Zp9 ..
 let G:=gs.map D.int
 have hG:G.length=tk.length:=by rw[iz];exact Mz
 have hG':G.length=(tk.map D.str).length:=by rw[hG,iz]
 have hT:(tk.map D.str).length<=6:=by rw[iz];exact htk
 refine Rt.set (d:=oO tk ds) (M':=[]) (Aw rfl hP) ?_;have Adm:Hj [SC ns,oO tk ds] []= .ok (.tup G) []:=ZoC hl (je (Zg rfl rfl rfl) (by rw[FN,iz])) (by omega);refine Rt.set (d:=.tup G) (M':=[]) (qJ rfl rfl Adm) ?_
 let B:=G++Ye (8-G.length) (D.int 0)
 have hB:B.length=8:=by simp only[B,Yt,lM];omega
 have hBi:∀d∈B,∃z,d= .int z:=λd hd=>by
  rcases rT.mp hd with e|e
  .obtain⟨z,_,e⟩:=zN.mp e;exact⟨z,e.symm⟩
  .exact⟨0,(YZ.mp e).2⟩
 refine Rt.set (d:=.tup B) (M':=[]) (qJ rfl rfl (Zpl (ns:=tk.map D.str) (ds:=ds.enc) hG' hT)) ?_;refine Rt.skip (M':=[]) ((Ga (M1:=[]) (dU (a:=.bl true) (M1:=[]) rfl rfl)).trans (Zg (M1:=[]) (M2:=[]) (a:=.int (B.length:Int)) rfl rfl (ZxL [] hB))) ?_;obtain⟨x4,hloop⟩:=Zlw (it:=⟨B,Yh⟩) (e0:=Ya (SC ns)) (e1':=Ya (oO tk ds)) (e2':=Ya (.tup G)) (e3':=Ya (.tup B)) (e5:=Yh) (e6:=Yh) (M:=[]) rfl B hBi Yh;refine Rt.loop (it:=⟨B,Yh⟩) (M1:=[]) (M':=[]) rfl hloop ?_;refine Rt.skip (M':=[]) (Zg (M1:=[]) (M2:=[]) (a:=.tup B) (b:=.tup B) rfl (Zg (M1:=[]) (M2:=[]) (a:=.tup G) (b:=.tup (Ye (8-G.length) (.int 0))) rfl (Zg (M1:=[]) (M2:=[]) (a:=.tup [.int 0]) (b:=.int (8-(G.length:Int))) (gk (Zm rfl rfl) rfl) rfl ?_) ?_) (Znr hBi [])) ?_
 .rw[MF (by omega) (by omega),show(8-(G.length:Int)).toNat=8-G.length by omega]
 .rw[Kg];exact if_pos (Yv (by rw[lM];omega:G.length+(Ye (8-G.length) (D.int 0)).length<=900000) (by decide))
 let z:=yJ (dr ns 52)
 refine Rt.set (d:=.int z) (M':=[]) (Aw (qJ rfl rfl (UG hl 52 [])) (Zo2 (Uy ns 52) [])) ?_
 let w1:=G++[D.int z]
 let w2:=Ye 9 (D.int z)
 let w3:=G.drop 1++Ye 2 (D.int z)
 have Wu:∀(a b:List D) (M:Store),a.length+b.length<=900000->bf (.tup a) (.tup b) M= .ok (.tup (a++b)) M:=λa b M h=>by rw[Kg];exact if_pos (Yv h (by decide))
 let nJ:Option D->Option D->Zo:=λx y=>[Ya (SC ns),Ya (oO tk ds),Ya (.tup G),Ya (.tup B),Ya (.int z),x,y]
 have WN:∀(x y:Option D) (M:Store),m7 (Zc 2) (m5 (eC (.int 1))) (mZ) (nJ x y) M= .ok (.tup (G.drop 1)) M:=λx y M=>by have:=Zk2 G 1;exact(show _=R3.ok (D.tup (cutD G (Ya ((1:Nat):Int)) Yh)) M from rfl).trans (by rw[this])
 have Adn:cg (Za (e2 bf (Zc 2) (bF (Za (Zc 4) (Ze)))) (Za (e2 oE (bF (Za (Zc 4) (Ze))) (eC (.int 9))) (Za (e2 bf (m7 (Zc 2) (m5 (eC (.int 1))) (mZ)) (e2 oE (bF (Za (Zc 4) (Ze))) (eC (.int 2)))) (Ze)))) (nJ Yh Yh) []= .ok (.ref 0) [.lst ([w1,w2,w3].map D.tup)]:=by
  refine iY (M:=[]) (M':=[]) (ds:=[w1,w2,w3].map D.tup) (Zm (M1:=[]) (Zg (M1:=[]) (M2:=[]) rfl (gk (Zm rfl rfl) rfl) (Wu G [D.int z] [] ?_)) (Zm (M1:=[]) (Zg (M1:=[]) (M2:=[]) (gk (Zm rfl rfl) rfl) rfl (MF (by decide) (by decide))) (Zm (M1:=[]) (Zg (M1:=[]) (M2:=[]) (WN Yh Yh []) (Zg (M1:=[]) (M2:=[]) (gk (Zm rfl rfl) rfl) rfl (MF (by decide) (by decide))) (Wu (G.drop 1) (Ye 2 (D.int z)) [] ?_)) rfl))) rfl
  .simp only[Yo,nW];omega
  .simp only[Ej,lM];omega
 have hit:kY (cg (Za (e2 bf (Zc 2) (bF (Za (Zc 4) (Ze)))) (Za (e2 oE (bF (Za (Zc 4) (Ze))) (eC (.int 9))) (Za (e2 bf (m7 (Zc 2) (m5 (eC (.int 1))) (mZ)) (e2 oE (bF (Za (Zc 4) (Ze))) (eC (.int 2)))) (Ze))))) (nJ Yh Yh) []= .ok ⟨[w1,w2,w3].map D.tup,Ya 0⟩ [.lst ([w1,w2,w3].map D.tup)]:=by show(cg _ _ []).bind _=_;rw[Adn,R3.jF];rfl
 obtain⟨x5,M5,h5⟩:=ZhV (it:=⟨[w1,w2,w3].map D.tup,Ya 0⟩) hl (nm:=tk.map D.str) (ds:=ds.enc) (e2':=Ya (.tup G)) (e3':=Ya (.tup B)) (e4:=Ya (.int z)) (e6:=Yh) [w1,w2,w3] (λw hw=>by
  rw[iz];rcases Y6.mp hw with rfl|hw
  .rw[Yt,hG];exactλh=>absurd h (by simp)
  .rcases Y6.mp hw with rfl|hw
   .rw[lM];omega
   .rw[lO.mp hw,Yt,Ej,lM,hG];omega) Yh [.lst ([w1,w2,w3].map D.tup)] (λM' h=>decide_eq_true (h 0 (Nat.zero_lt_one)))
 refine Rt.loop (it:=⟨[w1,w2,w3].map D.tup,Ya 0⟩) (M1:=[.lst ([w1,w2,w3].map D.tup)]) (M':=M5) hit h5 ?_;have hone:∃M6,kJ (e2 jc (aU bM (Za (Zc 2) (Ze))) (eC (.int 0))) (e1 mV (Zu yw (Za (Zc 1) (Za (m7 (Zc 2) (m5 (eC (.int 1))) (mZ)) (Za (eC (.int 0)) (Ze)))))) (nJ x5 Yh) M5= .ok (.bl false) M6:=by
  by_cases hp:0<(G.length:Int)
  .obtain⟨M6,e6,_,_⟩:=ZhO (ns:=tk.map D.str) (ds:=ds.enc) (gs:=G.drop 1) (by rw[Ej,iz];omega) 0 M5;exact⟨M6,(Ax (M1:=M5) (Zg (M1:=M5) (M2:=M5) (a:=.int (G.length:Int)) rfl rfl (by rw[mW,decide_eq_true hp]))).trans (dU (a:=.bl true) (M1:=M6) (vh (M1:=M5) (M2:=M5) (M3:=M5) rfl (WN x5 Yh M5) rfl e6) rfl)⟩
  .exact⟨M5,RV (M1:=M5) (Zg (M1:=M5) (M2:=M5) (a:=.int (G.length:Int)) rfl rfl (by rw[mW,decide_eq_false hp]))⟩
 obtain⟨M6,e6⟩:=hone;refine Rt.skip (M':=M6) e6 ?_;have hx0:(x7 tk gs).s=2*(gs.length:Int):=rfl;have hin:∀m:Int,m<=1000->aR m 1002 ds (x7 tk gs)≠ .out:=λm hm=>ZvT 1002 ds (x7 tk gs) (by omega) (by decide);have mq:=λ(m:Int) (hm:m<=1000) (M:Store)=>ZlI Mz htk hf.ok hf.dep (m:=m) hm (n:=1002) (by omega) (hin m hm) M;cases zj:aR 150 1002 ds (x7 tk gs)with
 |out=>exact absurd zj (hin 150 (by decide))|over=>obtain⟨M7,e7⟩:=ZlX (c:=2) (.inr (.inr rfl)) ((mq 150 (by decide) M6).2 (.inr zj));refine Rt.set (d:=.non) (M':=M7) (vh (M1:=M6) (M2:=M6) (M3:=M6) rfl rfl rfl e7) ?_;exact⟨M7,xP ((d9 (M':=M7) rfl).trans (h_ rfl))⟩
 |done y=>have bd:=ZsM 1002 ds (x7 tk gs) y zj;obtain⟨hF,hy⟩:=Mv 1002 ds (x7 tk gs) y zj (ZvG gs htk) (by omega);obtain⟨M7,q,e7,hq,hql,l7,o7⟩:=(mq 150 (by decide) M6).1 (by omega) y zj;refine Rt.set (d:=.tup [.ref q,.int y.s]) (M':=M7) (vh (M1:=M6) (M2:=M6) (M3:=M6) rfl rfl rfl (Vo (c:=2) (.inr (.inr rfl)) e7 hql)) ?_;refine Rt.skip (M':=M7) (Zg (M1:=M7) (M2:=M7) rfl rfl rfl) ?_;have qlt:q<M7.length:=(Yf.mp hq).1;obtain⟨M8,k8,e8,hk8,hl8,l8,o8⟩:=(mq 400 (by decide) M7).1 (by omega) y (bd.ok 400 (by omega));have q8:M8[q]?=Ya (.lst y.o):=(o8 q qlt).trans hq;obtain⟨M9,k9,e9,hk9,hl9,l9,o9⟩:=(mq 150 (by decide) M8).1 (by omega) y zj;have q9:M9[q]?=Ya (.lst y.o):=(o9 q (by omega)).trans q8;have hoi:∀d∈y.o,∃z,d= .int z:=hF.oi;refine Rt.ret (M':=M9) ((Ax (M1:=M8) (Zg (M1:=M8) (M2:=M8) (vh (M1:=M7) (M2:=M7) (M3:=M7) rfl rfl rfl (Vo (c:=0) (.inl rfl) e8 hl8)) rfl (ZkW hk8 q8 (by omega) hoi))).trans ?_);exact Zg (M1:=M9) (M2:=M9) (vh (M1:=M8) (M2:=M8) (M3:=M8) rfl rfl rfl (Vo (c:=1) (.inr (.inl rfl)) e9 hl9)) rfl (ZkW hk9 q9 (by omega) hoi)
end Law
set_option maxHeartbeats 400000
namespace Law
open PySem PySem.Spec PyProof.Rows L2 L3
variable{P:List Yd->Prop}
theorem uZ(h:P []):∀us:List Yd,us.length=0->P us:=λus e=>(Eh e)▸h
theorem uS{n:Nat}(h:∀a us,us.length=n->P (a::us))(us:List Yd)(e:us.length=n+1):P us:=by
 cases us with
 |nil=>exact absurd e (Nat.succ_ne_zero n).symm|cons a us=>exact h a us (E_ e)
variable{xa:aj}
theorem MJ(h:∀a,P [a]):∀us:List Yd,us.length=[xa].length->P us:=uS λa=>uZ (h a)
variable{xb:aj}
theorem nH(h:∀a b,P [a,b]):∀us:List Yd,us.length=[xa,xb].length->P us:=uS λa=>uS λb=>uZ (h a b)
theorem HX{xc:aj}(h:∀a b c,P [a,b,c]):∀us:List Yd,us.length=[xa,xb,xc].length->P us:=uS λa=>uS λb=>uS λc=>uZ (h a b c)
theorem ub4{xc xd:aj}(h:∀a b c d,P [a,b,c,d]):∀us:List Yd,us.length=[xa,xb,xc,xd].length->P us:=uS λa=>uS λb=>uS λc=>uS λd=>uZ (h a b c d)
theorem ub5{xc xd xe:aj}(h:∀a b c d e,P [a,b,c,d,e]):∀us:List Yd,us.length=[xa,xb,xc,xd,xe].length->P us:=uS λa=>uS λb=>uS λc=>uS λd=>uS λe=>uZ (h a b c d e)
theorem ZtO{l:PySem.W.OpenLaw}{w:aK}{K:DW}{h:au}{mg:aj->Option Yd}{fa f0 f1 f2 f3 f4 f5 f6 f7 f8 f9 MK f11 Vq Vr Vs Vt Vu Vv Vw Vx Vy Vz VB VD VF VG:Ym}(X:K.In h)(G:h.Ns Yy mg)(hfa:mg "law" =Ya (.ref fa)){od0 an0 od1 an1 od2 an2 od3 an3 od4 an4 od5 an5 od6 an6 od7 an7 od8 an8 od9 an9 Ado Adp Adq Ads Adt Adu Adv Adw Adx Ady Adz AdA AdB AdC AdD AdE AdF AdG AdH AdI AdJ AdK AdL AdM AdN AdO AdP AdQ AdR AdS AdT WP:Option Ym}{sl0 sl1 sl2 sl3 yj GZ G4 sl7 sl8 sl9 AdU AdV AdW AdX AdY AdZ Ad0 Ad1 Ad2 Ad3 Ad4 Ad5 Ad6 Ad7 Ad8 Ad9:Array (Option Yd)}{oc0 kV0 dc0 pm0 cd0 ct0 oc1 kV1 dc1 pm1 cd1 ct1 oc2 kV2 dc2 pm2 cd2 ct2 oc3 kV3 dc3 pm3 cd3 ct3 oc4 kV4 dc4 pm4 cd4 ct4 oc5 kV5 dc5 pm5 cd5 ct5 oc6 kV6 dc6 pm6 cd6 ct6 oc7 kV7 dc7 pm7 cd7 ct7 oc8 kV8 dc8 pm8 cd8 ct8 oc9 kV9 dc9 pm9 cd9 ct9 Aea Aeb Aec Aed WQ Aee Aef Aeg Aeh Aei WT Aej Aek Ael Aem Aen WW Aeo Aep Aeq Aer Aes WX Aet Aeu Aev Aew Aex WY Aey Aez AeA AeB AeC W0 AeD AeE AeF AeG AeH W2 AeI AeJ AeK AeL AeM W3 AeN AeO AeP AeQ AeR W4 AeS AeT AeU AeV AeW W5 AeX AeY AeZ Ae0 Ae1 W6 Ae2 Ae3 Ae4 Ae5 Ae6 W8 Ae7 Ae8 Ae9 Afa Afb W9 Afc Afd Afe Afg Afh W_ Afi Afj Afk Afl Afm Xa Afn Afo Xb Xc Xd Og Xe:Yd}{AcC:gY}{aA:Ym}{t12:Ym}{Afp:Yd}{AcY:Option Ym}{Afq:Nat}{AcZ:Array (Option Yd)}{Wo:gY}{Wk:Ym}{fu cO cA:Ym}{Aax Abp Aca:ClassData}{Aay Aaz:aj}{V9:Ym}{AaA AaB:List Yd}{AaC AaD:Bool}{AaE:List aj}{AaF:Option Bool}{AaG AaH:Option Ym}{AaI AaJ AaK AaL AaM:Option Yd}{AaN:Yd}{M_:Array DictEntry}{AaO:Nat}{AaP:Array (Option Yd)}{Abq Abr:aj}{Wc:Ym}{Abs Abt:List Yd}{Abu Abv:Bool}{Abw:List aj}{Abx:Option Bool}{Aby Abz:Option Ym}{AbA AbB AbC AbD AbE:Option Yd}{AbF:Yd}{Nj:Array DictEntry}{AbG:Nat}{AbH:Array (Option Yd)}{Acb Acd:aj}{Wl:Ym}{Ace Acf:List Yd}{Acg Ach:Bool}{Aci:List aj}{Acj:Option Bool}{Ack Acl:Option Ym}{Acm Acn Aco Acp Acq:Option Yd}{Acr:Yd}{Nz:Array DictEntry}{Acs:Nat}{Acu:Array (Option Yd)}(Wg:cZ K Yy "Walk" =Ya (Ya (.ref aA)))(Ab1:DR K aA Str.empty=true)(Ab2:Yes K aA=true)(Ab3:Oj K aA=true)(Ab4:Y0 K (.ref aA) "__setattr__" =Ya (Ya (.builtin "object.__setattr__")))(Ab5:Iw K aA=true)(Ab6:fL K (.ref aA)=true)(AaQ:Y0 K (.ref aA) "cells" =Ya Yh)(AaY:Y0 K (.ref aA) "most" =Ya Yh)(AaR:Y0 K (.ref aA) "named" =Ya Yh)(Aam:Y0 K (.ref aA) "numbers" =Ya Yh)(AaS:Y0 K (.ref aA) "steps" =Ya Yh)(a0:cZ K Yy "worked" =Ya (Ya (.ref f0)))(l0:K.lookup f0=Ya ⟨oc0,od0,.func (fM "worked" "worked" (cC BK) (bJ BK) (Zj BK) .none kV0 dc0 pm0 an0 cd0 ct0),sl0⟩)(c0:fZ K cd0 "worked" =true)(k0:fL K (.ref f0)=true)(a1:cZ K Yy "sums_in" =Ya (Ya (.ref f1)))(l1:K.lookup f1=Ya ⟨oc1,od1,.func (fM "sums_in" "sums_in" (cC BP) (bJ BP) (Zj BP) .none kV1 dc1 pm1 an1 cd1 ct1),sl1⟩)(c1:fZ K cd1 "sums_in" =true)(k1:fL K (.ref f1)=true)(a2:cZ K Yy "parts_of" =Ya (Ya (.ref f2)))(l2:K.lookup f2=Ya ⟨oc2,od2,.func (fM "parts_of" "parts_of" (cC BR) (bJ BR) (Zj BR) .none kV2 dc2 pm2 an2 cd2 ct2),sl2⟩)(c2:fZ K cd2 "parts_of" =true)(k2:fL K (.ref f2)=true)(a3:Y0 K (.ref aA) "__init__" =Ya (Ya (.ref f3)))(i3:mJ K (.ref f3)=true)(l3:K.lookup f3=Ya ⟨oc3,od3,.func (fM "__init__" "Walk.__init__" (cC Cr) (bJ Cr) (Zj Cr) .none kV3 dc3 pm3 an3 cd3 ct3),sl3⟩)(c3:fZ K cd3 "Walk.__init__" =true)(k3:fL K (.ref f3)=true)(a4:Y0 K (.ref aA) "spend" =Ya (Ya (.ref f4)))(i4:mJ K (.ref f4)=true)(l4:K.lookup f4=Ya ⟨oc4,od4,.func (fM "spend" "Walk.spend" (cC Cu) (bJ Cu) (Zj Cu) .none kV4 dc4 pm4 an4 cd4 ct4),yj⟩)(c4:fZ K cd4 "Walk.spend" =true)(k4:fL K (.ref f4)=true)(a5:Y0 K (.ref aA) "value_of" =Ya (Ya (.ref f5)))(i5:mJ K (.ref f5)=true)(l5:K.lookup f5=Ya ⟨oc5,od5,.func (fM "value_of" "Walk.value_of" (cC Cv) (bJ Cv) (Zj Cv) .none kV5 dc5 pm5 an5 cd5 ct5),GZ⟩)(c5:fZ K cd5 "Walk.value_of" =true)(k5:fL K (.ref f5)=true)(a6:Y0 K (.ref aA) "is_above" =Ya (Ya (.ref f6)))(i6:mJ K (.ref f6)=true)(l6:K.lookup f6=Ya ⟨oc6,od6,.func (fM "is_above" "Walk.is_above" (cC Cw) (bJ Cw) (Zj Cw) .none kV6 dc6 pm6 an6 cd6 ct6),G4⟩)(c6:fZ K cd6 "Walk.is_above" =true)(k6:fL K (.ref f6)=true)(a7:Y0 K (.ref aA) "repeat" =Ya (Ya (.ref f7)))(i7:mJ K (.ref f7)=true)(l7:K.lookup f7=Ya ⟨oc7,od7,.func (fM "repeat" "Walk.repeat" (cC CK) (bJ CK) (Zj CK) .none kV7 dc7 pm7 an7 cd7 ct7),sl7⟩)(c7:fZ K cd7 "Walk.repeat" =true)(k7:fL K (.ref f7)=true)(a8:Y0 K (.ref aA) "do_deed" =Ya (Ya (.ref f8)))(i8:mJ K (.ref f8)=true)(l8:K.lookup f8=Ya ⟨oc8,od8,.func (fM "do_deed" "Walk.do_deed" (cC Cz) (bJ Cz) (Zj Cz) .none kV8 dc8 pm8 an8 cd8 ct8),sl8⟩)(c8:fZ K cd8 "Walk.do_deed" =true)(k8:fL K (.ref f8)=true)(a9:Y0 K (.ref aA) "choose" =Ya (Ya (.ref f9)))(i9:mJ K (.ref f9)=true)(l9:K.lookup f9=Ya ⟨oc9,od9,.func (fM "choose" "Walk.choose" (cC CJ) (bJ CJ) (Zj CJ) .none kV9 dc9 pm9 an9 cd9 ct9),sl9⟩)(c9:fZ K cd9 "Walk.choose" =true)(k9:fL K (.ref f9)=true)(a10:Y0 K (.ref aA) "go_through" =Ya (Ya (.ref MK)))(i10:mJ K (.ref MK)=true)(l10:K.lookup MK=Ya ⟨Aea,Ado,.func (fM "go_through" "Walk.go_through" (cC Cy) (bJ Cy) (Zj Cy) .none Aeb Aec Aed Adp WQ Aee),AdU⟩)(c10:fZ K WQ "Walk.go_through" =true)(k10:fL K (.ref MK)=true)(a11:cZ K Yy "refuse_bad_given" =Ya (Ya (.ref f11)))(l11:K.lookup f11=Ya ⟨Aef,Adq,.func (fM "refuse_bad_given" "refuse_bad_given" (cC BW) (bJ BW) (Zj BW) .none Aeg Aeh Aei Ads WT Aej),AdV⟩)(c11:fZ K WT "refuse_bad_given" =true)(k11:fL K (.ref f11)=true)(a12:cZ K Yy "meaning" =Ya (Ya (.ref Vq)))(l12:K.lookup Vq=Ya ⟨Aek,Adt,.func (fM "meaning" "meaning" (cC BV) (bJ BV) (Zj BV) (.ref t12) Ael Aem Aen Adu WW Aeo),AdW⟩)(c12:fZ K WW "meaning" =true)(k12:fL K (.ref Vq)=true)(VH:K.lookup t12=Ya ⟨Afp,AcY,.seq #[.int 400 Wo] Afq,AcZ⟩)(a13:cZ K Yy "boxes_of" =Ya (Ya (.ref Vr)))(l13:K.lookup Vr=Ya ⟨Aep,Adv,.func (fM "boxes_of" "boxes_of" (cC BX) (bJ BX) (Zj BX) .none Aeq Aer Aes Adw WX Aet),AdX⟩)(c13:fZ K WX "boxes_of" =true)(k13:fL K (.ref Vr)=true)(a14:cZ K Yy "_law_draw" =Ya (Ya (.ref Vs)))(l14:K.lookup Vs=Ya ⟨Aeu,Adx,.func (fM "_law_draw" "_law_draw" (cC BZ) (bJ BZ) (Zj BZ) .none Aev Aew Aex Ady WY Aey),AdY⟩)(c14:fZ K WY "_law_draw" =true)(k14:fL K (.ref Vs)=true)(a15:cZ K Yy "_law_word" =Ya (Ya (.ref Vt)))(l15:K.lookup Vt=Ya ⟨Aez,Adz,.func (fM "_law_word" "_law_word" (cC B_) (bJ B_) (Zj B_) .none AeA AeB AeC AdA W0 AeD),AdZ⟩)(c15:fZ K W0 "_law_word" =true)(k15:fL K (.ref Vt)=true)(a16:cZ K Yy "_law_number" =Ya (Ya (.ref Vu)))(l16:K.lookup Vu=Ya ⟨AeE,AdB,.func (fM "_law_number" "_law_number" (cC Cd) (bJ Cd) (Zj Cd) .none AeF AeG AeH AdC W2 AeI),Ad0⟩)(c16:fZ K W2 "_law_number" =true)(k16:fL K (.ref Vu)=true)(a17:cZ K Yy "_law_sum" =Ya (Ya (.ref Vv)))(l17:K.lookup Vv=Ya ⟨AeJ,AdD,.func (fM "_law_sum" "_law_sum" (cC Ce) (bJ Ce) (Zj Ce) .none AeK AeL AeM AdE W3 AeN),Ad1⟩)(c17:fZ K W3 "_law_sum" =true)(k17:fL K (.ref Vv)=true)(a18:cZ K Yy "_law_closed" =Ya (Ya (.ref Vw)))(l18:K.lookup Vw=Ya ⟨AeO,AdF,.func (fM "_law_closed" "_law_closed" (cC Cg) (bJ Cg) (Zj Cg) .none AeP AeQ AeR AdG W4 AeS),Ad2⟩)(c18:fZ K W4 "_law_closed" =true)(k18:fL K (.ref Vw)=true)(a19:cZ K Yy "_law_opened" =Ya (Ya (.ref Vx)))(l19:K.lookup Vx=Ya ⟨AeT,AdH,.func (fM "_law_opened" "_law_opened" (cC Ci) (bJ Ci) (Zj Ci) .none AeU AeV AeW AdI W5 AeX),Ad3⟩)(c19:fZ K W5 "_law_opened" =true)(k19:fL K (.ref Vx)=true)(a20:cZ K Yy "_law_deeds" =Ya (Ya (.ref Vy)))(l20:K.lookup Vy=Ya ⟨AeY,AdJ,.func (fM "_law_deeds" "_law_deeds" (cC Cj) (bJ Cj) (Zj Cj) .none AeZ Ae0 Ae1 AdK W6 Ae2),Ad4⟩)(c20:fZ K W6 "_law_deeds" =true)(k20:fL K (.ref Vy)=true)(a21:cZ K Yy "_law_program" =Ya (Ya (.ref Vz)))(l21:K.lookup Vz=Ya ⟨Ae3,AdL,.func (fM "_law_program" "_law_program" (cC Ck) (bJ Ck) (Zj Ck) .none Ae4 Ae5 Ae6 AdM W8 Ae7),Ad5⟩)(c21:fZ K W8 "_law_program" =true)(k21:fL K (.ref Vz)=true)(a22:cZ K Yy "_law_given" =Ya (Ya (.ref VB)))(l22:K.lookup VB=Ya ⟨Ae8,AdN,.func (fM "_law_given" "_law_given" (cC Cm) (bJ Cm) (Zj Cm) .none Ae9 Afa Afb AdO W9 Afc),Ad6⟩)(c22:fZ K W9 "_law_given" =true)(k22:fL K (.ref VB)=true)(a23:cZ K Yy "_law_refused" =Ya (Ya (.ref VD)))(l23:K.lookup VD=Ya ⟨Afd,AdP,.func (fM "_law_refused" "_law_refused" (cC Cp) (bJ Cp) (Zj Cp) .none Afe Afg Afh AdQ W_ Afi),Ad7⟩)(c23:fZ K W_ "_law_refused" =true)(k23:fL K (.ref VD)=true)(a24:cZ K Yy "_law_meaning" =Ya (Ya (.ref VF)))(l24:K.lookup VF=Ya ⟨Afj,AdR,.func (fM "_law_meaning" "_law_meaning" (cC Cq) (bJ Cq) (Zj Cq) .none Afk Afl Afm AdS Xa Afn),Ad8⟩)(c24:fZ K Xa "_law_meaning" =true)(k24:fL K (.ref VF)=true)(a25:cZ K Yy "law" =Ya (Ya (.ref VG)))(l25:K.lookup VG=Ya ⟨Afo,AdT,.func (fM "law" "law" (cC tX) (bJ tX) (Zj tX) .none Xb Xc Xd WP Og Xe),Ad9⟩)(c25:fZ K Og "law" =true)(k25:fL K (.ref VG)=true)(Abi:cZ K Yy "ValueError" =Ya Yh)(AcM:cZ K Yy "bool" =Ya Yh)(AcN:cZ K Yy "dict" =Ya Yh)(AbI:cZ K Yy "enumerate" =Ya Yh)(Ac0:cZ K Yy "int" =Ya Yh)(Abj:cZ K Yy "isinstance" =Ya Yh)(Ac1:cZ K Yy "len" =Ya Yh)(Ac2:cZ K Yy "max" =Ya Yh)(AcD:cZ K Yy "range" =Ya Yh)(AcE:cZ K Yy "tuple" =Ya Yh)(Ac3:cZ K Yy "zip" =Ya Yh)(y_:cZ K Yy "BOXES" =Ya (Ya (.int 8 AcC)))(AcF:cZ K Yy "PARTS" =Ya (Ya (.ref Wk)))(AbJ:Bu K Wk tV)(Aar:cZ K Yy "LedgerError" =Ya (Ya (.ref fu)))(Wa:cZ K Yy "BadGiven" =Ya (Ya (.ref cO)))(Wd:cZ K Yy "Spent" =Ya (Ya (.ref cA)))(VP:IV K fu=Ya Aax)(VR:IK K (.ref fu)=Ya (.type "type"))(Aft:jK K (.ref fu) (.ref fu)=Ya true)(Ib:IV K cO=Ya Abp)(Nf:IK K (.ref cO)=Ya (.type "type"))(Ng:jK K (.ref cO) (.ref cO)=Ya true)(Dp:IV K cA=Ya Aca)(Ig:IK K (.ref cA)=Ya (.type "type"))(Nq:jK K (.ref cA) (.ref cA)=Ya true)(VV:K.lookup fu=Ya (Eb Aay Aaz fu V9 AaA [.type "ValueError",.type "Exception",.type "BaseException",.type "object"] AaC AaE AaB AaD AaF AaG AaI AaJ AaK AaL AaM "ValueError.__new__"))(V0:K.lookup V9=Ya ⟨AaN,AaH,.dict M_ AaO,AaP⟩)(V1:G5 M_=true)(V2:Ef M_ "__init__" =Yh)(AaZ:K.lookup cO=Ya (Eb Abq Abr cO Wc Abs [.ref fu,.type "ValueError",.type "Exception",.type "BaseException",.type "object"] Abu Abw Abt Abv Abx Aby AbA AbB AbC AbD AbE "ValueError.__new__"))(Aa0:K.lookup Wc=Ya ⟨AbF,Abz,.dict Nj AbG,AbH⟩)(Aa1:G5 Nj=true)(Aa2:Ef Nj "__init__" =Yh)(AbO:K.lookup cA=Ya (Eb Acb Acd cA Wl Ace [.ref fu,.type "ValueError",.type "Exception",.type "BaseException",.type "object"] Acg Aci Acf Ach Acj Ack Acm Acn Aco Acp Acq "ValueError.__new__"))(AbP:K.lookup Wl=Ya ⟨Acr,Acl,.dict Nz Acs,Acu⟩)(AbQ:G5 Nz=true)(AbR:Ef Nz "__init__" =Yh)(Aa3:Y0 K (.ref cO) "__getattribute__" =Ya (Ya (.builtin "BaseException.__getattribute__")))(Aa4:Y0 K (.ref cO) "__getattr__" =Ya Yh)(Aa5:wI K cO (.type "BaseException")=Ya true)(Aa6:Y0 K (.ref cO) "__class__" =Ya (Ya (.builtin "object.__class__")))(Aa7:wI K cO (.type "object")=Ya true)(AbS:Y0 K (.ref cA) "__getattribute__" =Ya (Ya (.builtin "BaseException.__getattribute__")))(AbT:Y0 K (.ref cA) "__getattr__" =Ya Yh)(AbU:wI K cA (.type "BaseException")=Ya true)(AbV:Y0 K (.ref cA) "__class__" =Ya (Ya (.builtin "object.__class__")))(AbW:wI K cA (.type "object")=Ya true)(Wv:Ol K (.builtin "object.__class__") "__get__" =Ya (Ya (.builtin "getset_descriptor.__get__")))(Ww:Oo K (.builtin "object.__class__")=Ya true)(VJ:jK K (.ref fu) (.type "BaseException")=Ya true)(Aae:jK K (.ref cA) (.ref fu)=Ya true)(Aaa:jK K (.ref cO) (.ref fu)=Ya true)(Aab:jK K (.ref cA) (.type "BaseException")=Ya true)(V_:jK K (.ref cA) (.ref cA)=Ya true)(Aaf:jK K (.type "NoneType") (.ref cO)=Ya false)(Aag:jK K (.ref cO) (.ref cO)=Ya true)(Aan:jK K (.ref cA) (.ref cO)=Ya false)(Aao:jK K (.type "NoneType") (.ref cA)=Ya false)(Aap:jK K (.ref cO) (.ref cA)=Ya false)(Aac:jK K (.type "NoneType") (.type "ValueError")=Ya false)(Aah:jK K (.ref cA) (.type "ValueError")=Ya true)(Aad:jK K (.ref cO) (.type "ValueError")=Ya true):
  ∃fd:iJ,(∀(s:Yg) (v:Yd),rP s fd ⟨[v],[]⟩ [("script",v)])/\∀base:au,K.In base->base.Ns Yy mg->eQ l.prog w K mg base jQ 34 fa fd ["script"] (qM K 1 Zm5):=by
 have e:=hfa.symm.trans (wJ X G a25);cases e;have T:Txt K mg:=⟨trivial,ph X G Abi,ph X G AcM,ph X G AcN,ph X G AbI,ph X G Ac0,ph X G Abj,ph X G Ac1,ph X G Ac2,ph X G AcD,ph X G AcE,ph X G Ac3,⟨_,wJ X G y_⟩,⟨_,wJ X G AcF,AbJ⟩⟩;have aN:yC K mg aA:=⟨⟨by unfold L3.ClsAt;rw[show(⟨([87,97,108,107]:List Nat).toArray⟩:aj)= "Walk" by decide +kernel];exact Wg,⟨Ab1,Ab2,Ab3,Ab4⟩,by decide⟩,wJ X G Wg,by rw[show nm [99,101,108,108,115]= "cells" by decide +kernel];exact AaQ,by rw[show nm [109,111,115,116]= "most" by decide +kernel];exact AaY,by rw[show nm [110,97,109,101,100]= "named" by decide +kernel];exact AaR,by rw[show nm [110,117,109,98,101,114,115]= "numbers" by decide +kernel];exact Aam,by rw[show nm [115,116,101,112,115]= "steps" by decide +kernel];exact AaS⟩;have Dn:ClsAt K [66,97,100,71,105,118,101,110] cO:=by unfold L3.ClsAt;rw[show(⟨([66,97,100,71,105,118,101,110]:List Nat).toArray⟩:aj)= "BadGiven" by decide +kernel];exact Wa
 have Nk:oJ K cO:=⟨Aa3,Aa4,Aa5,by rw[Ib];rfl,Aa6,Wv,Ww,Aa7⟩;have yZ:ClsAt K [83,112,101,110,116] cA:=by unfold L3.ClsAt;rw[show(⟨([83,112,101,110,116]:List Nat).toArray⟩:aj)= "Spent" by decide +kernel];exact Wd
 have NK:oJ K cA:=⟨AbS,AbT,AbU,by rw[Dp];rfl,AbV,Wv,Ww,AbW⟩;have XO:Hl K mg fu cO cA:=⟨wJ X G Aar,wJ X G Wa,wJ X G Wd,⟨Dn,_,_,_,_,_,_,_,_,_,_,_,_,_,_,_,_,AaZ,λh Y=>⟨_,Lh Y Aa0 Aa1,Aa2⟩,λh Y=>.own (Y _ _ VV) (Lh Y V0 V1) V2 (.base)⟩,⟨yZ,_,_,_,_,_,_,_,_,_,_,_,_,_,_,_,_,AbO,λh Y=>⟨_,Lh Y AbP AbQ,AbR⟩,λh Y=>.own (Y _ _ VV) (Lh Y V0 V1) V2 (.base)⟩,(tU (P:=λC=>wH K (.ref C) (.ref fu)=Ya true) Dn (PySem.W.Oc VP VR VJ Aaa) (tU (P:=λC=>wH K (.ref C) (.ref fu)=Ya true) yZ (PySem.W.Oc VP VR VJ Aae) vU)),(tU (P:=λC=>wH K (.ref C) (.ref cA)=Ya true) yZ (PySem.W.Oc Dp Ig Aab V_) vU),⟨(PySem.W.Dz (PySem.W.zf Ib Nf Ng Aaf) PySem.W.DG),(tU (P:=λC=>oJ K C/\o_ K (.ref C) [.ref cO]=Ya true) Dn ⟨Nk,(PySem.W.Im (PySem.W.zf Ib Nf Ng Aag))⟩ vU),(tU (P:=λC=>oJ K C/\o_ K (.ref C) [.ref cO]=Ya false) yZ ⟨NK,(PySem.W.Dz (PySem.W.zf Ib Nf Ng Aan) PySem.W.DG)⟩ vU)⟩,⟨(PySem.W.Dz (PySem.W.zf Dp Ig Nq Aao) PySem.W.DG),(tU (P:=λC=>oJ K C/\o_ K (.ref C) [.ref cA]=Ya true) yZ ⟨NK,(PySem.W.Im (PySem.W.zf Dp Ig Nq V_))⟩ vU),(tU (P:=λC=>oJ K C/\o_ K (.ref C) [.ref cA]=Ya false) Dn ⟨Nk,(PySem.W.Dz (PySem.W.zf Dp Ig Nq Aap) PySem.W.DG)⟩ vU)⟩,⟨(PySem.W.Dz (PySem.W.N7 (by decide +kernel) (by first|rfl|decide) Aac) PySem.W.DG),(tU (P:=λC=>oJ K C/\o_ K (.ref C) [.type "ValueError"]=Ya true) Dn ⟨Nk,(PySem.W.Im (PySem.W.N7 (by decide +kernel) (by first|rfl|decide) Aad))⟩ (tU (P:=λC=>oJ K C/\o_ K (.ref C) [.type "ValueError"]=Ya true) yZ ⟨NK,(PySem.W.Im (PySem.W.N7 (by decide +kernel) (by first|rfl|decide) Aah))⟩ vU)),vU⟩⟩;have Acv:di K mg "worked" BK ["name","one","other"]:=jX X G a0 l0 c0 k0 (Binds.all (HX λ_ _ _=>rfl));have Ab7:di K mg "sums_in" BP ["words"]:=jX X G a1 l1 c1 k1 (Binds.all (MJ λ_=>rfl));have AbX:di K mg "parts_of" BR ["words"]:=jX X G a2 l2 c2 k2 (Binds.all (MJ λ_=>rfl))
 have Aas:Le K aA "Walk.__init__" Cr ["self","named","most"]:=Zrj Ab5 Ab6 a3 i3 l3 c3 k3 (Binds.all (HX λ_ _ _=>rfl));have Abk:jY K aA "spend" "Walk.spend" Cu ["self","steps"]:=ye a4 i4 l4 c4 k4 (Binds.all (nH λ_ _=>rfl));have Aat:jY K aA "value_of" "Walk.value_of" Cv ["self","words"]:=ye a5 i5 l5 c5 k5 (Binds.all (nH λ_ _=>rfl));have Aau:jY K aA "is_above" "Walk.is_above" Cw ["self","words"]:=ye a6 i6 l6 c6 k6 (Binds.all (nH λ_ _=>rfl));have Aa8:jY K aA "repeat" "Walk.repeat" CK ["self","deed"]:=ye a7 i7 l7 c7 k7 (Binds.all (nH λ_ _=>rfl));have AaT:jY K aA "do_deed" "Walk.do_deed" Cz ["self","deed"]:=ye a8 i8 l8 c8 k8 (Binds.all (nH λ_ _=>rfl));have Aa9:jY K aA "choose" "Walk.choose" CJ ["self","deed"]:=ye a9 i9 l9 c9 k9 (Binds.all (nH λ_ _=>rfl));have Aak:jY K aA "go_through" "Walk.go_through" Cy ["self","deeds"]:=ye a10 i10 l10 c10 k10 (Binds.all (nH λ_ _=>rfl));have Aai:di K mg "refuse_bad_given" BW ["program","given"]:=jX X G a11 l11 c11 k11 (Binds.all (nH λ_ _=>rfl));have Ab8:DefX K mg "meaning" BV ["program","given","most"] [.int 400] 2 "most":=Zrp (t:=Wo) X G a12 l12 c12 k12 (λs us hK hl=>by rw[qd]at hl ⊢;exact match us,hl with|[_,_,_],_=>Qv rfl (hK _ _ VH) rfl rfl rfl) (λs us hK hl=>match us,(E_ ((Yt).symm.trans hl):us.length=2)with|[_,_],_=>Qv rfl (hK _ _ VH) rfl rfl rfl) (Zsa (by decide) λs us u hK hl=>match us,hl with|[_,_],_=>Qv rfl (hK _ _ VH) rfl rfl rfl);have AbY:di K mg "boxes_of" BX ["program","given"]:=jX X G a13 l13 c13 k13 (Binds.all (nH λ_ _=>rfl));have AbK:di K mg "_law_draw" BZ ["script","k"]:=jX X G a14 l14 c14 k14 (Binds.all (nH λ_ _=>rfl));have AbL:di K mg "_law_word" B_ ["script","i"]:=jX X G a15 l15 c15 k15 (Binds.all (nH λ_ _=>rfl));have Aba:di K mg "_law_number" Cd ["draw"]:=jX X G a16 l16 c16 k16 (Binds.all (MJ λ_=>rfl));have AbZ:di K mg "_law_sum" Ce ["script","at","names","limit"]:=jX X G a17 l17 c17 k17 (Binds.all (ub4 λ_ _ _ _=>rfl));have Abb:di K mg "_law_closed" Cg ["frames","opens"]:=jX X G a18 l18 c18 k18 (Binds.all (nH λ_ _=>rfl));have Abd:di K mg "_law_opened" Ci ["script","k","frames","opens","names"]:=jX X G a19 l19 c19 k19 (Binds.all (ub5 λ_ _ _ _ _=>rfl));have Abl:di K mg "_law_deeds" Cj ["script","cells","names"]:=jX X G a20 l20 c20 k20 (Binds.all (HX λ_ _ _=>rfl));have AaU:di K mg "_law_program" Ck ["script"]:=jX X G a21 l21 c21 k21 (Binds.all (MJ λ_=>rfl));have Abm:di K mg "_law_given" Cm ["script","program"]:=jX X G a22 l22 c22 k22 (Binds.all (nH λ_ _=>rfl));have AaV:di K mg "_law_refused" Cp ["program","given","bound"]:=jX X G a23 l23 c23 k23 (Binds.all (HX λ_ _ _=>rfl))
 have AaW:di K mg "_law_meaning" Cq ["case","program","given"]:=jX X G a24 l24 c24 k24 (Binds.all (HX λ_ _ _=>rfl));refine⟨fM "law" "law" (cC tX) (bJ tX) (Zj tX) .none Xb Xc Xd WP Og Xe,λs v=>.of_eq rfl,λbase _ _=>?_⟩;have Ny:=Zor (P:=l.prog) (w:=w) (base:=base) Acv T;have Nu:=Zmg (P:=l.prog) (w:=w) (base:=base) Ab7 T;have Nm:=Zk8 (P:=l.prog) (w:=w) (base:=base) AbX T Nu;have MP:=Zg1 (P:=l.prog) (w:=w) (base:=base) aN Aas T;have iw:=ZiG (P:=l.prog) (w:=w) (base:=base) aN Abk T XO;have Afz:=iw.yg;have GG:=Zgd (P:=l.prog) (w:=w) (base:=base) aN Ny Nm iw Aat T 13;have pY:=GG;have Afu:=pY.yg;have Dl:=ZgQ (P:=l.prog) (w:=w) (base:=base) aN Aau T iw pY;have Afv:=Dl.yg;have GG:=ZfG (P:=l.prog) (w:=w) (base:=base) aN Dl iw pY Aak AaT Aa9 Aa8 T 13;obtain⟨HY,AaX,Abe,Abf⟩:=GG;have Afs:=HY.yg;have Afw:=AaX.yg;have Afx:=Abe.yg;have Afy:=Abf.yg;have wz:=ZfH (P:=l.prog) (w:=w) (base:=base) Aai T XO;have Afr:=wz.fn;have rD:=Zmo (P:=l.prog) (w:=w) (base:=base) Ab8 T aN MP HY iw wz;have AfA:=rD.x.fn;have Ie:=Zle (P:=l.prog) (w:=w) (base:=base) AbY T wz;have Np:=Ie.fn;have fJ:=ZjK (P:=l.prog) (w:=w) (base:=base) AbK T;have wB:=Zke (P:=l.prog) (w:=w) (base:=base) AbL T fJ;have rC:=ZiF (P:=l.prog) (w:=w) (base:=base) Aba T;have wC:=Zlr (P:=l.prog) (w:=w) (base:=base) AbZ T fJ rC;have Ia:=Zit (P:=l.prog) (w:=w) (base:=base) Abb T;have Nb:=Zh3 (P:=l.prog) (w:=w) (base:=base) Abd T fJ wB wC;have Nh:=ZiQ (P:=l.prog) (w:=w) (base:=base) Abl T fJ wC Ia Nb;have MT:=Zht (P:=l.prog) (w:=w) (base:=base) AaU T fJ wB Nh;have Ni:=ZiJ (P:=l.prog) (w:=w) (base:=base) Abm T fJ rC;have H_:=Zhr (P:=l.prog) (w:=w) (base:=base) AaV T XO rD Ie;have Dm:=Zhw (P:=l.prog) (w:=w) (base:=base) AaW T XO rD;exact Ztt (Rm (st:=tX) l25 c25 k25) T Np fJ rC MT Ni H_ Dm
end Law
open PySem PySem.W PyProof.Rows
set_option maxRecDepth 100000 in
set_option maxHeartbeats 0 in
theorem PySem.Challenge.cw_stepledger_k75_givens_holds : PySem.Challenge.rw_stepledger_k75_givens.Holds := by
 w_on;o_law;k_head;(case hw=>w_witness2)
 k_fill
 refine L3.ZvX (l:=PySem.Challenge.rw_stepledger_k75_givens) (k:=34) (F:=Law.Zm5) rfl rfl ⟨rfl,by decide,by decide⟩ (λw h Y=>W.kIn_of Y) ?G Law.law_holds
 case G=>
  intro w mg fa h KX G hmg;refine' Law.ZtO KX G hmg ?_ ?_ ?_ ?_ ?_ ?_ ?_ ?_ ?_ ?_ ?_ ?_ ?_ ?_ ?_ ?_ ?_ ?_ ?_ ?_ ?_ ?_ ?_ ?_ ?_ ?_ ?_ ?_ ?_ ?_ ?_ ?_ ?_ ?_ ?_ ?_ ?_ ?_ ?_ ?_ ?_ ?_ ?_ ?_ ?_ ?_ ?_ ?_ ?_ ?_ ?_ ?_ ?_ ?_ ?_ ?_ ?_ ?_ ?_ ?_ ?_ ?_ ?_ ?_ ?_ ?_ ?_ ?_ ?_ ?_ ?_ ?_ ?_ ?_ ?_ ?_ ?_ ?_ ?_ ?_ ?_ ?_ ?_ ?_ ?_ ?_ ?_ ?_ ?_ ?_ ?_ ?_ ?_ ?_ ?_ ?_ ?_ ?_ ?_ ?_ ?_ ?_ ?_ ?_ ?_ ?_ ?_ ?_ ?_ ?_ ?_ ?_ ?_ ?_ ?_ ?_ ?_ ?_ ?_ ?_ ?_ ?_ ?_ ?_ ?_ ?_ ?_ ?_ ?_ ?_ ?_ ?_ ?_ ?_ ?_ ?_ ?_ ?_ ?_ ?_ ?_ ?_ ?_ ?_ ?_ ?_ ?_ ?_ ?_ ?_ ?_ ?_ ?_ ?_ ?_ ?_ ?_ ?_ ?_ ?_ ?_ ?_ ?_ ?_ ?_ ?_ ?_ ?_ ?_ ?_ ?_ ?_ ?_ ?_ ?_ ?_ ?_ ?_ ?_ ?_ ?_ ?_ ?_ ?_ ?_ ?_ ?_ ?_
  all_goals try k_is
  all_goals first|rfl|decide +kernel
