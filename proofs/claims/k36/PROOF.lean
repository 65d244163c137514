import PyProof.Rows.All
import Wide.All
import OpenK.AllK
import Wide.FinOn
import Lean
import PyProof.EqAt
import PyProof.EqKinds
import PyProof.TupleCall
import PySem.Challenge.RW_stepledger_k36_whole_only_the_run_fits
open Option renaming some->Ya,none->Ye,bind_some->iV,map_some->vh,isSome_iff_exists->Kz,toList_some->Ft,bind_eq_some_iff->KC,isSome_some->KD,getD_none->Tw
open PySem.W renaming Frag->Yb,codeIn->dZ,keepIn->d7,nsIn->cT,fnOf->dR,fnOf->tO,mg_none_of->tQ,keepIn->Bm,codeIn->Fv,methodObj->KH,cellsFrom_some->Tz,WalkO->TF,mg_of->TJ
open Nat renaming sub_add_cancel->Yc,le_refl->Yk,le_antisymm->Yt,le_trans->Y4,le_add_right->Y6,lt_of_lt_of_le->Y9,ne_of_lt->dU,lt_of_le_of_ne->iG,le_of_not_lt->iH,zero_le->eV,lt_succ_of_lt->q9,eq_of_beq_eq_true->xR,min_le_left->q_,sub_le->j4,min_le_right->tR,le_of_eq->oU,lt_of_le_of_lt->xT,beq->ig,lt_irrefl->tU,zero_add->tV,le_of_lt->tW,mul_div_le->Fw,min_eq_right->KJ,ble->rm,le_of_ble_eq_true->TQ,min_eq_left->KN,ne_of_gt->Fx,lt_trans->Fy,sub_eq_zero_of_le->TV,le_add_left->KQ,add_le_add_right->TX,mul_le_mul_left->TY,lt_mul_div_succ->T3,lt_of_not_le->T4,succ_ne_self->T5,le_zero->KR,add_le_add->T6
open List renaming getElem?_eq_some_iff->Yd,getElem?_eq_getElem->Yi,replicate->Yj,size_toArray->Yl,mem_cons_self->Ym,length_map->Yn,append_nil->Yr,mem_cons_of_mem->Yu,getElem?_map->Yx,map_cons->Yy,getElem_mem->Y1,getElem?_set_self->Y2,getElem?_cons_succ->Y3,length_append->Y5,mem_cons->Y7,getElem?_cons_zero->Y8,getElem?_append_left->kZ,length_cons->gW,mem_of_getElem?->jo,pairwise_cons->iW,range->dm,getElem?_set_ne->jH,getD_eq_getElem?_getD->oV,filter_cons_of_pos->nq,mem_filter->iY,filter_cons_of_neg->oW,mem_append_right->nA,append_assoc->j5,all_eq_true->jJ,mem_append->jK,getElem?_append_right->tX,lookup_cons->k_,mem_map->iR,mem_singleton->oX,any_eq_true->nC,pairwise_append->rn,take_of_length_le->tY,replicate_succ->rA,any_cons->mj,eq_nil_of_length_eq_zero->Bo,ext_getElem?->rC,filter_append->tZ,filter_eq_nil_iff->xU,filterMap_cons->vm,length_range->t6,mem_range->pR,drop_eq_getElem_cons->Bp,nodup_cons->rD,prefix_append->vo,set_set->oY,map_map->oZ,flatten_cons->vp,mem_filterMap->xV,set_cons_succ->xW,set_cons_zero->xX,getLastD_eq_getLast?->Fz,getElem?_of_mem->Bq,getElem?_take_of_lt->FJ,nil_append->vz,find?_cons->vA,length_filterMap_le->FN,getElem?_replicate->FP,all_cons->t7,map_congr_left->Br,length_take->xY,length_set->xZ,length_singleton->FQ,length_nil->x_,Nodup->pU,pairwise_map->Bs,mem_append_left->FT,getLast?_concat->FW,set_eq_take_append_cons_drop->T7,length->vB,map_nil->yc,dropLast_eq_take->KY,filterMap_append->KZ,eq_nil_or_concat->K1,concat_eq_append->K3,eq_nil_iff_forall_not_mem->T8,length_drop->FZ,not_mem_nil->F_,mem_of_mem_take->K4,mem_of_getLast?->K5,map_append->Ga,filter_eq_self->K6,toArray->Bt,all_nil->Bu,append_of_mem->K7,getLast?_eq_getElem?->T9,drop_zero->Gb,mem_or_eq_of_mem_set->T_,map_dropLast->K8,getLast?_map->K9,map_take->Gd,pairwise_singleton->Ua,getElem_inj->K_,cons_append->La,drop_length->Lb,range_succ_eq_map->Ub,drop_eq_nil_of_le->Uc,of_mem_zip->Ld,length_replicate->Ud,foldl_cons->Le,set_append_right->Ue,length_filter_le->Ug,range_succ->Lf,mem_of_mem_drop->Uh,getElem_range->Ui,find?_eq_none->Uj,filter_filter->Uk,take_sublist->Ul,nodup_append->Um,take_add_one->Uo,map_set->Lg,le_antisymm->Uq,append_inj'->Ur,not_lt->Lh,filter_nil->Us,range'->Li,nodup_nil->Ut,foldl->Lj,getD_nil->Uu,map->Ge,map_drop->Uv,nil_perm->Uw
open PySem renaming wpAny_bind->Yf,Value->Yg,Shared->Yh,mainGlobals->Ys,wpAny_pure->Yw,Addr->Yz,sizeLine->bN,wpAny->aA,Program->cj,starEach->cF,model->aN,assignEach->fO,Around->cG,wpAny_holding->j6,compareOp->gG,mem_of_lookup->rE,World->bO,bootBuiltins->lg,sizeLine_eq->j7,wpAny_loadPart'->yd,wpAny_mono->j8,binaryOp->iI,wpAny_callSpecial?_slot->Bv,wpAny_newObj_type->vC,wpAny_passesOwn->vD,foldedSetIterable->ye,Heap->aY,wpAny_call_entry->yg,wpAny_pyIter_tuple->Bw,holding->jf,sysModules->pW,FuncData->mq,Stmt->Yd1,assign->iy,wpAny_field->t_,letOwnedTupleGo->Bx,sliceBounds->vG,slicePicked->vH,wpAny_pyIter_enum->Yes,eval->bU,cLine->fX,backTo->jq,swapsWithSole->BJ,swappedStores->BK,wpAny_execs_nil->Gf,swapsWith->uc,wpAny_letOwnedTupleGo_enum->Ux,wpAny_Call_Name_kw->Lk,wpAny_typeOf->BL,tupleKind_room_in1->Ln,wpAny_truthy_bool->Lp,wpAny_comprehension_free->Uy,wpAny_standAt->Gg,behindInMarks->Gh,getItem->pX,attributeBase->Gi,noFill_tuple_add->Lq,wpAny_pyNext_list_item->Uz,tupleKind->yh,wpAny_pyNext_list_end->UG,codeAny->rF,wpAny_rule->BP,intText?->Lr,subscripted->Gj,keywordEach->Gk,callerA->ud,pyNext->pY,seq_tuple_add->Ls,getattributeRaised->UJ,standAt->vI,setItem->vJ,wpAny_assign_Name->UL,wpAny_pyIter_list->UT,wpAny_sequenceKey->UV,call_meets->Gm,valueAt->vK,relabel->vL,codeAny_mono->Lw,concat_meets->Lx,seqIndex_neg->Ly,call_meetsIn->Lz,wpAny_pyHash_str->UW,wpAny_eqBool_int->U0,wpAny_eqBool_str->U3,wpAny_execs_cons->U4,BindsTo->yj,seqIndex_of->LC,wpAny_specialOf->U5,codeAny_builtin->U6,builtinsNs->LK,wpAny_Name->LQ,rawInt->vM,typeLookup->LR,typeIs_str->L_,typeIs_int->Ma,call->Mf,release->BR,backToKw->Gn,compEnvC->Gp,cellsFrom->Mg,stored->yo,atKey->rG,seqItems?->Mh,unaryOp->Gq,bindL->ug,bindC->uh,pyIter->BV,Result->BW,Str->aj,Tok->j9,Obj->aV,Env->gH,Sem->pZ,Pos->bQ
open PySem.Heap renaming get?_push_of_some->Yo,lt_size->Yv,get?_push_size->jg,get?_push_ne->yp,size_update->BX,SameBut->yq,get?_update_other->U7,get?_update_self->U8,get?_update_ne->U9,ExtBut->Mi,size_push->U_
open Classical renaming propDecidable->Yp
open Option.some renaming inj->Yq,injEq->nD
open Bool renaming and_eq_true->Y0,false_eq_true->jr,false_ne_true->mz,and_eq_true_iff->vN,or_eq_true->ul,beq_eq_decide_eq->Gr,true_and->yr,and_true->BZ,and_self->B_,false_or->Gs,noConfusion->Mj,eq_iff_iff->Ml,decide_and->Mm,false_and->Mp,not_eq_false'->Va,eq_false_iff->Vb
open Int renaming toNat_of_nonneg->jh,toNat_natCast->o4,self_le_toNat->rH,eq_ofNat_of_zero_le->yt,natCast_nonneg->uo,emod_nonneg->p6,emod_lt_of_pos->vO,le_of_eq->p7,ofNat_lt->p8,le_antisymm->vP,add_zero->vQ,ofNat_le->yu,zero_add->yw,lt_iff_le_and_ne->Mq,ofNat_eq_natCast->Mr,not_lt->vR,le_of_lt->Ca,not_le->yx,lt_mul_ediv_self_add->Vc,natCast_add->Ms,mul_zero->Gu,natCast_mul->Mt,lt_of_lt_of_le->Vd,sub_zero->Mu,min_eq_left->Ve,mul_add->Mv,add_le_add->Vf,ofNat_inj->Vg
open Ne renaming symm->cU
open Array renaming getD_eq_getD_getElem?->Cd,length_toList->Gv,toList->Ce,getElem?_toList->Vh,mem_of_getElem?->Vi,toList_inj->Vj
open False renaming elim->jL
open PyProof.Rows renaming slot_tuple_getitem->Gw,callWith_type1->Mw,slot_tupleiter_next->Gx,kindOf->lw,seqObj->mC,subscriptTail_builtinR->Vk,AllBare->rJ,entry_tupleiter_next->Vl,envOfC->o5,entry_tuple_getitem->Vm,args_tupleiter_next->Vn,le_int->Vo,args_tuple_getitem->Vp,subscriptTail->Mx,listUpdate_at->Mz,size_push'->Gy,SortKind->Gz,seqEpoch_at->MF,Subscript_->MJ
open PySem.Builtin.Str renaming strSliceIndices->GC
open PySem.Builtin.Slice renaming slicePlaces->GD,sliceAdjust->MK,sliceApplied->Vq
open PySem.Builtin.SmallTypes renaming nextOf->GF
open PySem.Builtin.Tuple renaming tupleExact->GJ,tupleItemsOf->Vr
open PySem.F renaming slot_dict_get->GK,args_tuple_add_2->MN,entry_tuple_add->MP,slot_tuple_add->MT,entry_dict_get->M7,args_dict_get_3->Vs,slot_enumerate_next->Vt,slot_int_rmul->Vu
open PySem.Str renaming length->p_,ofString->vU
open PySem.Obj renaming mapSeq->qd,data_mapFields->Vv
open Decidable renaming byContradiction->M8
open PySem.Builtin.List renaming listTooLong->M_
open List.cons renaming injEq->Cg,inj->Nb
open Array.Perm renaming refl->Ci
open PySem.SeqAt renaming EqAt->uq
open PyProof.Rows.KTD renaming datumAt->vV,TabOf->Cj
open PySem.Calls renaming Name_function_global->Vw,spliced_cons->Nf,callWith_builtin->Vx,evalArgs_plain->Vy,spliced_nil->Vz
open PySem.SeqAt.EqAt renaming int_str->Ng,str_int->Nh,same->Ni,none_bool->VB,bool_none->VD,bool_bool->VF,none_int->VG,none_str->VH,bool_int->VJ,bool_str->VL,int_none->VN,int_bool->VP,str_none->VR,str_bool->VV,int_int->V0,str_str->V1
open List.Perm renaming cons_inv->Nj
open List.Pairwise renaming imp_of_mem->V2
open OfNat renaming ofNat->Ck
open PySem.Builtin.Dict renaming updateFrom->V3
open PySem.PassesOwn renaming never->Nk
open PySem.Around renaming under_plainId->V4
open PySem.Heap.SameBut renaming update->V5
open PySem.Paired renaming length->Nm
open Function renaming comp_def->V6
open PySem.SeqAt.RcAt renaming tuples->V7
open Eq renaming trans->Cm
open PySem.Heap.DictOf renaming new->V8
open PySem.Walks renaming dictKeys->V9
open PySem.Value renaming isStrOf->V_
open Prod renaming ext->Np
open Min renaming min->iJ
namespace L3
set_option compiler.extract_closed false
set_option genSizeOf false in
set_option genInjectivity false in
inductive AE where
 |v (i:Nat)
 |k (n:Nat)
 |a (x y:AE)
 |m (n:Nat) (x:AE)
noncomputable def GP:List Nat->Nat->Nat
 |[],_=>0|x::_,0=>x|_::l,n+1=>GP l n
noncomputable def AE.ev(c:List Nat):AE->Nat
 | .v i=>GP c i|.k n=>n|.a x y=>x.ev c+y.ev c|.m n x=>n*x.ev c
noncomputable def aL:List Nat->List Nat->List Nat
 |[],r=>r|x::l,[]=>x::l|x::l,y::r=>(x+y)::aL l r
noncomputable def sL(n:Nat):List Nat->List Nat
 |[]=>[]|x::l=>(n*x)::sL n l
noncomputable def uL:Nat->List Nat
 |0=>[1]|n+1=>0::uL n
noncomputable def AE.li:AE->List Nat
 | .v i=>0::uL i|.k n=>[n]|.a x y=>aL x.li y.li|.m n x=>sL n x.li
noncomputable def dt:List Nat->List Nat->Nat
 |x::c,y::l=>x*y+dt c l|[],_=>0|_,[]=>0
noncomputable def vW:List Nat->List Nat->Bool
 |[],_=>true|x::l,[]=>rm x 0&&vW l []|x::l,y::r=>rm x y&&vW l r
theorem nF:∀c,dt c []=0
 |[]=>rfl|_::_=>rfl
theorem qe:∀c l r,dt c (aL l r)=dt c l+dt c r
 |c,[],r=>by rw[nF,tV];rfl|c,x::l,[]=>by rw[nF];rfl|[],x::l,y::r=>rfl|z::c,x::l,y::r=>by show z*(x+y)+dt c (aL l r)=_;rw[qe c l r,Nat.mul_add];exact Nat.add_add_add_comm _ _ _ _
theorem Cp(n:Nat):∀c l,dt c (sL n l)=n*dt c l
 |c,[]=>by rw[nF];exact nF c|[],x::l=>rfl|z::c,x::l=>by show z*(n*x)+dt c (sL n l)=n*(z*x+dt c l);rw[Cp n c l,Nat.mul_add,Nat.mul_left_comm]
theorem Wa:∀c i,dt c (uL i)=GP c i
 |[],0=>rfl|[],_+1=>rfl|x::c,0=>by show x*1+dt c []=x;rw[nF,Nat.mul_one];rfl|x::c,n+1=>by show x*0+dt c (uL n)=GP c n;rw[Wa c n,Nat.mul_zero,tV]
theorem yC:∀c l r,vW l r=true->dt c l<=dt c r
 |c,[],r,_=>by rw[nF];exact eV _|[],x::l,r,_=>eV _|z::c,x::l,[],h=>by have h:=(Y0 _ _).mp h;have e:x=0:=KR.1 (TQ h.1);have i:=yC c l [] h.2;rw[nF]at i;show z*x+dt c l<=0;rw[e,KR.1 i];exact Yk 0|z::c,x::l,y::r,h=>
  have h:=(Y0 _ _).mp h
  T6 (TY z (TQ h.1)) (yC c l r h.2)
theorem AE.fB(c:List Nat):∀e:AE,dt (1::c) e.li=e.ev c
 | .v i=>(tV _).trans (Wa c i)|.k n=>by show 1*n+dt c []=n;rw[nF,Nat.one_mul];rfl|.a x y=>(qe _ _ _).trans (congr (congrArg _ (x.fB c)) (y.fB c))|.m n x=>(Cp n _ _).trans (congrArg _ (x.fB c))
noncomputable def cH:Nat->Nat->AE×Nat
 |0,s=>(.k 0,s)|f+1,s=>bif rm (s % 16) 9 then(.v (s % 16),s / 16)else bif ig (s % 16) 10 then(.k 1,s / 16)
  else bif ig (s % 16) 11 then(.k (s / 256 % 16^(s / 16 % 16)),s / 256 / 16^(s / 16 % 16))
  else bif ig (s % 16) 12 then(.a (cH f (s / 16)).1 (cH f (cH f (s / 16)).2).1,(cH f (cH f (s / 16)).2).2)
  else bif ig (s % 16) 13 then(.m (s / 16 % 256) (cH f (s / 4096)).1,(cH f (s / 4096)).2)
  else(.k 0,s / 16)
noncomputable def Cq:Nat->Nat->Nat->Prop
 |0,x,y=>x<=y|1,x,y=>x<y|2,x,y=>x=y|3,x,y=>x=y
 |4,x,y=>¬x<=y|5,x,y=>¬x<y|_,_,_=>False
noncomputable def Nq:Nat->AE->AE->List Nat
 |0,x,_=>x.li|1,x,_=>aL [1] x.li|2,x,_=>x.li|4,_,y=>aL [1] y.li
 |_,_,y=>y.li
noncomputable def Cr:Nat->AE->AE->List Nat
 |0,_,y=>y.li|1,_,y=>y.li|2,_,y=>y.li|_,x,_=>x.li
noncomputable def rK(c:List Nat):Nat->Nat->Prop
 |0,s=>Cq (s % 16) ((cH 9 (s / 16)).1.ev c) ((cH 9 (cH 9 (s / 16)).2).1.ev c)|n+1,s=>Cq (s / 16 % 16) ((cH 9 (s / 256)).1.ev c) ((cH 9 (cH 9 (s / 256)).2).1.ev c)->rK c n (cH 9 (cH 9 (s / 256)).2).2
noncomputable def gN:Nat->AE->AE->List Nat->List Nat->Bool
 |0,x,y,L,R=>vW (aL R x.li) (aL L y.li)|1,x,y,L,R=>vW (aL [1] (aL R x.li)) (aL L y.li)|_,_,_,L,R=>vW (aL [1] R) L
noncomputable def rN:Nat->Nat->List Nat->List Nat->Bool
 |0,s,L,R=>gN (s % 16) (cH 9 (s / 16)).1 (cH 9 (cH 9 (s / 16)).2).1 L R|n+1,s,L,R=>rN n (cH 9 (cH 9 (s / 256)).2).2 (aL L (sL (s % 16) (Nq (s / 16 % 16) (cH 9 (s / 256)).1 (cH 9 (cH 9 (s / 256)).2).1))) (aL R (sL (s % 16) (Cr (s / 16 % 16) (cH 9 (s / 256)).1 (cH 9 (cH 9 (s / 256)).2).1)))
theorem Cu(c l:List Nat):dt (1::c) (aL [1] l)=dt (1::c) l+1:=by rw[qe];show 1*1+dt c []+_=_;rw[nF];exact Nat.add_comm _ _
theorem Wb(c:List Nat)(x y:AE):∀r,Cq r (x.ev c) (y.ev c)->dt (1::c) (Nq r x y)<=dt (1::c) (Cr r x y)
 |0,h=>by show dt _ x.li<=dt _ y.li;rw[x.fB,y.fB];exact h|1,h=>by show dt _ (aL [1] x.li)<=dt _ y.li;rw[Cu,x.fB,y.fB];exact h|2,h=>by show dt _ x.li<=dt _ y.li;rw[x.fB,y.fB];exact oU h|3,h=>by show dt _ y.li<=dt _ x.li;rw[x.fB,y.fB];exact oU h.symm
 |4,h=>by show dt _ (aL [1] y.li)<=dt _ x.li;rw[Cu,x.fB,y.fB];exact T4 h|5,h=>by show dt _ y.li<=dt _ x.li;rw[x.fB,y.fB];exact iH h|_+6,h=>h.elim
theorem ZvO(c:List Nat)(x y:AE)(L R:List Nat)(h:dt (1::c) L<=dt (1::c) R):∀r,gN r x y L R=true->Cq r (x.ev c) (y.ev c)
 |0,k=>by have e:=yC (1::c) _ _ k;rw[qe,qe,x.fB,y.fB]at e;exact Nat.le_of_add_le_add_left (Y4 e (TX h _))|1,k=>by have e:=yC (1::c) _ _ k;rw[Cu,qe,qe,x.fB,y.fB]at e;exact Nat.lt_of_add_lt_add_left (Y4 e (TX h _))|r+2,k=>by have e:=yC (1::c) _ _ k;rw[Cu]at e;exact absurd (Y4 e h) (Nat.not_succ_le_self _)
variable{a b c:Nat}
theorem Wc(c:List Nat):∀(n s:Nat) (L R:List Nat),dt (1::c) L<=dt (1::c) R->rN n s L R=true->rK c n s
 |0,s,L,R,h,k=>ZvO c _ _ L R h _ k|n+1,s,L,R,h,k=>λg=>Wc c n _ _ _ (by rw[qe,qe,Cp,Cp];exact T6 h (TY _ (Wb c _ _ _ g))) k
end L3
theorem lN(c:List Nat)(n s:Nat)(h:L3.rN n s [] []=true):L3.rK c n s:=L3.Wc c n s [] [] (Yk _) h
theorem bZ(a b:Nat):a<=a-b+b:=Nat.le_add_of_sub_le (Yk _)
theorem T1:true=true:=rfl
theorem lA(n s:Nat)(y:L3.rN n s [] []=true):L3.rK [a] n s:=lN _ n s y
theorem lB(n s:Nat)(y:L3.rN n s [] []=true):L3.rK [a,b] n s:=lN _ n s y
theorem lC(n s:Nat)(y:L3.rN n s [] []=true):L3.rK [a,b,c] n s:=lN _ n s y
theorem lD{d:Nat}(n s:Nat)(y:L3.rN n s [] []=true):L3.rK [a,b,c,d] n s:=lN _ n s y
theorem lE{d e:Nat}(n s:Nat)(y:L3.rN n s [] []=true):L3.rK [a,b,c,d,e] n s:=lN _ n s y
theorem lF{d e f:Nat}(n s:Nat)(y:L3.rN n s [] []=true):L3.rK [a,b,c,d,e,f] n s:=lN _ n s y
theorem Wd(w:Int):max w 0=(w.toNat:Int):=(Int.ofNat_toNat w).symm
theorem Wf(v:Int)(n:Nat)(h:¬v<0):iJ v (n:Int)=((iJ v.toNat n:Nat):Int):=by
 obtain⟨k,rfl⟩:=yt (vR.1 h);rcases Nat.le_total k n with z|z
 .rw[Ve (yu.2 z)];exact congrArg Int.ofNat (KN z).symm
 .rw[Int.min_eq_right (yu.2 z)];exact congrArg Int.ofNat (KJ z).symm
theorem Nr(v:Int)(n:Nat)(h:v<0):max 0 (iJ (v+(n:Int)) (n:Int))=((v+(n:Int)).toNat:Int):=by rw[Ve (Ca (Vd (Int.add_lt_add_right h _) (p7 (yw _)))),Int.max_comm];exact Wd _
theorem Nt(v:Int)(n:Nat)(h:¬v<0):max 0 (iJ v (n:Int))=((iJ v.toNat n:Nat):Int):=by rw[Wf v n h];exact Int.max_eq_right (uo _)
namespace L3
set_option genSizeOf false in
set_option genInjectivity false in
inductive AI where
 |v (i:Nat)
 |k (n:Nat)
 |c (e:AE)
 |a (x y:AI)
 |s (x y:AI)
 |g (x:AI)
 |m (n:Nat) (x:AI)
noncomputable def Cv:List Int->Nat->Int
 |[],_=>0|x::_,0=>x|_::l,n+1=>Cv l n
noncomputable def AI.ev(c:List Nat)(d:List Int):AI->Int
 | .v i=>Cv d i|.k n=>Int.ofNat n|.c e=>((e.ev c:Nat):Int)|.a x y=>x.ev c d+y.ev c d
 | .s x y=>x.ev c d-y.ev c d|.g x=>-x.ev c d|.m n x=>Int.ofNat n*x.ev c d
noncomputable def pL(u w:List Nat×List Nat):List Nat×List Nat:=(aL u.1 w.1,aL u.2 w.2)
noncomputable def AI.li:AI->Bool->List Nat×List Nat
 | .v i,b=>bif b then([],uL i)else([],[])|.k n,b=>bif b then([n],[])else([],[])|.c e,b=>bif b then(e.li,[])else([],[])|.a x y,b=>pL (x.li b) (y.li b)
 | .s x y,b=>pL (x.li b) (y.li (!b))|.g x,b=>x.li (!b)|.m n x,b=>(sL n (x.li b).1,sL n (x.li b).2)
noncomputable def eX:List Int->List Nat->Int
 |x::c,y::l=>x*(y:Int)+eX c l|[],_=>0|_,[]=>0
noncomputable def dI(c:List Nat)(d:List Int)(u:List Nat×List Nat):Int:=((dt (1::c) u.1:Nat):Int)+eX d u.2
theorem Wg(p q r s:Int):p+q+(r+s)=p+r+(q+s):=by omega
theorem nG:∀c,eX c []=0
 |[]=>rfl|_::_=>rfl
theorem Wh:∀c l r,eX c (aL l r)=eX c l+eX c r
 |c,[],r=>by rw[nG,yw];rfl|c,x::l,[]=>by rw[nG,vQ];rfl|[],x::l,y::r=>rfl|z::c,x::l,y::r=>by show z*((x+y:Nat):Int)+eX c (aL l r)=(z*x+eX c l)+(z*y+eX c r);rw[Wh c l r,Ms,Mv];exact Wg _ _ _ _
theorem Wi(n:Nat):∀c l,eX c (sL n l)=Int.ofNat n*eX c l
 |c,[]=>by rw[nG,Gu];exact nG c|[],x::l=>(Gu _).symm|z::c,x::l=>by show z*((n*x:Nat):Int)+eX c (sL n l)=Int.ofNat n*(z*x+eX c l);rw[Wi n c l,Mv,Mt,Int.mul_left_comm];rfl
theorem Wj:∀c i,eX c (uL i)=Cv c i
 |[],0=>rfl|[],_+1=>rfl|x::c,0=>by show x*1+eX c []=x;rw[nG,Int.mul_one,vQ]|x::c,n+1=>by show x*0+eX c (uL n)=Cv c n;rw[Wj c n,Gu,yw]
section
variable (c:List Nat) (d:List Int)
theorem jM(u w:List Nat×List Nat):dI c d (pL u w)=dI c d u+dI c d w:=by show((dt (1::c) (aL u.1 w.1):Nat):Int)+eX d (aL u.2 w.2)=_;rw[qe,Wh,Ms];exact Wg _ _ _ _
theorem GQ(n:Nat)(u:List Nat×List Nat):dI c d (sL n u.1,sL n u.2)=Int.ofNat n*dI c d u:=by show((dt (1::c) (sL n u.1):Nat):Int)+eX d (sL n u.2)=_;rw[Cp,Wi,Mt];exact(Mv _ _ _).symm
theorem Nu:dI c d ([],[])=0:=by show((dt (1::c) []:Nat):Int)+eX d []=0;rw[nF,nG];rfl
theorem Zta(p q r s:Int):p-q+(r-s)=p+r-(q+s):=by omega
theorem Wk(p q r s:Int):p-q-(r-s)=p+s-(q+r):=by omega
theorem AI.fB:∀e:AI,e.ev c d=dI c d (e.li true)-dI c d (e.li false)
 | .v i=>by show Cv d i=dI c d ([],uL i)-dI c d ([],[]);rw[Nu,Mu];show _=((dt (1::c) []:Nat):Int)+eX d (uL i);rw[nF,Wj];exact(yw _).symm|.k n=>by show Int.ofNat n=dI c d ([n],[])-dI c d ([],[]);rw[Nu,Mu];show _=((dt (1::c) [n]:Nat):Int)+eX d [];rw[nG,vQ];show _=((1*n+dt c []:Nat):Int);rw[nF,Nat.one_mul];rfl|.c e=>by show((e.ev c:Nat):Int)=dI c d (e.li,[])-dI c d ([],[]);rw[Nu,Mu];show _=((dt (1::c) e.li:Nat):Int)+eX d [];rw[nG,vQ,e.fB]|.a x y=>by show x.ev c d+y.ev c d=dI c d (pL (x.li true) (y.li true))-dI c d (pL (x.li false) (y.li false));rw[jM,jM,x.fB,y.fB];exact Zta _ _ _ _
 | .s x y=>by show x.ev c d-y.ev c d=dI c d (pL (x.li true) (y.li false))-dI c d (pL (x.li false) (y.li true));rw[jM,jM,x.fB,y.fB];exact Wk _ _ _ _|.g x=>by show -x.ev c d=dI c d (x.li false)-dI c d (x.li true);rw[x.fB];exact Int.neg_sub _ _|.m n x=>by show Int.ofNat n*x.ev c d=dI c d (sL n (x.li true).1,sL n (x.li true).2)-dI c d (sL n (x.li false).1,sL n (x.li false).2);rw[GQ,GQ,x.fB];exact Int.mul_sub _ _ _
noncomputable def cI(x y:AI):List Nat×List Nat:=pL (x.li true) (y.li false)
noncomputable def vX(u:List Nat×List Nat):List Nat×List Nat:=(aL [1] u.1,u.2)
theorem GR(u:List Nat×List Nat):dI c d (vX u)=dI c d u+1:=by show((dt (1::c) (aL [1] u.1):Nat):Int)+eX d u.2=((dt (1::c) u.1:Nat):Int)+eX d u.2+1;rw[Cu,Ms,Int.add_right_comm];rfl
theorem GX(x y:AI):dI c d (cI x y)-dI c d (cI y x)=x.ev c d-y.ev c d:=by unfold cI;rw[jM,jM,x.fB,y.fB,Wk,Int.add_comm (dI c d (y.li true))]
theorem GZ{x y:AI}(h:x.ev c d<=y.ev c d):dI c d (cI x y)<=dI c d (cI y x):=by have:=GX c d x y;omega
theorem ZvY{x y:AI}(h:dI c d (cI x y)<=dI c d (cI y x)):x.ev c d<=y.ev c d:=by have:=GX c d x y;omega
noncomputable def Wl:Nat->Int->Int->Prop
 |0,x,y=>x<=y|1,x,y=>x<y|2,x,y=>x=y|3,x,y=>x=y
 |4,x,y=>¬x<=y|5,x,y=>¬x<y|_,_,_=>False
noncomputable def Wm:Nat->AI->AI->List Nat×List Nat
 |0,x,y=>cI x y|1,x,y=>vX (cI x y)|2,x,y=>cI x y|4,x,y=>vX (cI y x)
 |_,x,y=>cI y x
noncomputable def Wn:Nat->AI->AI->List Nat×List Nat
 |0,x,y=>cI y x|1,x,y=>cI y x|2,x,y=>cI y x|_,x,y=>cI x y
theorem Wo{x y:AI}(h:x.ev c d<y.ev c d):dI c d (vX (cI x y))<=dI c d (cI y x):=by have:=GX c d x y;rw[GR];omega
theorem Ztf(x y:AI):∀r,Wl r (x.ev c d) (y.ev c d)->dI c d (Wm r x y)<=dI c d (Wn r x y)
 |0,h=>GZ c d h|1,h=>Wo c d h|2,h=>GZ c d (p7 h)|3,h=>GZ c d (p7 h.symm)
 |4,h=>Wo c d (yx.1 h)|5,h=>GZ c d (vR.1 h)|_+6,h=>h.elim
end
noncomputable def cR:Nat->Nat->AI×Nat
 |0,s=>(.k 0,s)|f+1,s=>bif rm (s % 16) 7 then(.v (s % 16),s / 16)else bif ig (s % 16) 8 then(.c (cH 9 (s / 16)).1,(cH 9 (s / 16)).2)
  else bif ig (s % 16) 9 then(.g (cR f (s / 16)).1,(cR f (s / 16)).2)else bif ig (s % 16) 10 then(.k 1,s / 16)
  else bif ig (s % 16) 11 then(.k (s / 256 % 16^(s / 16 % 16)),s / 256 / 16^(s / 16 % 16))
  else bif ig (s % 16) 12 then(.a (cR f (s / 16)).1 (cR f (cR f (s / 16)).2).1,(cR f (cR f (s / 16)).2).2)
  else bif ig (s % 16) 13 then(.m (s / 16 % 256) (cR f (s / 4096)).1,(cR f (s / 4096)).2)
  else bif ig (s % 16) 14 then(.k 0,s / 16)else(.s (cR f (s / 16)).1 (cR f (cR f (s / 16)).2).1,(cR f (cR f (s / 16)).2).2)
def hP(c:List Nat)(d:List Int)(r s:Nat):Prop:=bif rm 8 r then Wl (r-8) ((cR 9 s).1.ev c d) ((cR 9 (cR 9 s).2).1.ev c d)else Cq r ((cH 9 s).1.ev c) ((cH 9 (cH 9 s).2).1.ev c)
noncomputable def hR(r s:Nat):Nat:=bif rm 8 r then(cR 9 (cR 9 s).2).2 else(cH 9 (cH 9 s).2).2
noncomputable def hL(r s:Nat):List Nat×List Nat:=bif rm 8 r then Wm (r-8) (cR 9 s).1 (cR 9 (cR 9 s).2).1 else(Nq r (cH 9 s).1 (cH 9 (cH 9 s).2).1,[])
noncomputable def hH(r s:Nat):List Nat×List Nat:=bif rm 8 r then Wn (r-8) (cR 9 s).1 (cR 9 (cR 9 s).2).1 else(Cr r (cH 9 s).1 (cH 9 (cH 9 s).2).1,[])
theorem Zvr(c:List Nat)(d:List Int)(r s:Nat)(h:hP c d r s):dI c d (hL r s)<=dI c d (hH r s):=by
 unfold hP at h;unfold hL hH;cases e:rm 8 r<;>rw[e]at h
 .exact Int.add_le_add_right (yu.2 (Wb c _ _ _ h)) _
 .exact Ztf c d _ _ _ h
noncomputable def zL:List Nat->Bool
 |[]=>true|x::l=>ig x 0&&zL l
noncomputable def Nv:List Nat->List Nat->Bool
 |[],r=>zL r|x::l,[]=>ig x 0&&zL l|x::l,y::r=>ig x y&&Nv l r
theorem Nx:∀c l,zL l=true->eX c l=0
 |c,[],_=>nG c|[],x::l,_=>rfl|z::c,x::l,h=>by have h:=(Y0 _ _).mp h;show z*(x:Int)+eX c l=0;rw[xR h.1,Nx c l h.2,vQ];exact Gu z
theorem Wq:∀c l r,Nv l r=true->eX c l=eX c r
 |c,[],r,h=>(nG c).trans (Nx c r h).symm|c,x::l,[],h=>(Nx c (x::l) h).trans (nG c).symm|[],x::l,y::r,_=>rfl|z::c,x::l,y::r,h=>by have h:=(Y0 _ _).mp h;show z*(x:Int)+eX c l=z*(y:Int)+eX c r;rw[xR h.1,Wq c l r h.2]
noncomputable def yD(u w:List Nat×List Nat):Bool:=vW u.1 w.1&&Nv u.2 w.2
theorem Cw(c:List Nat)(d:List Int){u w:List Nat×List Nat}(h:yD u w=true):dI c d u<=dI c d w:=by have h:=(Y0 _ _).mp h;exact Vf (yu.2 (yC _ _ _ h.1)) (p7 (Wq d _ _ h.2))
noncomputable def Ny(c:List Nat)(d:List Int):Nat->Nat->Prop
 |0,s=>hP c d (s % 16) (s / 16)|n+1,s=>hP c d (s / 16 % 16) (s / 256)->Ny c d n (hR (s / 16 % 16) (s / 256))
noncomputable def gI(r s:Nat)(L R:List Nat×List Nat):Bool:=bif ig r 0 then yD (pL R ((cH 9 s).1.li,[])) (pL L ((cH 9 (cH 9 s).2).1.li,[]))
 else bif ig r 1 then yD (vX (pL R ((cH 9 s).1.li,[]))) (pL L ((cH 9 (cH 9 s).2).1.li,[]))
 else bif ig r 8 then yD (pL R (cI (cR 9 s).1 (cR 9 (cR 9 s).2).1)) (pL L (cI (cR 9 (cR 9 s).2).1 (cR 9 s).1))
 else bif ig r 9 then yD (vX (pL R (cI (cR 9 s).1 (cR 9 (cR 9 s).2).1))) (pL L (cI (cR 9 (cR 9 s).2).1 (cR 9 s).1))
 else yD (vX R) L
noncomputable def Nz:Nat->Nat->List Nat×List Nat->List Nat×List Nat->Bool
 |0,s,L,R=>gI (s % 16) (s / 16) L R|n+1,s,L,R=>Nz n (hR (s / 16 % 16) (s / 256)) (pL L (sL (s % 16) (hL (s / 16 % 16) (s / 256)).1,sL (s % 16) (hL (s / 16 % 16) (s / 256)).2)) (pL R (sL (s % 16) (hH (s / 16 % 16) (s / 256)).1,sL (s % 16) (hH (s / 16 % 16) (s / 256)).2))
theorem G4(c:List Nat)(d:List Int)(e:AE):dI c d (e.li,[])=((e.ev c:Nat):Int):=by show((dt (1::c) e.li:Nat):Int)+eX d []=_;rw[nG,vQ,e.fB]
theorem Wr{a b l r:Int}(h:l<=r)(e:r+a<=l+b):a<=b:=by omega
theorem Ws{a b l r:Int}(h:l<=r)(e:r+a+1<=l+b):a<b:=by omega
theorem Zs9{l r:Int}(h:l<=r)(e:r+1<=l):False:=by omega
theorem ZvU(c:List Nat)(d:List Int)(r s:Nat)(L R:List Nat×List Nat)(h:dI c d L<=dI c d R)(k:gI r s L R=true):hP c d r s:=by
 unfold gI at k;cases e0:ig r 0 with
 |true=>rw[xR e0]at k ⊢;have e:=Cw c d k;rw[jM,jM,G4,G4]at e;exact yu.1 (Wr h e)|false=>
  cases e1:ig r 1 with
  |true=>rw[xR e1]at k ⊢;have e:=Cw c d k;rw[GR,jM,jM,G4,G4]at e;exact p8.1 (Ws h e)|false=>
   cases e8:ig r 8 with
   |true=>rw[xR e8]at k ⊢;have e:=Cw c d k;rw[jM,jM]at e;exact ZvY c d (Wr h e)|false=>
    cases e9:ig r 9 with
    |true=>rw[xR e9]at k ⊢;have e:=Cw c d k;rw[GR,jM,jM]at e;have z:=Ws h e;have y:=GX c d (cR 9 s).1 (cR 9 (cR 9 s).2).1;show(cR 9 s).1.ev c d<(cR 9 (cR 9 s).2).1.ev c d;exact Int.lt_of_sub_neg (y▸Int.sub_neg_of_lt z)|false=>rw[e0,e1,e8,e9]at k;have e:=Cw c d k;rw[GR]at e;exact(Zs9 h e).elim
theorem Wt(c:List Nat)(d:List Int):∀(n s:Nat) (L R:List Nat×List Nat),dI c d L<=dI c d R->Nz n s L R=true->Ny c d n s
 |0,s,L,R,h,k=>ZvU c d _ _ L R h k|n+1,s,L,R,h,k=>λg=>Wt c d n _ _ _ (by rw[jM,jM,GQ,GQ];exact Vf h (Int.mul_le_mul_of_nonneg_left (Zvr c d _ _ g) (uo _))) k
end L3
theorem iN(c:List Nat)(d:List Int)(n s:Nat)(h:L3.Nz n s ([],[]) ([],[])=true):L3.Ny c d n s:=L3.Wt c d n s ([],[]) ([],[]) (Int.le_refl _) h
set_option Elab.async false
set_option linter.all false
set_option maxRecDepth 100000
namespace L2
open PySem PySem.Spec PyProof.Rows
noncomputable abbrev Key:=Sum Int aj
noncomputable def vY:Key->Yg->Bool
 | .inl k,v=>Value.isInt k v|.inr x,v=>V_ x v
noncomputable def Zxe(w:bO):Key->Int
 | .inl k=>hashInt k|.inr x=>hashStr w x
theorem ql:∀{k:Key} {v:Yg},vY k v=true->(∃i t,k=Sum.inl i/\v=Value.int i t)\/(∃x t,k=Sum.inr x/\v=Value.str x t)
 | .inl i,v,h=>by obtain⟨t,e⟩:=Value.isInt_shape (k:=i) (v:=v) h;exact .inl ⟨i,t,rfl,e⟩|.inr x,v,h=>by obtain⟨t,e⟩:=Value.isStrOf_shape (x:=x) (v:=v) h;exact .inr ⟨x,t,rfl,e⟩
theorem ZoN(i:Int)(t:j9):vY (.inl i) (.int i t)=true:=by simp[vY,Value.isInt]
theorem Zpe(x:aj)(t:j9):vY (.inr x) (.str x t)=true:=by simp[vY,V_]
theorem Zun(a b:Int):decide ((Sum.inl a:Key)=Sum.inl b)=(a==b):=by
 by_cases e:a=b
 .subst e;simp
 .have h:¬(Sum.inl a:Key)=Sum.inl b:=λq=>e (Sum.inl.inj q);rw[decide_eq_false h];exact(beq_eq_false_iff_ne.mpr e).symm
theorem Zur(a b:aj):decide ((Sum.inr a:Key)=Sum.inr b)=decide (a=b):=by
 by_cases e:a=b
 .subst e;simp
 .have h:¬(Sum.inr a:Key)=Sum.inr b:=λq=>e (Sum.inr.inj q);rw[decide_eq_false h,decide_eq_false e]
theorem Ztt(a:Int)(b:aj):decide ((Sum.inl a:Key)=Sum.inr b)=false:=decide_eq_false (λq=>nomatch q)
theorem Ztz(a:aj)(b:Int):decide ((Sum.inr a:Key)=Sum.inl b)=false:=decide_eq_false (λq=>nomatch q)
noncomputable def fY(prog:cj)(w:bO):PySem.KeyKind prog w Key where
 is:=vY
 hash:=Zxe w
 inj:=λv a b ha hb=>by
  rcases ql ha with⟨i,t,rfl,rfl⟩|⟨x,t,rfl,rfl⟩
  .rcases ql hb with⟨j,u,rfl,e⟩|⟨y,u,rfl,e⟩
   .injection e with e1 _;rw[e1]
   .exact nomatch e
  .rcases ql hb with⟨j,u,rfl,e⟩|⟨y,u,rfl,e⟩
   .exact nomatch e
   .injection e with e1 _;rw[e1]
 byValue:=λk v h=>by rcases ql h with⟨i,t,rfl,rfl⟩|⟨x,t,rfl,rfl⟩<;>rfl
 pyHash:=λhv h=>by
  rcases ql hv with⟨i,t,rfl,rfl⟩|⟨x,t,rfl,rfl⟩
  .exact wpAny_pyHash_int h
  .exact UW h
 eqBool:=λhu hv h=>by
  rcases ql hu with⟨i,t,rfl,rfl⟩|⟨x,t,rfl,rfl⟩
  .rcases ql hv with⟨j,u,rfl,rfl⟩|⟨y,u,rfl,rfl⟩
   .rw[Zun]at h;exact U0 h
   .rw[Ztt]at h;exact Ng i t y u _ _ _ _ h
  .rcases ql hv with⟨j,u,rfl,rfl⟩|⟨y,u,rfl,rfl⟩
   .rw[Ztz]at h;exact Nh x t j u _ _ _ _ h
   .rw[Zur]at h;exact U3 h
 «strs»:=λk x t v h=>by
  rcases ql h with⟨i,u,rfl,e⟩|⟨y,u,rfl,e⟩
  .exact nomatch e
  .injection e with e1 _
   subst e1;cases v<;>rfl
theorem ZmY(prog:cj)(w:bO)(k:Key)(v:Yg):(fY prog w).is k v=vY k v:=rfl
theorem ZlK(prog:cj)(w:bO)(i:Int)(t:j9):(fY prog w).is (.inl i) (.int i t)=true:=ZoN i t
theorem Zma(prog:cj)(w:bO)(x:aj)(t:j9):(fY prog w).is (.inr x) (.str x t)=true:=Zpe x t
end L2
namespace L2
open PySem PySem.Spec PyProof.Rows
inductive V where
 |non|bl (b:Bool)|int (i:Int)|str (x:aj)|Cy (b:Array UInt8)|flt (b:UInt64)|ref (a:Yz)|ty (n:String)
 deriving DecidableEq
noncomputable def RelV:V->Yg->Prop
 | .non,u=>u=Value.none|.bl b,u=>u=Value.bool b|.int i,u=>∃t,u=Value.int i t|.str x,u=>∃t,u=Value.str x t
 | .Cy b,u=>∃t,u=Value.bytes b t|.flt b,u=>∃t,u=Value.float b t|.ref a,u=>u=Value.ref a|.ty n,u=>u=Value.type n
noncomputable abbrev Vals:List V->List Yg->Prop:=Paired RelV
theorem Vals.length{xs:List V}{us:List Yg}(r:Vals xs us):xs.length=us.length:=Nm r
theorem Vals.get:∀{xs:List V} {us:List Yg} {i:Nat} {x:V},Vals xs us->xs[i]?=Ya x->∃u,us[i]?=Ya u/\RelV x u
 |_,_,_,_,.nil,e=>by simp at e|_,_,0,_,.cons r _,e=>by simp at e;subst e;exact⟨_,rfl,r⟩|_,_,i+1,x,.cons _ t,e=>by obtain⟨u,h1,h2⟩:=Vals.get (i:=i) (x:=x) t (by simpa using e);exact⟨u,by simpa using h1,h2⟩
theorem Vals.set{x:V}{u:Yg}(r:RelV x u):∀{xs:List V} {us:List Yg} (i:Nat),Vals xs us->Vals (xs.set i x) (us.set i u)
 |_,_,_,.nil=>.nil|_,_,0,.cons _ t=>.cons r t|_,_,i+1,.cons q t=>.cons q (Vals.set r i t)
theorem Vals.append:∀{xs ys:List V} {us ws:List Yg},Vals xs us->Vals ys ws->Vals (xs++ys) (us++ws)
 |_,_,_,_,.nil,s=>s|_,_,_,_,.cons r t,s=>.cons r (Vals.append t s)
theorem Vals.take:∀{xs:List V} {us:List Yg} (n:Nat),Vals xs us->Vals (xs.take n) (us.take n)
 |_,_,0,_=>.nil|_,_,_+1,.nil=>.nil|_,_,n+1,.cons r t=>.cons r (Vals.take n t)
theorem Vals.drop:∀{xs:List V} {us:List Yg} (n:Nat),Vals xs us->Vals (xs.drop n) (us.drop n)
 |_,_,0,r=>r|_,_,_+1,.nil=>.nil|_,_,n+1,.cons _ t=>Vals.drop n t
noncomputable def nH:Option V->Option Yg->Prop
 |some v,Ya u=>RelV v u|none,Ye=>True|_,_=>False
noncomputable def KV{κ:Type}:List (κ×V)->List (κ×Yg)->Prop:=Paired λ(p:κ×V) (q:κ×Yg)=>p.1=q.1/\RelV p.2 q.2
noncomputable def kV:Key->V
 | .inl i=>.int i|.inr x=>.str x
inductive HO where
 /--a list -/
 |lst (xs:List V)
 /--a tuple (never changes) -/
 |tup (xs:List V)
 /--a dict whose keys are ints and texts;one whose keys are tuples of ints and texts (the empty one is both) -/
 |dK (kvs:List (Key×V))|dT (kvs:List (List Key×V))
 /--a set of ints:its members,its size -/
 |set (S:Int->Bool) (n:Nat)
 /--an instance of the class at C,its dict at dx,its attributes -/
 |ins (C dx:Yz) (fs:List (aj×V))
 /--the dict of the instance at x -/
 |own (x:Yz)
 /--the dict of an exception -/
 |xd (fs:List (aj×V))
 /--a bound method,f of x -/
 |met (f x:Yz)
 /--a range object lo,lo+1,.. below hi -/
 |NK (lo hi:Int)
 /--a thing that is known to the object (the script;a dict while a loop walks it):read,never written while it is so -/
 |dB (o:aV) (u:HO)
 /--a code object's table -/
 |vZ (ps:Array Yg)
 /--any other thing,by what is true of its one object (a def of one's own:Aeu a S n:=HO.ext λh=>..) -/
 |ext (φ:aY->Prop)
noncomputable abbrev Hp:=Yz->Option HO
noncomputable def upd(H:Hp)(a:Yz)(o:HO):Hp:=λb=>if b=a then Ya o else H b
variable{a:Yz}{H:Hp}
theorem nJ{o:HO}:upd H a o a=Ya o:=by unfold upd;rw[if_pos rfl]
variable{b:Yz}
theorem bW{o:HO}(h:b≠a):upd H a o b=H b:=by unfold upd;rw[if_neg h]
theorem yE{o u:HO}(h:H a=Ya o)(h':H b=Ya u)(d:o≠u):a≠b:=by intro e;subst e;rw[h]at h';exact d (Yq h')
theorem Cz{o:HO}(h:H a=Ya o)(h':H b=Ye):a≠b:=by intro e;subst e;rw[h]at h';cases h'
variable{h:aY}
section
variable (P:cj) (w:bO)
def o6(h:aY)(a:Yz)(items:Array Yg):Prop:=∃o,h.get? a=Ya o/\(o.cls= .type "tuple" /\o.dict=Ye)/\∃n,o.data= .seq items n
theorem o6.tup{items:Array Yg}(x:o6 h a items):IsTup h a items:=let⟨o,e,c,d⟩:=x;⟨o,e,c.1,d⟩
theorem o6.new(h:aY)(items:Array Yg):o6 (h.push {cls:=.type "tuple",data:=.seq items}) h.objs.size items:=⟨_,jg _ rfl,⟨rfl,rfl⟩,0,rfl⟩
noncomputable def fP(H:Hp)(h:aY)(a:Yz):HO->Prop
 | .lst xs=>xs.length<=bN/\∃(its:List Yg) (n:Nat),Vals xs its/\h.get? a=Ya {cls:=.type "list",data:=.seq its.toArray n}|.tup xs=>xs.length<=bN/\∃its:List Yg,Vals xs its/\o6 h a its.toArray|.dK kvs=>kvs.length<=bN/\(a==pW)=false/\∃vs,KV kvs vs/\h.DictOf (fY P w) a vs|.dT kvs=>kvs.length<=bN/\(a==pW)=false/\∃xs:List (List Key×Yz×Yg),
   Paired (λ(p:List Key×V) (q:List Key×Yz×Yg)=>p.1=q.1/\H q.2.1=Ya (.tup (p.1.map kV))/\RelV p.2 q.2.2) kvs xs/\
   ∃o es ep,h.get? a=Ya o/\o.ExactDict/\o.data= .dict es ep/\es.toList=xs.map (entryOfKey (yh (fY P w)))/\(xs.map (·.1)).Nodup
 | .set S n=>h.SetOf (intKind P w) a S n|.ins C dx fs=>H dx=Ya (.own a)/\fs.length<=1000/\dx≠a/\h.get? a=Ya (PySem.W.instObj C dx)/\
   ∃mA,h.Ns1 dx mA/\(∀f,nH (fs.lookup f) (mA f))/\PySem.Within mA (fs.map (·.1))
 | .own _=>∃o,h.get? a=Ya o|.xd fs=>∃mA,h.Ns1 a mA/\∀f,nH (fs.lookup f) (mA f)|.NK lo hi=>∃t u v,h.get? a=Ya {cls:=.type "range",data:=.fields #[.int lo t,.int hi u,.int 1 v]}|.dB o u=>h.get? a=Ya o/\fP H h a u
 | .vZ ps=>h.get? a=Ya {cls:=.none,data:=.fields ps}|.met f x=>h.get? a=Ya (KH (.ref f) (.ref x))|.ext φ=>φ h/\(∃o,h.get? a=Ya o)/\∀h1 h2:aY,φ h1->(∀o,h1.get? a=Ya o->h2.get? a=Ya o)->φ h2
def eY(H:Hp)(h:aY):Prop:=∀a o,H a=Ya o->fP P w H h a o
end
section
variable {P:cj} {w:bO} {H H':Hp} {h h':aY} {a:Yz} {o:HO}
theorem fP.lt(x:fP P w H h a o):a<h.objs.size:=by
 cases o with
 |lst xs=>obtain⟨_,_,_,_,e⟩:=x;exact Yv e|tup xs=>obtain⟨_,_,_,p⟩:=x;exact p.tup.lt|dK kvs=>obtain⟨_,_,_,_,o,_,_,e,_⟩:=x;exact Yv e|dT kvs=>obtain⟨_,_,_,_,o,_,_,e,_⟩:=x;exact Yv e
 |set S n=>obtain⟨o,_,_,_,e,_⟩:=x;exact Yv e|ins C dx fs=>obtain⟨_,_,_,e,_⟩:=x;exact Yv e|own y=>obtain⟨_,e⟩:=x;exact Yv e|xd fs=>obtain⟨_,⟨_,_,_,e,_⟩,_⟩:=x;exact Yv e
 |NK lo hi=>obtain⟨_,_,_,e⟩:=x;exact Yv e|dB ob u=>obtain⟨e,_⟩:=x;exact Yv e|vZ ps=>exact Yv (show h.get? a=Ya _ from x)|met f y=>exact Yv (show h.get? a=Ya _ from x)
 |ext φ=>obtain⟨_,⟨_,e⟩,_⟩:=x;exact Yv e
theorem Paired.Kq{α β:Type}{F G:α->β->Prop}:∀{l₁:List α} {l₂:List β},Paired F l₁ l₂->(∀a b,F a b->G a b)->Paired G l₁ l₂
 |_,_,.nil,_=>.nil|_,_,.cons r t,f=>.cons (f _ _ r) (Paired.Kq t f)
theorem fP.stay(x:fP P w H h a o)(k:∀b u,(b=a\/H b=Ya (.own a))->h.get? b=Ya u->h'.get? b=Ya u)(ho:∀b,H b=Ya (.own a)->H' b=Ya (.own a))(ht:∀b xs,H b=Ya (.tup xs)->H' b=Ya (.tup xs)):fP P w H' h' a o:=by
 induction o with
 |lst xs=>obtain⟨z,its,n,r,e⟩:=x;exact⟨z,its,n,r,k _ _ (.inl rfl) e⟩|tup xs=>obtain⟨z,its,r,ob,e,c⟩:=x;exact⟨z,its,r,ob,k _ _ (.inl rfl) e,c⟩|dK kvs=>obtain⟨z,y,vs,r,ob,es,ep,e,c⟩:=x;exact⟨z,y,vs,r,ob,es,ep,k _ _ (.inl rfl) e,c⟩|dT kvs=>obtain⟨z,y,xs,r,ob,es,ep,e,c⟩:=x;exact⟨z,y,xs,Paired.Kq r λp q z=>⟨z.1,ht _ _ z.2.1,z.2.2⟩,ob,es,ep,k _ _ (.inl rfl) e,c⟩
 |set S n=>obtain⟨ob,es,ep,t,e,c⟩:=x;exact⟨ob,es,ep,t,k _ _ (.inl rfl) e,c⟩|ins C dx fs=>obtain⟨d,z,ne,e,mA,⟨od,es,ep,e2,c⟩,r⟩:=x;exact⟨ho _ d,z,ne,k _ _ (.inl rfl) e,mA,⟨od,es,ep,k _ _ (.inr d) e2,c⟩,r⟩
 |own y=>obtain⟨ob,e⟩:=x;exact⟨ob,k _ _ (.inl rfl) e⟩|xd fs=>obtain⟨mA,⟨od,es,ep,e,c⟩,r⟩:=x;exact⟨mA,⟨od,es,ep,k _ _ (.inl rfl) e,c⟩,r⟩|NK lo hi=>obtain⟨t,u,v,e⟩:=x;exact⟨t,u,v,k _ _ (.inl rfl) e⟩|dB ob u ih=>obtain⟨e,q⟩:=x;exact⟨k _ _ (.inl rfl) e,ih q⟩
 |vZ ps=>have e:h.get? a=Ya {cls:=.none,data:=.fields ps}:=x;show h'.get? a=Ya {cls:=.none,data:=.fields ps};exact k a _ (.inl rfl) e|met f y=>have e:h.get? a=Ya (KH (.ref f) (.ref y)):=x;show h'.get? a=Ya (KH (.ref f) (.ref y));exact k a _ (.inl rfl) e|ext φ=>obtain⟨p,⟨o,e⟩,st⟩:=x;exact⟨st _ _ p λo q=>k _ _ (.inl rfl) q,⟨o,k _ _ (.inl rfl) e⟩,st⟩
theorem eY.lt(x:eY P w H h)(e:H a=Ya o):a<h.objs.size:=(x a o e).lt
theorem eY.fresh(x:eY P w H h)(e:h.objs.size<=a):H a=Ye:=by
 cases q:H a with
 |none=>rfl|some u=>exact absurd (Y9 (x.lt q) e) (tU _)
theorem eY.kept(x:eY P w H h)(k:∀b u,h.get? b=Ya u->h'.get? b=Ya u):eY P w H h':=λa o e=>(x a o e).stay (λb u _ q=>k b u q) (λ_ q=>q) λ_ _ q=>q
theorem eY.laid(x:eY P w H h)(k:∀b u,h.get? b=Ya u->h'.get? b=Ya u)(hp:h.objs.size<=a)(new:fP P w (upd H a o) h' a o):eY P w (upd H a o) h':=λb u e=>by
 have hn:=x.fresh hp;by_cases hb:b=a
 .subst hb;rw[nJ]at e;cases e;exact new
 .rw[bW hb]at e;exact(x b u e).stay (λc v _ q=>k c v q) (λc q=>by rw[bW (Cz q hn)];exact q) λc xs q=>by rw[bW (Cz q hn)];exact q
end
def Rd(H:Hp)(a:Yz)(u:HO):Prop:=H a=Ya u\/∃o,H a=Ya (.dB o u)
theorem Rd.ok{P:cj}{w:bO}{u:HO}(r:Rd H a u)(x:eY P w H h):fP P w H h a u:=by
 rcases r with r|⟨o,r⟩
 .exact x a u r
 .obtain⟨_,q⟩:=x a _ r;exact q
noncomputable def CJ:Option HO->Prop
 |some (.lst _)=>True|some (.dK _)=>True|some (.dT _)=>True|some (.set _ _)=>True
 |some (.ins _ _ _)=>True|some (.ext _)=>True|_=>False
section
variable {P:cj} {w:bO} {H:Hp} {h h':aY} {x e:Yz} {o':HO}
theorem eY.write(ok:eY P w H h)(mu:CJ (H x))(he:e=x\/H e=Ya (.own x))(k:∀b u,b≠e->h.get? b=Ya u->h'.get? b=Ya u)(heo:∃u,h'.get? e=Ya u)(new:fP P w (upd H x o') h' x o'):eY P w (upd H x o') h':=λb u q=>by
 have Sd:∀c y,H c=Ya (.own y)->c≠x:=λc y r z=>by subst z;rw[r]at mu;exact mu
 have Aa1:∀c xs,H c=Ya (.tup xs)->c≠x:=λc xs r z=>by subst z;rw[r]at mu;exact mu
 by_cases hb:b=x
 .subst hb;rw[nJ]at q;cases q;exact new
 .rw[bW hb]at q;by_cases hbe:b=e
  .have q':H b=Ya (.own x):=by
    rcases he with z|z
    .exact absurd (hbe.trans z) hb
    .rw[hbe];exact z
   rw[q]at q';cases q';obtain⟨v,hv⟩:=heo;exact⟨v,by rw[hbe];exact hv⟩
  .refine(ok b u q).stay (λc v hc r=>k c v ?_ r) (λc r=>by rw[bW (Sd c b r)];exact r) λc xs r=>by rw[bW (Aa1 c xs r)];exact r
   rcases hc with rfl|hc
   .exact hbe
   .rintro rfl;rcases he with z|z
    .exact Sd c b hc z
    .rw[hc]at z;cases z;exact hb rfl
end
structure Un(fs ex:List Yz)(H H':Hp)(h h':aY):Prop where
 keep:∀b o,h.get? b=Ya o->H b=Ye->b∉fs->b∉ex->h'.get? b=Ya o
 slot:∀b o,h.get? b=Ya o->H b=Ye->b∈fs->b∉ex->∃sl,h'.get? b=Ya {o with slots:=sl}
 free:∀b o,h.get? b=Ya o->H b=Ye->b∉ex->H' b=Ye
 there:∀b o,h.get? b=Ya o->b∉ex->∃o',h'.get? b=Ya o'
 tups:∀b xs,H b=Ya (.tup xs)->H' b=Ya (.tup xs)
 oR:∀b o u,H b=Ya (.dB o u)->H' b=Ya (.dB o u)
 q8:∀b ps,H b=Ya (.vZ ps)->∃more,H' b=Ya (.vZ (ps++more))
section
variable {fs fs' ex ex':List Yz} {H H1 H2:Hp} {h h1 h2 h':aY} {a x e:Yz} {o:HO}
theorem Un.any(u:Un fs ex H H1 h h1){ob:aV}(q:h.get? b=Ya ob)(n:H b=Ye)(hx:b∉ex):∃sl,h1.get? b=Ya {ob with slots:=sl}:=by
 by_cases hb:b∈fs
 .exact u.slot b ob q n hb hx
 .exact⟨ob.slots,u.keep b ob q n hb hx⟩
theorem Un.kept(k:∀b u,h.get? b=Ya u->h'.get? b=Ya u):Un fs ex H H h h':=⟨λb ob q _ _ _=>k b ob q,λb ob q _ _ _=>⟨ob.slots,k b ob q⟩,λ_ _ _ n _=>n,λb ob q _=>⟨ob,k b ob q⟩,λ_ _ q=>q,λ_ _ _ q=>q,λ_ ps q=>⟨#[],by rw[q];simp⟩⟩
theorem Un.refl:Un fs ex H H h h:=Un.kept λ_ _ q=>q
theorem Un.laid(k:∀b u,h.get? b=Ya u->h'.get? b=Ya u)(hp:h.objs.size<=a)(hn:H a=Ye):Un fs ex H (upd H a o) h h' where
 keep:=λb u q _ _ _=>k b u q
 slot:=λb u q _ _ _=>⟨u.slots,k b u q⟩
 free:=λb u q n _=>by rw[bW (dU (Y9 (Yv q) hp))];exact n
 there:=λb u q _=>⟨u,k b u q⟩
 tups:=λb xs q=>by rw[bW (Cz q hn)];exact q
 oR:=λb u xs q=>by rw[bW (Cz q hn)];exact q
 q8:=λb ps q=>⟨#[],by rw[bW (Cz q hn),q];simp⟩
theorem Un.write(mu:CJ (H x))(he:e=x\/H e=Ya (.own x))(k:∀b u,b≠e->h.get? b=Ya u->h'.get? b=Ya u)(heo:∃u,h'.get? e=Ya u):Un fs ex H (upd H x o) h h':=by
 have hx:∀b,H b=Ye->b≠x:=λb n z=>by subst z;rw[n]at mu;exact mu
 have hb:∀b,H b=Ye->b≠e:=λb n z=>by
  subst z;rcases he with r|r
  .exact hx b n r
  .rw[n]at r;cases r
 have hm:∀b u,H b=Ya u->¬CJ (Ya u)->b≠x:=λb u q nm z=>by subst z;rw[q]at mu;exact nm mu
 refine⟨λb u q n _ _=>k b u (hb b n) q,λb u q n _ _=>⟨u.slots,k b u (hb b n) q⟩,λb u q n _=>by rw[bW (hx b n)];exact n,λb u q _=>?_,
  λb xs q=>by rw[bW (hm b _ q λz=>z)];exact q,λb u xs q=>by rw[bW (hm b _ q λz=>z)];exact q,λb ps q=>⟨#[],by rw[bW (hm b _ q λz=>z),q];simp⟩⟩
 by_cases hbe:b=e
 .subst hbe;exact heo
 .exact⟨u,k b u hbe q⟩
end
noncomputable def G6(h:aY)(H:Hp):List Yz:=(dm h.objs.size).filter λa=>(H a).isSome
noncomputable def rO(h:aY)(H:Hp):aY:=PySem.W.hideAll h (G6 h H)
theorem ZoI(h:aY)(H:Hp):(rO h H).objs.size=h.objs.size:=PySem.W.hideAll_size _ _
theorem Zqn{o:aV}(e:h.get? b=Ya o)(n:H b=Ye):(rO h H).get? b=Ya o:=PySem.W.hideAll_get _ e λhm=>by have q:(H b).isSome=true:=(iY.mp hm).2;rw[n]at q;simp at q
theorem ZsB{o:aV}(e:(rO h H).get? b=Ya o):h.get? b=Ya o/\H b=Ye:=by
 have e':h.get? b=Ya o:=PySem.W.of_hideAll (G6 h H) e;refine⟨e',?_⟩;cases q:H b with
 |none=>rfl|some x=>have hm:b∈G6 h H:=iY.mpr ⟨pR.mpr (Yv e'),by simp[q]⟩;have z:(rO h H).get? b=Ye:=PySem.W.hideAll_none (G6 h H) hm;rw[z]at e;cases e
noncomputable def Zsd(g h:aY)(L:Yz):List (Yz×aV):=(dm h.objs.size).filterMap λa=>if a=L\/(g.get? a).isSome=true then Ye else(h.get? a).map λo=>(a,o)
noncomputable def rest(g h:aY)(L d:Yz):List (Yz×aV):=(Zsd g h L).filter λp=>decide (p.1≠d)
end L2
namespace L2
open PySem PySem.Spec PyProof.Rows
structure Mod(K:Yb)(mg:aj->Option Yg)(base:aY):Prop where
 G7:K.In base
 glob:base.Ns Ys mg
 blt:∃mb,base.Ns LK mb/\∀x:aj,x≠ "__name__" ->mb x=lg x
 nolimit:base.NoLimit
/--the context:a def's body (or a comprehension's block) running. base:fixed through the whole law;s₀,H₀:the entry;outer:the frames whose slots others may change(a def's callers);stack:all frames that run;
  ex:iterators that were made ahead of the entry and are walked here (a comprehension's);fn:the names whose cells were made at the entry (a def:all;a comprehension's block:its own);calm:not within an except suite;pn:pins that every state bears;xe:what is wanted of an exception that leaves the code -/
structure Cx where
 prog:cj
 w:bO
 K:Yb
 mg:aj->Option Yg
 base:aY
 A:cG
 N:List aj
 s₀:Yh
 H₀:Hp
 env:gH
 outer:List gH
 stack:List gH
 ex:List Yz
 fn:aj->Bool
 calm:Bool
 pn:List (Yz×aV)
 xe:Yg->Yh->Prop
noncomputable def frs(l:List gH):List Yz:=l.filterMap (·.frame)
noncomputable abbrev Cx.fs(X:Cx):List Yz:=frs X.outer
def G8(sc:Scope)(x:aj):Prop:=sc.names.lookup x=Ya .local\/sc.names.lookup x=Ya .cell\/sc.names.lookup x=Ya .free
def Loc(sc:Scope)(x:aj):Prop:=sc.names.lookup x=Ya .local\/sc.names.lookup x=Ya .cell
def Look(env:gH)(h:aY)(m:aj->Option Yg)(x:aj)(u:Yg):Prop:=(env.kindOf x=Ya .local/\m x=Ya u)\/((env.kindOf x=Ya .cell\/env.kindOf x=Ya .free)/\∃c,env.cells.lookup x=Ya c/\h.IsCell c (Ya u))
structure Cx.Ok(X:Cx):Prop where
 mod:Mod X.K X.mg X.base
 kind:X.env.scope.kind= .function
 glob:X.env.globals=Ys
 blt:X.env.builtins=LK
 above:X.s₀.heap.objs.size<=X.env.locals
 inj:∀x y c,X.env.cells.lookup x=Ya c->X.env.cells.lookup y=Ya c->x=y
 has:∀x,(X.env.kindOf x=Ya .cell\/X.env.kindOf x=Ya .free)->∃c,X.env.cells.lookup x=Ya c
 cab:∀x c,X.fn x=true->X.env.cells.lookup x=Ya c->X.s₀.heap.objs.size<=c
 hd:X.calm=true->X.A.handled=Ye
 frames:X.A.frames=Ya X.stack
 G9:X.stack=X.outer\/(X.stack=X.env::X.outer/\X.env.frame=Ya X.env.locals)
 NP:∀b∈X.ex,b≠X.env.locals/\∀x c,X.env.cells.lookup x=Ya c->c≠b
 bs:∀b o,X.base.get? b=Ya o->X.s₀.heap.get? b=Ya o/\X.H₀ b=Ye
 rP:X.base.objs.size<=X.s₀.heap.objs.size
 Bj:∀b o,X.base.get? b=Ya o->b∉X.ex
 Bk:∀b∈X.ex,b∉X.fs
 ni:X.s₀.heap.FunFrames X.base X.outer
 v4:∀b∈X.fs,X.H₀ b=Ye
structure Inv(X:Cx)(pins:List (Yz×aV))(σ:List (Option V))(H:Hp)(s:Yh):Prop where
 ok:X.Ok
 os:s.os=X.s₀.os
 bare:rJ s.gens
 base:Un X.fs X.ex X.H₀ H X.s₀.heap s.heap
 loc:∃m,s.heap.Ns X.env.locals m/\∀(i:Nat) (x:aj) (v:V),X.N[i]?=Ya x->σ[i]?=Ya (Ya v)->G8 X.env.scope x->∃u,RelV v u/\Look X.env s.heap m x u
 cell:∀x c,X.env.cells.lookup x=Ya c->∃v,s.heap.IsCell c v
 free:H X.env.locals=Ye
 m_:∀x c,X.env.cells.lookup x=Ya c->H c=Ye
 pin:∀p∈X.pn++pins,s.heap.get? p.1=Ya p.2/\H p.1=Ye/\p.1≠X.env.locals/\p.1∉X.fs/\∀v,p.2.data≠ .cell v
 hok:eY X.prog X.w H s.heap
 len:σ.length=X.N.length
variable{E:Yg->Yh->Prop}{t':Nat}{ch:List Yz}
section
variable {X:Cx} {pins:List (Yz×aV)} {σ:List (Option V)} {H H':Hp} {s:Yh} {h':aY}
theorem Cx.Ok.Aa2(ok:X.Ok){b:Yz}{o:aV}(e:X.base.get? b=Ya o):b∉X.fs:=λhb=>by have:=(ok.ni.mem hb).1;rw[e]at this;cases this
theorem Inv.bs(I:Inv X pins σ H s):∀b o,X.base.get? b=Ya o->s.heap.get? b=Ya o/\H b=Ye:=λb o e=>⟨I.base.keep b o (I.ok.bs b o e).1 (I.ok.bs b o e).2 (I.ok.Aa2 e) (I.ok.Bj b o e),I.base.free b o (I.ok.bs b o e).1 (I.ok.bs b o e).2 (I.ok.Bj b o e)⟩
theorem Inv.bk(I:Inv X pins σ H s):∀b o,X.base.get? b=Ya o->s.heap.get? b=Ya o:=λb o e=>(I.bs b o e).1
theorem Inv.mod(I:Inv X pins σ H s):Mod X.K X.mg X.base:=I.ok.mod
theorem Inv.v5(I:Inv X pins σ H s):X.K.In s.heap:=I.ok.mod.G7.keeps I.bk
theorem Inv.nolimit(I:Inv X pins σ H s):s.heap.NoLimit:=I.ok.mod.nolimit.keeps I.bk
theorem Inv.lt(I:Inv X pins σ H s):X.env.locals<s.heap.objs.size:=let⟨_,hn,_⟩:=I.loc;hn.lt
theorem Inv.sz(I:Inv X pins σ H s):X.s₀.heap.objs.size<=s.heap.objs.size:=Y4 I.ok.above (tW I.lt)
theorem Inv.Aa3(I:Inv X pins σ H s){a:Yz}(h:s.heap.objs.size<=a):a∉X.fs:=λhb=>by obtain⟨_,o,ho,_⟩:=I.ok.ni.mem hb;exact absurd (Y9 (Yv ho) (Y4 I.sz h)) (tU _)
theorem Inv.v6(I:Inv X pins σ H s):∀x c,X.env.cells.lookup x=Ya c->c≠X.env.locals:=λx c e z=>by obtain⟨v,o,ho,hd⟩:=I.cell x c e;obtain⟨m,⟨o',es,ep,ho',hd',_⟩,_⟩:=I.loc;rw[z,ho']at ho;cases ho;rw[hd']at hd;cases hd
theorem Inv.ni(I:Inv X pins σ H s):s.heap.FunFrames X.base X.outer:=by
 have all:∀(l:List gH),(∀b∈frs l,b∈X.fs)->X.s₀.heap.FunFrames X.base l->s.heap.FunFrames X.base l:=by
  intro l
  induction l with
  |nil=>intro _ _;trivial|cons env r ih=>intro hs hl;obtain⟨hk,⟨L,o,hf,hn,ho,hd⟩,hr⟩:=hl;have hL:L∈X.fs:=hs L (by unfold frs;rw[vm,hf];exact Ym);obtain⟨sl,e⟩:=I.base.slot L o ho (I.ok.v4 L hL) hL λz=>I.ok.Bk L z hL;exact⟨hk,⟨L,_,hf,hn,e,hd⟩,ih (λb hb=>hs b (by unfold frs;rw[vm,hf];exact Yu _ hb)) hr⟩
 exact all X.outer (λ_ hb=>hb) I.ok.ni
theorem Inv.stack(I:Inv X pins σ H s):s.heap.FunFrames X.base X.stack:=by
 rcases I.ok.G9 with e|⟨e,hf⟩
 .rw[e];exact I.ni
 .rw[e];obtain⟨m,hn,_⟩:=I.loc;refine .cons (by rw[I.ok.kind];decide) hf hn ?_ I.ni;exact Heap.get?_none_of_le (Y4 I.ok.rP I.ok.above)
theorem Inv.Km(I:Inv X pins σ H s):∀b∈frs X.stack,b∈X.env.locals::X.fs:=λb hb=>by
 rcases I.ok.G9 with e|⟨e,hf⟩
 .rw[e]at hb;exact Yu _ hb
 .rw[e]at hb;unfold frs at hb;rw[vm,hf]at hb;exact hb
theorem Inv.R4(I:Inv X pins σ H s):∀b∈frs X.stack,H b=Ye:=λb hb=>by
 rcases Y7.mp (I.Km b hb)with e|hb
 .rw[e];exact I.free
 .obtain⟨_,o,ho,_⟩:=I.ok.ni.mem hb;exact I.base.free b o ho (I.ok.v4 b hb) λz=>I.ok.Bk b z hb
theorem Inv.step{g':Array GenState}{d':Drawn}(I:Inv X pins σ H s)(hch:∀b∈ch,(b∈X.ex\/X.s₀.heap.objs.size<=b)/\b≠X.env.locals/\(∀x c,X.env.cells.lookup x=Ya c->c≠b)/\∀p∈X.pn++pins,p.1≠b)(keep:∀b o,b≠X.env.locals->b∉X.fs->b∉ch->s.heap.get? b=Ya o->H b=Ye->h'.get? b=Ya o)(slot:∀b o,b≠X.env.locals->b∈X.fs->b∉ch->s.heap.get? b=Ya o->H b=Ye->∃sl,h'.get? b=Ya {o with slots:=sl})(free:∀b o,b∉ch->s.heap.get? b=Ya o->H b=Ye->H' b=Ye)(there:∀b o,b∉ch->s.heap.get? b=Ya o->∃o',h'.get? b=Ya o')(tups:∀b xs,H b=Ya (.tup xs)->H' b=Ya (.tup xs))(oR:∀b o u,H b=Ya (.dB o u)->H' b=Ya (.dB o u))(q8:∀b ps,H b=Ya (.vZ ps)->∃more,H' b=Ya (.vZ (ps++more)))(ns:∀m,s.heap.Ns X.env.locals m->h'.Ns X.env.locals m)(hok:eY X.prog X.w H' h')(hg:rJ g'):
  Inv X pins σ H' {s with heap:=h',gens:=g',drawn:=d',toks:=t'}:=by
 have Wu:∀b o,X.s₀.heap.get? b=Ya o->b≠X.env.locals:=λb o e=>dU (Y9 (Yv e) I.ok.above);have G_:∀b o,X.s₀.heap.get? b=Ya o->b∉X.ex->b∉ch:=λb o e hx hb=>by
  rcases(hch b hb).1 with z|z
  .exact hx z
  .exact absurd (Y9 (Yv e) z) (tU _)
 have cellK:∀x c,X.env.cells.lookup x=Ya c->∀v,s.heap.IsCell c v->h'.IsCell c v:=λx c e v ak=>by
  obtain⟨o,ho,hd⟩:=ak;have CK:c∉ch:=λz=>(hch c z).2.2.1 x c e rfl;by_cases hc:c∈X.fs
  .obtain⟨sl,q⟩:=slot c o (I.v6 x c e) hc CK ho (I.m_ x c e);exact⟨_,q,hd⟩
  .exact⟨o,keep c o (I.v6 x c e) hc CK ho (I.m_ x c e),hd⟩
 refine⟨I.ok,I.os,hg,⟨λb o e n hb hx=>?_,λb o e n hb hx=>?_,λb o e n hx=>?_,λb o e hx=>?_,λb xs e=>tups b xs (I.base.tups b xs e),λb o xs e=>oR b o xs (I.base.oR b o xs e),λb ps e=>?_⟩,?_,λx c e=>?_,?_,λx c e=>?_,λp hp=>?_,hok,I.len⟩
 .exact keep b o (Wu b o e) hb (G_ b o e hx) (I.base.keep b o e n hb hx) (I.base.free b o e n hx)
 .obtain⟨sl,e1⟩:=I.base.slot b o e n hb hx;obtain⟨sl',e2⟩:=slot b _ (Wu b o e) hb (G_ b o e hx) e1 (I.base.free b o e n hx);exact⟨sl',e2⟩
 .obtain⟨o',e1⟩:=I.base.there b o e hx;exact free b o' (G_ b o e hx) e1 (I.base.free b o e n hx)
 .obtain⟨o',e1⟩:=I.base.there b o e hx;exact there b o' (G_ b o e hx) e1
 .obtain⟨m1,e1⟩:=I.base.q8 b ps e;obtain⟨m2,e2⟩:=q8 b _ e1;exact⟨m1++m2,by rw[e2,Array.append_assoc]⟩
 .obtain⟨m,hn,hl⟩:=I.loc;refine⟨m,ns m hn,λi x v e1 e2 e3=>?_⟩;obtain⟨u,r,l⟩:=hl i x v e1 e2 e3;refine⟨u,r,?_⟩;rcases l with l|⟨k,c,e,z⟩
  .exact .inl l
  .exact .inr ⟨k,c,e,cellK x c e _ z⟩
 .obtain⟨v,z⟩:=I.cell x c e;exact⟨v,cellK x c e v z⟩
 .obtain⟨m,⟨o,_,_,ho,_⟩,_⟩:=I.loc;exact free _ o (λz=>(hch _ z).2.1 rfl) ho I.free
 .obtain⟨v,o,ho,hd⟩:=I.cell x c e;exact free c o (λz=>(hch c z).2.2.1 x c e rfl) ho (I.m_ x c e)
 .obtain⟨e,n,ne,nf,d⟩:=I.pin p hp;have CK:p.1∉ch:=λz=>(hch p.1 z).2.2.2 p hp rfl;exact⟨keep p.1 p.2 ne nf CK e n,free p.1 p.2 CK e n,ne,nf,d⟩
theorem Inv.un(I:Inv X pins σ H s)(u:Un X.fs [] H H' s.heap h')(hok:eY X.prog X.w H' h'):Inv X pins σ H' {s with heap:=h',toks:=t'}:=by obtain⟨m,⟨o,es,ep,ho,r⟩,_⟩:=id I.loc;obtain⟨sl,hL⟩:=u.any ho I.free (by simp);exact I.step (g':=s.gens) (d':=s.drawn) (ch:=[]) (λ_ z=>nomatch z) (λb o _ hb _ e n=>u.keep b o e n hb (by simp)) (λb o _ hb _ e n=>u.slot b o e n hb (by simp)) (λb o _ e n=>u.free b o e n (by simp)) (λb o _ e=>u.there b o e (by simp)) u.tups u.oR u.q8 (λm' hm=>by obtain⟨o',es',ep',ho',r'⟩:=hm;rw[ho]at ho';cases ho';exact⟨_,es',ep',hL,r'⟩) hok I.bare
theorem Inv.call{g':Array GenState}{d':Drawn}(I:Inv X pins σ H s)(u:Un (frs X.stack) ch H H' s.heap h')(hok:eY X.prog X.w H' h')(hg:rJ g')(hch:∀b∈ch,(b∈X.ex\/X.s₀.heap.objs.size<=b)/\b≠X.env.locals/\(∀x c,X.env.cells.lookup x=Ya c->c≠b)/\∀p∈X.pn++pins,p.1≠b):
  Inv X pins σ H' {s with heap:=h',gens:=g',drawn:=d',toks:=t'}:=by
 obtain⟨m,⟨o,es,ep,ho,r⟩,_⟩:=id I.loc;obtain⟨sl,hL⟩:=u.any ho I.free λz=>(hch _ z).2.1 rfl;exact I.step (ch:=ch) hch (λb o hL hb hc e n=>u.keep b o e n (λz=>(Y7.mp (I.Km b z)).elim hL hb) hc) (λb o _ _ hc e n=>u.any e n hc) (λb o hc e n=>u.free b o e n hc) (λb o hc e=>u.there b o e hc) u.tups u.oR u.q8 (λm' hm=>by obtain⟨o',es',ep',ho',r'⟩:=hm;rw[ho]at ho';cases ho';exact⟨_,es',ep',hL,r'⟩) hok hg
theorem Inv.turned{it:Yz}(I:Inv X pins σ H s)(k:∀b o,b≠it->s.heap.get? b=Ya o->h'.get? b=Ya o)(hn:H it=Ye)(hL:it≠X.env.locals)(h1:it∈X.ex\/X.s₀.heap.objs.size<=it)(h2:∀x c,X.env.cells.lookup x=Ya c->c≠it)(h3:∀p∈X.pn++pins,p.1≠it):Inv X pins σ H {s with heap:=h',toks:=t'}:=by
 have CN:∀b u,H b=Ya u->b≠it:=λb u e z=>by rw[z,hn]at e;cases e
 refine I.step (g':=s.gens) (d':=s.drawn) (ch:=[it]) (λb hb=>?_) (λb o _ _ hc e _=>k b o (λz=>hc (by simp[z])) e) (λb o _ _ hc e _=>⟨o.slots,k b o (λz=>hc (by simp[z])) e⟩) (λ_ _ _ _ n=>n)
  (λb o hc e=>⟨o,k b o (λz=>hc (by simp[z])) e⟩) (λ_ _ e=>e) (λ_ _ _ e=>e) (λb ps e=>⟨#[],by rw[e];simp⟩) (λm hm=>?_) (λb u e=>?_) I.bare
 .have e:b=it:=by simpa using hb
  subst e;exact⟨h1,hL,h2,h3⟩
 .obtain⟨o,es,ep,ho,r⟩:=hm;exact⟨o,es,ep,k _ o (cU hL) ho,r⟩
 .refine(I.hok b u e).stay (λc v hc q=>k c v ?_ q) (λ_ q=>q) λ_ _ q=>q;rcases hc with z|z
  .rw[z];exact CN b u e
  .exact CN c _ z
theorem Inv.tok(I:Inv X pins σ H s)(t:Nat):Inv X pins σ H {s with toks:=t}:=I.un (h':=s.heap) (t':=t) Un.refl I.hok
theorem Inv.kept(I:Inv X pins σ H s)(k:∀b u,s.heap.get? b=Ya u->h'.get? b=Ya u):Inv X pins σ H {s with heap:=h',toks:=t'}:=I.un (Un.kept k) (I.hok.kept k)
theorem Inv.laid{a:Yz}{o:HO}(I:Inv X pins σ H s)(k:∀b u,s.heap.get? b=Ya u->h'.get? b=Ya u)(hp:s.heap.objs.size<=a)(new:fP X.prog X.w (upd H a o) h' a o):
  Inv X pins σ (upd H a o) {s with heap:=h',toks:=t'}:=I.un (Un.laid k hp (I.hok.fresh hp)) (I.hok.laid k hp new)
theorem Inv.write{x e:Yz}{o:HO}(I:Inv X pins σ H s)(mu:CJ (H x))(he:e=x\/H e=Ya (.own x))(k:∀b u,b≠e->s.heap.get? b=Ya u->h'.get? b=Ya u)(heo:∃u,h'.get? e=Ya u)(new:fP X.prog X.w (upd H x o) h' x o):Inv X pins σ (upd H x o) {s with heap:=h',toks:=t'}:=I.un (Un.write mu he k heo) (I.hok.write mu he k heo new)
theorem Inv.R5{R9:List (Yz×aV)}(I:Inv X pins σ H s)(h:∀p∈R9,s.heap.get? p.1=Ya p.2/\H p.1=Ye/\p.1≠X.env.locals/\p.1∉X.fs/\∀v,p.2.data≠ .cell v):Inv X R9 σ H s:=⟨I.ok,I.os,I.bare,I.base,I.loc,I.cell,I.free,I.m_,λp hp=>(jK.mp hp).elim (λz=>I.pin p (FT _ z)) (h p),I.hok,I.len⟩
theorem Wv{N:List aj}(hN:N.Nodup){i j:Nat}{x:aj}(a:N[i]?=Ya x)(b:N[j]?=Ya x):i=j:=by obtain⟨h1,e1⟩:=Yd.mp a;obtain⟨h2,e2⟩:=Yd.mp b;exact(K_ hN).mp (e1.trans e2.symm)
theorem Ww{M:Model}{A:cG}{i:Nat}{x:aj}{v:V}{u:Yg}{Q:Unit->Yh->Prop}(I:Inv X pins σ H s)(hN:X.N.Nodup)(hi:X.N[i]?=Ya x)(hx:Loc X.env.scope x)(r:RelV v u)(h:∀s',Inv X pins (σ.set i (Ya v)) H s'->(∃a,yq a s.heap s'.heap/\(a=X.env.locals\/X.env.cells.lookup x=Ya a))->Q () s')(hf:X.fn x=true\/X.env.scope.names.lookup x=Ya .local:=by first|exact .inl rfl|exact .inr rfl|assumption):aA M A (storeName X.env x u) Q E s:=by
 obtain⟨m,hn,hl⟩:=id I.loc;have hcls:(X.env.scope.kind== .class|| (X.env.scope.kind== .module&&X.env.locals !=X.env.globals))=false:=by rw[I.ok.kind];rfl
 have Wx:i<σ.length:=by rw[I.len];exact(Yd.mp hi).1
 have v6:=I.v6;have tracked:∀{a:Yz} {h':aY},(∃o,s.heap.get? a=Ya o/\H a=Ye)->yq a s.heap h'->eY X.prog X.w H h':=λ{a h'} ha hs b ob e=>by
  obtain⟨_,_,hfree⟩:=ha;refine(I.hok b ob e).stay (λc w' hc q=>(hs.2 c ?_).trans q) (λ_ q=>q) λ_ _ q=>q;rintro rfl;rcases hc with rfl|hc
  .rw[hfree]at e;cases e
  .rw[hfree]at hc;cases hc
 rcases hx with hk|hk
 .refine wpAny_storeName_local hk hn (λh' hn' hs=>?_) hcls;obtain⟨oL,_,_,hoL,_⟩:=id hn;refine h _ ⟨I.ok,I.os,I.bare,⟨λb o e n hb hx=>?_,λb o e n hb hx=>?_,I.base.free,λb o e hx=>?_,I.base.tups,I.base.oR,I.base.q8⟩,⟨_,hn',λj y v' e1 e2 e3=>?_⟩,λy c e=>?_,I.free,I.m_,λp hp=>?_,tracked ⟨oL,hoL,I.free⟩ hs,by simpa using I.len⟩ ⟨_,hs,.inl rfl⟩
  .exact(hs.2 b (dU (Y9 (Yv e) I.ok.above))).trans (I.base.keep b o e n hb hx)
  .obtain⟨sl,e1⟩:=I.base.slot b o e n hb hx;exact⟨sl,(hs.2 b (dU (Y9 (Yv e) I.ok.above))).trans e1⟩
  .obtain⟨o',e1⟩:=I.base.there b o e hx;exact⟨o',(hs.2 b (dU (Y9 (Yv e) I.ok.above))).trans e1⟩
  .by_cases hj:j=i
   .subst hj;rw[hi]at e1;cases e1;rw[Y2 Wx]at e2;cases e2;exact⟨u,r,.inl ⟨hk,by simp⟩⟩
   .rw[jH (cU hj)]at e2;obtain⟨u',r',q⟩:=hl j y v' e1 e2 e3;refine⟨u',r',?_⟩;rcases q with⟨k,e⟩|⟨k,c,e,z⟩
    .refine .inl ⟨k,?_⟩;have:y≠x:=λe=>hj (Wv hN e1 (e▸hi));simp[this,e]
    .exact .inr ⟨k,c,e,z.sameBut hs (v6 y c e)⟩
  .obtain⟨w',z⟩:=I.cell y c e;exact⟨w',z.sameBut hs (v6 y c e)⟩
  .obtain⟨e,n,ne,nf,d⟩:=I.pin p hp;exact⟨(hs.2 p.1 ne).trans e,n,ne,nf,d⟩
 .have hfn:X.fn x=true:=by
   rcases hf with z|z
   .exact z
   .rw[z]at hk;cases hk
  obtain⟨c,hc⟩:=I.ok.has x (.inl hk);obtain⟨w',z⟩:=I.cell x c hc;refine wpAny_storeName_cell I.ok.kind hk hc z (λh' hc' hs=>?_);obtain⟨oc,hoc,Aa4⟩:=id z;refine h {s with heap:=h'} ⟨I.ok,I.os,I.bare,⟨λb o e n hb hx=>?_,λb o e n hb hx=>?_,I.base.free,λb o e hx=>?_,I.base.tups,I.base.oR,I.base.q8⟩,⟨m,hn.sameBut hs (cU (v6 x c hc)),λj y v' e1 e2 e3=>?_⟩,λy c' e=>?_,I.free,I.m_,λp hp=>?_,tracked ⟨oc,hoc,I.m_ x c hc⟩ hs,by simpa using I.len⟩ ⟨c,hs,.inr hc⟩
  .exact(hs.2 b (dU (Y9 (Yv e) (I.ok.cab x c hfn hc)))).trans (I.base.keep b o e n hb hx)
  .obtain⟨sl,e1⟩:=I.base.slot b o e n hb hx;exact⟨sl,(hs.2 b (dU (Y9 (Yv e) (I.ok.cab x c hfn hc)))).trans e1⟩
  .obtain⟨o',e1⟩:=I.base.there b o e hx;exact⟨o',(hs.2 b (dU (Y9 (Yv e) (I.ok.cab x c hfn hc)))).trans e1⟩
  .by_cases hj:j=i
   .subst hj;rw[hi]at e1;cases e1;rw[Y2 Wx]at e2;cases e2;exact⟨u,r,.inr ⟨.inl hk,c,hc,hc'⟩⟩
   .rw[jH (cU hj)]at e2;obtain⟨u',r',q⟩:=hl j y v' e1 e2 e3;refine⟨u',r',?_⟩;rcases q with q|⟨k,c',e,z'⟩
    .exact .inl q
    .refine .inr ⟨k,c',e,z'.sameBut hs ?_⟩;rintro rfl;exact hj (Wv hN e1 (I.ok.inj _ _ _ e hc▸hi))
  .by_cases hcc:c'=c
   .subst hcc;exact⟨_,hc'⟩
   .obtain⟨w2,z2⟩:=I.cell y c' e;exact⟨w2,z2.sameBut hs hcc⟩
  .obtain⟨e,n,ne,nf,d⟩:=I.pin p hp;refine⟨(hs.2 p.1 ?_).trans e,n,ne,nf,d⟩;intro q;rw[q,hoc]at e;have q':oc=p.2:=Yq e;exact d w' (by rw[←q'];exact Aa4)
theorem Wy{M:Model}{A:cG}{i:Nat}{x:aj}{v:V}{u:Yg}{Q:Unit->Yh->Prop}(I:Inv X pins σ H s)(hN:X.N.Nodup)(hi:X.N[i]?=Ya x)(hx:Loc X.env.scope x)(r:RelV v u)(h:∀s',Inv X pins (σ.set i (Ya v)) H s'->Q () s')(hf:X.fn x=true\/X.env.scope.names.lookup x=Ya .local:=by first|exact .inl rfl|exact .inr rfl|assumption):aA M A (storeName X.env x u) Q E s:=Ww I hN hi hx r (λs' I' _=>h s' I') hf
theorem Inv.call'{s':Yh}(I:Inv X pins σ H s)(ho:s'.os=s.os)(u:Un (frs X.stack) ch H H' s.heap s'.heap)(hok:eY X.prog X.w H' s'.heap)(hg:rJ s'.gens)(hch:∀b∈ch,(b∈X.ex\/X.s₀.heap.objs.size<=b)/\b≠X.env.locals/\(∀x c,X.env.cells.lookup x=Ya c->c≠b)/\∀p∈X.pn++pins,p.1≠b):Inv X pins σ H' s':=by obtain⟨h',g',d',t',o'⟩:=s';have e:o'=s.os:=ho;subst e;exact I.call (g':=g') (t':=t') (d':=d') u hok hg hch
end
noncomputable abbrev XK:=Yg->Option Yz->Hp->Prop
noncomputable abbrev St:=List (Option V)
noncomputable abbrev VK:=V->Hp->Prop
noncomputable abbrev TE:=St->Hp->VK->Prop
noncomputable abbrev TT:=St->Hp->(Bool->Hp->Prop)->Prop
noncomputable abbrev TA:=St->Hp->(List V->Hp->Prop)->Prop
structure Ends where
 nx:St->Hp->Prop
 rt:VK
 bk:St->Hp->Prop:=λ_ _=>False
 ct:St->Hp->Prop:=λ_ _=>False
noncomputable abbrev TS:=Ends->St->Hp->Prop
inductive EP(X:Cx)(pins:List (Yz×aV))(σ:St)(Q:VK)(u:Yg)(s':Yh):Prop where
 |mk (v:V) (H':Hp) (I:Inv X pins σ H' s') (r:RelV v u) (q:Q v H'):EP X pins σ Q u s'
inductive TP(X:Cx)(pins:List (Yz×aV))(σ:St)(Q:Bool->Hp->Prop)(b:Bool)(s':Yh):Prop where
 |mk (H':Hp) (I:Inv X pins σ H' s') (q:Q b H'):TP X pins σ Q b s'
inductive AP(X:Cx)(pins:List (Yz×aV))(σ:St)(Q:List V->Hp->Prop)(us:List Yg)(s':Yh):Prop where
 |mk (vs:List V) (H':Hp) (I:Inv X pins σ H' s') (r:Vals vs us) (q:Q vs H'):AP X pins σ Q us s'
def SP(X:Cx)(pins:List (Yz×aV))(D:Ends)(f:Flow)(s':Yh):Prop:=
 match f with
 | .next=>∃σ' H',Inv X pins σ' H' s'/\D.nx σ' H'|.brk=>∃σ' H',Inv X pins σ' H' s'/\D.bk σ' H'|.cont=>∃σ' H',Inv X pins σ' H' s'/\D.ct σ' H'|.ret u=>∃v σ' H',Inv X pins σ' H' s'/\RelV v u/\D.rt v H'
def PE(X:Cx)(e:Expr)(t:TE):Prop:=∀(pins:List (Yz×aV)) (s:Yh) (σ:St) (H:Hp) (Q:VK),Inv X pins σ H s->t σ H Q->aA (aN X.prog X.w) X.A (bU e X.env) (EP X pins σ Q) X.xe s
def PT(X:Cx)(e:Expr)(t:TT):Prop:=∀(pins:List (Yz×aV)) (s:Yh) (σ:St) (H:Hp) (Q:Bool->Hp->Prop),Inv X pins σ H s->t σ H Q->aA (aN X.prog X.w) X.A (isTrue e X.env (bU e X.env)) (TP X pins σ Q) X.xe s
def PW(X:Cx)(e:Expr)(t:TT):Prop:=∀(whole:pZ Yg) (pins:List (Yz×aV)) (s:Yh) (σ:St) (H:Hp) (Q:Bool->Hp->Prop),Inv X pins σ H s->t σ H Q->aA (aN X.prog X.w) X.A (isTrue e X.env whole) (TP X pins σ Q) X.xe s
theorem PW.pt{X:Cx}{e:Expr}{t:TT}(h:PW X e t):PT X e t:=h _
def PA(X:Cx)(es:List Expr)(t:TA):Prop:=∀(pos:bQ) (pins:List (Yz×aV)) (s:Yh) (σ:St) (H:Hp) (Q:List V->Hp->Prop),Inv X pins σ H s->t σ H Q->aA (aN X.prog X.w) X.A (spliced (jq pos (cF es X.env))) (AP X pins σ Q) X.xe s
def PS(X:Cx)(st:Yd1)(t:TS):Prop:=∀(pins:List (Yz×aV)) (s:Yh) (σ:St) (H:Hp) (D:Ends),Inv X pins σ H s->t D σ H->aA (aN X.prog X.w) X.A (exec st X.env) (SP X pins D) X.xe s
def jt(X:Cx)(st:List Yd1)(t:TS):Prop:=∀(pins:List (Yz×aV)) (s:Yh) (σ:St) (H:Hp) (D:Ends),Inv X pins σ H s->t D σ H->aA (aN X.prog X.w) X.A (execs st X.env) (SP X pins D) X.xe s
theorem a_{α:Type}{t:pZ α}{Q Q':α->Yh->Prop}{M:Model}{A:cG}{s:Yh}(h:aA M A t Q E s)(hQ:∀a s,Q a s->Q' a s):aA M A t Q' E s:=j8 h hQ λ_ _ x=>x
end L2
namespace L2
open PySem PySem.Spec PyProof.Rows
section
variable {X:Cx}
def Zw5(i:Nat):TE:=λσ H Q=>∃v,σ[i]?=Ya (Ya v)/\Q v H
def tC(v:V):TE:=λ_ H Q=>Q v H
theorem ZtH{i:Nat}{x:aj}{pos:bQ}(hN:X.N[i]?=Ya x)(hv:G8 X.env.scope x)(hd:(x==("__debug__":aj))=false:=by decide)(hcd:(x==("__classdict__":aj))=false:=by decide):PE X (.Name x pos) (Zw5 i):=by
 intro pins s σ H Q I h;obtain⟨v,e,h⟩:=h;obtain⟨m,hn,hl⟩:=I.loc;obtain⟨u,r,l⟩:=hl i x v hN e hv;have fin:EP X pins σ Q u s:=⟨v,H,I,r,h⟩;rcases l with⟨hk,hm⟩|⟨hk,c,hc,hcell⟩
 .exact LQ (wpAny_loadName_local I.ok.kind hk hn hm fin) hd
 .rcases hk with hk|hk
  .exact LQ (wpAny_loadName_cell I.ok.kind hk hc hcell fin) hd
  .exact LQ (wpAny_loadName_free I.ok.kind hk hc hcell fin hcd) hd
theorem Zus{i j pos}:PE X (.Constant (.int i) j pos) (tC (.int i)):=λ_ _ _ H _ I h=>wpAny_Constant_int ⟨.int i,H,I.tok _,⟨_,rfl⟩,h⟩
theorem ZvE{b j pos}:PE X (.Constant (.bool b) j pos) (tC (.bl b)):=λ_ _ _ H _ I h=>Constant_bool ⟨.bl b,H,I,rfl,h⟩
theorem Zt6{j pos}:PE X (.Constant .none j pos) (tC .non):=λ_ _ _ H _ I h=>Constant_none ⟨.non,H,I,rfl,h⟩
theorem ZtR{x j pos}:PE X (.Constant (.str x) j pos) (tC (.str x)):=λ_ _ _ H _ I h=>Calls.Constant_str ⟨.str x,H,I.tok _,⟨_,rfl⟩,h⟩
def Gl(X:Cx)(x:aj):Prop:=X.env.kindOf x=Ya .globalImplicit
theorem Zsv{E:Yg->Yh->Prop}{pins:List (Yz×aV)}{s:Yh}{σ:St}{H:Hp}{x:aj}{u:Yg}{pos:bQ}{Q:Yg->Yh->Prop}(I:Inv X pins σ H s)(hg:Gl X x)(hm:X.mg x=Ya u)(h:Q u s)(hd:(x==("__debug__":aj))=false:=by decide):aA (aN X.prog X.w) X.A (bU (.Name x pos) X.env) Q E s:=Vw I.ok.kind hg (Calls.loadGlobal_global (by rw[I.ok.glob];exact I.mod.glob.keeps I.bk) hm h) hd
theorem Hf{E:Yg->Yh->Prop}{pins:List (Yz×aV)}{s:Yh}{σ:St}{H:Hp}{x:aj}{u:Yg}{pos:bQ}{Q:Yg->Yh->Prop}(I:Inv X pins σ H s)(hg:Gl X x)(hm:X.mg x=Ye)(hv:lg x=Ya u)(h:Q u s)(hn:x≠ "__name__":=by decide)(hd:(x==("__debug__":aj))=false:=by decide):aA (aN X.prog X.w) X.A (bU (.Name x pos) X.env) Q E s:=by obtain⟨mb,h1,h2⟩:=I.mod.blt;exact Vw I.ok.kind hg (Calls.loadGlobal_builtin (by rw[I.ok.glob];exact I.mod.glob.keeps I.bk) hm (by rw[I.ok.blt];exact h1.keeps I.bk) ((h2 x hn).trans hv) h) hd
variable {a b:Expr} {ta tb:TE} {pos:bQ}
def tB(t:TE):TT:=λσ H Q=>t σ H λx H1=>∃c,x= .bl c/\Q c H1
theorem Zug{e:Expr}{t:TE}(h:PE X e t)(he:∀whole,isTrue e X.env whole=(do let v ←whole;vI e.pos;jf [v] (truthy v)):=by intro _;rfl):PT X e (tB t):=by intro pins s σ H Q I hw;refine isTrue_plain (a_ (h pins s σ H _ I hw) λv s1 ak=>?_) (he _);obtain⟨x,H1,I1,r1,q1⟩:=ak;obtain⟨d,rfl,q⟩:=q1;cases r1;exact Lp ⟨H1,I1,q⟩
variable {tA Hg:TT} {rest:List Expr}
def Zwp(t u:TT):TT:=λσ H Q=>t σ H λc H1=>if c=true then u σ H1 Q else Q false H1
def tOr(t u:TT):TT:=λσ H Q=>t σ H λc H1=>if c=true then Q true H1 else u σ H1 Q
def Zw9(t:TT):TT:=λσ H Q=>t σ H λc H1=>Q (!c) H1
theorem Zr8(ha:PT X a tA):PW X (.BoolOp .And [a] pos) tA:=by
 intro wh pins s σ H Q I h;refine isTrue_and (a_ (ha pins s σ H Q I h) λc s1 e=>?_);cases c with
 |true=>exact isTrue_and_nil e|false=>exact e
theorem ZtN(ha:PT X a tA):PW X (.BoolOp .Or [a] pos) tA:=by
 intro wh pins s σ H Q I h;refine isTrue_or (a_ (ha pins s σ H Q I h) λc s1 e=>?_);cases c with
 |false=>exact isTrue_or_nil e|true=>exact e
theorem ZtM(ha:PT X a tA)(hb:PW X (.BoolOp .And (b::rest) pos) Hg):PW X (.BoolOp .And (a::b::rest) pos) (Zwp tA Hg):=by
 intro wh pins s σ H Q I h;refine isTrue_and (a_ (ha pins s σ H _ I h) λc s1 ak=>?_);obtain⟨H1,I1,q1⟩:=ak;cases c with
 |true=>exact hb wh pins s1 σ H1 Q I1 q1|false=>exact⟨H1,I1,q1⟩
theorem ZvG(ha:PT X a tA)(hb:PW X (.BoolOp .Or (b::rest) pos) Hg):PW X (.BoolOp .Or (a::b::rest) pos) (tOr tA Hg):=by
 intro wh pins s σ H Q I h;refine isTrue_or (a_ (ha pins s σ H _ I h) λc s1 ak=>?_);obtain⟨H1,I1,q1⟩:=ak;cases c with
 |true=>exact⟨H1,I1,q1⟩|false=>exact hb wh pins s1 σ H1 Q I1 q1
theorem Zto(ha:PT X a tA):PT X (.UnaryOp .Not a pos) (Zw9 tA):=by intro pins s σ H Q I h;exact isTrue_not (a_ (ha pins s σ H (λc H1=>Q (!c) H1) I h) λc s' ⟨H',I',q⟩=>⟨H',I',q⟩)
def Zu5(ta tb:TE):TE:=λσ H Q=>ta σ H λx H1=>∃c,x= .bl c/\if c=true then tb σ H1 Q else Q (.bl false) H1
theorem ZtC{op}{t:TE}(h:PE X a t):PE X (.BoolOp op [a] pos) t:=λpins s σ H Q I hw=>BoolOp_one (h pins s σ H Q I hw)
theorem Zs3(ha:PE X a ta)(hb:PE X (.BoolOp .And (b::rest) pos) tb):PE X (.BoolOp .And (a::b::rest) pos) (Zu5 ta tb):=by
 intro pins s σ H Q I h;refine BoolOp_and (a_ (ha pins s σ H _ I h) λv s1 ak=>?_);obtain⟨x,H1,I1,r1,q1⟩:=ak;obtain⟨c,rfl,q1⟩:=q1;cases r1;refine Lp ?_;cases c with
 |true=>exact hb pins s1 σ H1 Q I1 q1|false=>exact⟨.bl false,H1,I1,rfl,q1⟩
def NQ(t:TT)(ta tb:TE):TE:=λσ H Q=>t σ H λc H1=>if c=true then ta σ H1 Q else tb σ H1 Q
theorem Zqj{c:Expr}(hc:PT X c tA)(ha:PE X a ta)(hb:PE X b tb):PE X (.IfExp c a b pos) (NQ tA ta tb):=by
 intro pins s σ H Q I h;refine wpAny_IfExp (a_ (hc pins s σ H _ I h) λd s1 ak=>?_);obtain⟨H1,I1,q1⟩:=ak;cases d with
 |true=>exact ha pins s1 σ H1 Q I1 q1|false=>exact hb pins s1 σ H1 Q I1 q1
end
end L2
namespace L2
open PySem PySem.Spec PyProof.Rows
def cL(K:Yb)(H:Hp)(a:Yz)(xs:List V):Prop:=
 Rd H a (.lst xs)\/
  ∃(o:aV) (its:Array Yg) (n:Nat),K.lookup a=Ya o/\o.cls= .type "list" /\o.dict=Ye/\o.data= .seq its n/\its.size<=bN/\Vals xs its.toList
def cZ(K:Yb)(H:Hp)(a:Yz)(xs:List V):Prop:=
 Rd H a (.tup xs)\/
  ∃(o:aV) (its:Array Yg) (n:Nat),K.lookup a=Ya o/\(o.cls= .type "tuple" /\o.dict=Ye)/\o.data= .seq its n/\its.size<=bN/\Vals xs its.toList
noncomputable def Zxh:Yg->Option V
 | .none=>Ya .non|.bool b=>Ya (.bl b)|.int i _=>Ya (.int i)|.str x _=>Ya (.str x)
 | .bytes b _=>Ya (.Cy b)|.float b _=>Ya (.flt b)|.ref a=>Ya (.ref a)|.type n=>Ya (.ty n)
 |_=>Ye
theorem RelV.abs{x:V}{u:Yg}(r:RelV x u):Zxh u=Ya x:=by
 cases x with
 |non=>cases r;rfl|bl _=>cases r;rfl|int _=>obtain⟨t,rfl⟩:=r;rfl|str _=>obtain⟨t,rfl⟩:=r;rfl
 |Cy _=>obtain⟨t,rfl⟩:=r;rfl|flt _=>obtain⟨t,rfl⟩:=r;rfl|ref _=>cases r;rfl|ty _=>cases r;rfl
theorem RelV.inj{x y:V}{u:Yg}(r:RelV x u)(q:RelV y u):x=y:=Yq (r.abs.symm.trans q.abs)
theorem Vals.inj:∀{xs ys:List V} {us:List Yg},Vals xs us->Vals ys us->xs=ys
 |_,_,_,.nil,.nil=>rfl|_,_,_,.cons r t,.cons r' t'=>by rw[r.inj r',Vals.inj t t']
variable{K:Yb}
section
variable {X:Cx} {pins:List (Yz×aV)} {σ:St} {H:Hp} {s:Yh} {a:Yz} {xs ys:List V}
theorem cL.of(h:H a=Ya (.lst xs)):cL K H a xs:=.inl (.inl h)
theorem cZ.of(h:H a=Ya (.tup xs)):cZ K H a xs:=.inl (.inl h)
theorem Inv.list(I:Inv X pins σ H s)(h:cL X.K H a xs):∃its:List Yg,Vals xs its/\PlainL s.heap a its.toArray/\xs.length<=bN:=by
 rcases h with h|⟨o,its,n,hk,hc,hd,hs,hz,r⟩
 .obtain⟨z,its,n,r,e⟩:=h.ok I.hok;exact⟨its,r,⟨_,n,e,rfl,rfl,rfl⟩,z⟩
 .refine⟨its.toList,r,⟨o,n,I.v5 a o hk,hc,hd,by simpa using hs⟩,?_⟩;have e:=r.length;simp only[Gv]at e;exact lC 2 2199576973345 T1 e hz
theorem Inv.tuple(I:Inv X pins σ H s)(h:cZ X.K H a xs):∃its:List Yg,Vals xs its/\IsTup s.heap a its.toArray/\xs.length<=bN:=by
 rcases h with h|⟨o,its,n,hk,hc,hs,hz,r⟩
 .obtain⟨z,its,r,p⟩:=h.ok I.hok;exact⟨its,r,p.tup,z⟩
 .refine⟨its.toList,r,⟨o,I.v5 a o hk,hc.1,n,by simpa using hs⟩,?_⟩;have e:=r.length;simp only[Gv]at e;exact lC 2 2199576973345 T1 e hz
theorem Inv.R0(I:Inv X pins σ H s)(h:cL X.K H a xs)(h':cL X.K H a ys):xs=ys:=by
 obtain⟨its,r,⟨o,n,e,_,_,d⟩,_⟩:=I.list h;obtain⟨its',r',⟨o',n',e',_,_,d'⟩,_⟩:=I.list h';rw[e]at e';cases e';rw[d]at d';injection d' with d1 _;have:its=its':=by simpa using congrArg Ce d1
 subst this;exact r.inj r'
theorem Inv.AaP(I:Inv X pins σ H s)(h:cZ X.K H a xs):∃its:List Yg,Vals xs its/\o6 s.heap a its.toArray/\xs.length<=bN:=by
 rcases h with h|⟨o,its,n,hk,hc,hs,hz,r⟩
 .obtain⟨z,its,r,p⟩:=h.ok I.hok;exact⟨its,r,p,z⟩
 .refine⟨its.toList,r,⟨o,I.v5 a o hk,hc,n,by simpa using hs⟩,?_⟩;have e:=r.length;simp only[Gv]at e;exact lC 2 2199576973345 T1 e hz
theorem Inv.Kd(I:Inv X pins σ H s)(h:cZ X.K H a xs)(h':cZ X.K H a ys):xs=ys:=by
 obtain⟨its,r,⟨o,e,_,n,d⟩,_⟩:=I.tuple h;obtain⟨its',r',⟨o',e',_,n',d'⟩,_⟩:=I.tuple h';rw[e]at e';cases e';rw[d]at d';injection d' with d1 _;have:its=its':=by simpa using congrArg Ce d1
 subst this;exact r.inj r'
end
noncomputable abbrev Cx.wish(X:Cx)(E:Yg->Yh->Prop):Cx:={X with xe:=E}
noncomputable abbrev Cx.yF(X:Cx):Cx:=X.wish λ_ _=>False
theorem Cx.Ok.wish{X:Cx}(ok:X.Ok)(E:Yg->Yh->Prop):(X.wish E).Ok:=⟨ok.mod,ok.kind,ok.glob,ok.blt,ok.above,ok.inj,ok.has,ok.cab,ok.hd,ok.frames,ok.G9,ok.NP,ok.bs,ok.rP,ok.Bj,ok.Bk,ok.ni,ok.v4⟩
theorem Cx.Ok.tM{X:Cx}{E:Yg->Yh->Prop}(ok:(X.wish E).Ok):X.Ok:=⟨ok.mod,ok.kind,ok.glob,ok.blt,ok.above,ok.inj,ok.has,ok.cab,ok.hd,ok.frames,ok.G9,ok.NP,ok.bs,ok.rP,ok.Bj,ok.Bk,ok.ni,ok.v4⟩
section
variable {X:Cx} {pins:List (Yz×aV)} {σ:St} {H:Hp} {s:Yh} {E:Yg->Yh->Prop}
theorem Inv.wish(I:Inv X pins σ H s)(E:Yg->Yh->Prop):Inv (X.wish E) pins σ H s:=⟨I.ok.wish E,I.os,I.bare,I.base,I.loc,I.cell,I.free,I.m_,I.pin,I.hok,I.len⟩
theorem Inv.tM(I:Inv (X.wish E) pins σ H s):Inv X pins σ H s:=⟨I.ok.tM,I.os,I.bare,I.base,I.loc,I.cell,I.free,I.m_,I.pin,I.hok,I.len⟩
theorem SP.tM{D:Ends}{f:Flow}{s':Yh}(h:SP (X.wish E) pins D f s'):SP X pins D f s':=by
 cases f with
 |next=>obtain⟨σ',H',I,q⟩:=h;exact⟨σ',H',I.tM,q⟩|brk=>obtain⟨σ',H',I,q⟩:=h;exact⟨σ',H',I.tM,q⟩|cont=>obtain⟨σ',H',I,q⟩:=h;exact⟨σ',H',I.tM,q⟩|ret u=>obtain⟨v,σ',H',I,r,q⟩:=h;exact⟨v,σ',H',I.tM,r,q⟩
theorem jt.yF{st:List Yd1}{t:TS}(h:jt X.yF st t):jt X st t:=λpins s σ H D I hw=>j8 (h pins s σ H D (I.wish _) hw) (λ_ _ q=>q.tM) λ_ _ z=>jL z
end
section
variable {X:Cx} {st:Yd1} {rest:List Yd1} {t u:TS} {e:Expr} {te:TE} {pos:bQ}
def Zvi:TS:=λD σ H=>D.nx σ H
def ZwC(t u:TS):TS:=λD σ H=>t {D with nx:=u D} σ H
theorem ZrC:jt X [] Zvi:=λ_ _ σ H _ I h=>Gf ⟨σ,H,I,h⟩
theorem ZpG(h1:PS X st t)(h2:jt X rest u):jt X (st::rest) (ZwC t u):=by
 intro pins s σ H D I h;refine U4 (a_ (h1 pins s σ H {D with nx:=u D} I h) λf s1 q=>?_);cases f with
 |next=>obtain⟨σ',H',I',q⟩:=q;exact h2 pins s1 σ' H' D I' q|ret v=>exact q|brk=>exact q
 |cont=>exact q
theorem Zrz(h1:PS X st t):jt X [st] t:=by
 intro pins s σ H D I h;refine U4 (a_ (h1 pins s σ H D I h) λf s1 q=>?_);cases f with
 |next=>exact Gf q|ret v=>exact q|brk=>exact q|cont=>exact q
theorem Inv.quiet{pins:List (Yz×aV)}{σ:St}{H:Hp}{s:Yh}(I:Inv X pins σ H s):interactive X.env=false:=by simp[interactive,I.ok.kind]
def ZvD(te:TE):TS:=λD σ H=>te σ H λ_ H1=>D.nx σ H1
theorem Zr6(he:PE X e te)(hs:uc e Ye pos.line X.env=pure false:=by rfl):PS X (.Expr e pos) (ZvD te):=by intro pins s σ H D I h;exact wpAny_Expr_any (a_ (he pins s σ H _ I h) λv s1 ⟨x,H1,I1,r1,q1⟩=>⟨σ,H1,I1,q1⟩) I.quiet hs
def ZwR(te:TE):TS:=λD σ H=>te σ H D.rt
theorem Ztq(he:PE X e te):PS X (.Return (Ya e) pos) (ZwR te):=by intro pins s σ H D I h;exact wpAny_Return_some (a_ (he pins s σ H _ I h) λv s1 ⟨x,H1,I1,r1,q1⟩=>⟨x,σ,H1,I1,r1,q1⟩)
def Zxa(c:TT)(t u:TS):TS:=λD σ H=>c σ H λb H1=>if b=true then t D σ H1 else u D σ H1
theorem ZvV{c:Expr}{a b:List Yd1}{tc:TT}(hc:PT X c tc)(ha:jt X a t)(hb:jt X b u):PS X (.If c a b pos) (Zxa tc t u):=by
 intro pins s σ H D I h;refine wpAny_If (a_ (hc pins s σ H _ I h) λd s1 ak=>?_);obtain⟨H1,I1,q1⟩:=ak;cases d with
 |true=>exact ha pins s1 σ H1 D I1 q1|false=>exact hb pins s1 σ H1 D I1 q1
end
noncomputable abbrev TG:=V->St->Hp->(St->Hp->Prop)->Prop
noncomputable abbrev o7:=List V->St->Hp->(St->Hp->Prop)->Prop
def PG(X:Cx)(target:Expr)(t:TG):Prop:=
 ∀(pins:List (Yz×aV)) (s:Yh) (σ:St) (H:Hp) (v:V) (u:Yg) (Q:St->Hp->Prop),Inv X pins σ H s->RelV v u->t v σ H Q ->
  aA (aN X.prog X.w) X.A (iy target X.env u) (λ_ s'=>∃σ' H',Inv X pins σ' H' s'/\Q σ' H') X.xe s
def o8(X:Cx)(ts:List Expr)(t:o7):Prop:=
 ∀(pins:List (Yz×aV)) (s:Yh) (σ:St) (H:Hp) (vs:List V) (us:List Yg) (Q:St->Hp->Prop),Inv X pins σ H s->Vals vs us->t vs σ H Q ->
  aA (aN X.prog X.w) X.A (assignInOrder ((fO ts X.env).map (·.2)) us) (λ_ s'=>∃σ' H',Inv X pins σ' H' s'/\Q σ' H') X.xe s
noncomputable abbrev NT:=V->V->V->Hp->(Hp->Prop)->Prop
def Wz(X:Cx)(t:NT):Prop:=
 ∀(pins:List (Yz×aV)) (s:Yh) (σ:St) (H:Hp) (o i v:V) (ov iv u:Yg) (Q:Hp->Prop),Inv X pins σ H s->RelV o ov->RelV i iv->RelV v u->t o i v H Q ->
  aA (aN X.prog X.w) X.A (vJ ov iv u) (λ_ s'=>∃H',Inv X pins σ H' s'/\Q H') X.xe s
variable{tg:Expr}
section
variable {X:Cx} {pos:bQ}
def WD(i:Nat):TG:=λv σ H Q=>Q (σ.set i (Ya v)) H
theorem WK{i:Nat}{x:aj}(hN:X.N.Nodup)(hi:X.N[i]?=Ya x)(hx:Loc X.env.scope x)(hf:X.fn x=true\/X.env.scope.names.lookup x=Ya .local:=by first|exact .inl rfl|exact .inr rfl|assumption):PG X (.Name x pos) (WD i):=by intro pins s σ H v u Q I r h;exact UL (Wy I hN hi hx r (λs' I'=>⟨_,H,I',h⟩) hf)
def ZwJ:o7:=λvs σ H Q=>vs=[]/\Q σ H
def Zvv(t:TG)(u:o7):o7:=λvs σ H Q=>∃v r,vs=v::r/\t v σ H λσ' H'=>u r σ' H' Q
theorem WL:o8 X [] ZwJ:=by intro pins s σ H vs us Q I r h;obtain⟨e,h⟩:=h;subst e;cases r;exact assignInOrder_nil ⟨σ,H,I,h⟩
theorem NZ{e:Expr}{es:List Expr}{t:TG}{u:o7}(h1:PG X e t)(h2:o8 X es u)(hs:(fO (e::es) X.env).map (·.2)=iy e X.env::(fO es X.env).map (·.2):=by rfl):o8 X (e::es) (Zvv t u):=by
 intro pins s σ H vs us Q I r h;obtain⟨v,vr,e1,h⟩:=h;subst e1;cases r with
 |cons r rr=>rw[hs];refine assignInOrder_cons (a_ (h1 pins s σ H _ _ _ I r h) λ_ s1 ak=>?_);obtain⟨σ1,H1,I1,q1⟩:=ak;exact h2 pins s1 σ1 H1 _ _ Q I1 rr q1
def ZwY(K:Yb)(n:Nat)(t:o7):TG:=λv σ H Q=>∃a xs,v= .ref a/\cZ K H a xs/\xs.length=n/\t xs σ H Q
theorem WM{es:List Expr}{k:Nat}{t:o7}{n:Nat}(hc:X.calm=true)(h:o8 X es t)(hn:(fO es X.env).length=n:=by rfl)(hst:(fO es X.env).findIdx? (·.1)=Ye:=by rfl):PG X (.Tuple es k pos) (ZwY X.K n t):=by intro pins s σ H v u Q I r hw;obtain⟨a,xs,e1,hq,hl,hw⟩:=hw;subst e1;cases r;obtain⟨its,rv,ht,hz⟩:=I.tuple hq;refine assign_Tuple_tuple (I.ok.hd hc) ht (by simp[hn,←hl,rv.length]) hst λh' hx=>?_;have I1:Inv X pins σ H {s with heap:=h'}:=I.kept (t':=s.toks) λb o e=>hx b o (dU (Yv e)) e;exact h pins _ σ H xs _ Q I1 (by simpa using rv) hw
def Zw4(to ti:TE)(t:NT):TG:=λv σ H Q=>to σ H λo H1=>ti σ H1 λi H2=>t o i v H2 λH3=>Q σ H3
theorem WN{o i:Expr}{to ti:TE}{t:NT}(ho:PE X o to)(hi:PE X i ti)(hs:Wz X t)(ha:∀v,iy (.Subscript o i pos) X.env v=(do
   let ov ←jf [v] (bU o X.env)
   let iv ←jf [v,ov] (bU i X.env)
   vI pos
   jf [v,ov,iv] (vJ ov iv v)
   BR [v,ov,iv] []):=by intro _;rfl):PG X (.Subscript o i pos) (Zw4 to ti t):=by
 intro pins s σ H v u Q I r h;rw[ha];refine Yf (j6 (a_ (ho pins s σ H _ I h) λov s1 ak=>?_));obtain⟨x,H1,I1,r1,q1⟩:=ak;refine Yf (j6 (a_ (hi pins s1 σ H1 _ I1 q1) λiv s2 ak=>?_));obtain⟨y,H2,I2,r2,q2⟩:=ak;refine Yf (Gg (Yf (j6 (a_ (hs pins s2 σ H2 x y v ov iv u _ I2 r1 r2 r q2) λ_ s3 ak=>?_))));obtain⟨H3,I3,q3⟩:=ak;exact wpAny_release ⟨σ,H3,I3,q3⟩
def WP(te:TE)(g:TG):TS:=λD σ H=>te σ H λx H1=>g x σ H1 D.nx
theorem Hh{e:Expr}{te:TE}{g:TG}(he:PE X e te)(hg:PG X tg g)(hs:BJ [tg] e pos.line X.env=pure false:=by rfl)(hw:BK [tg] e X.env=pure Ye:=by rfl)(h1:(fO [tg] X.env).map (·.2)=[iy tg X.env]:=by rfl):PS X (.Assign [tg] e pos) (WP te g):=by intro pins s σ H D I h;refine wpAny_Assign_stores (a_ (he pins s σ H _ I h) λv s1 ak=>?_) hs hw;obtain⟨x,H1,I1,r1,q1⟩:=ak;rw[h1];exact a_ (hg pins s1 σ H1 x v _ I1 r1 q1) λ_ s2 q=>q
theorem Zuq{i:Nat}{x:aj}{e:Expr}{te:TE}{pos':bQ}(hN:X.N.Nodup)(hi:X.N[i]?=Ya x)(hx:Loc X.env.scope x)(he:PE X e te)(hs:uc e (Ya (.Name x pos')) pos.line X.env=pure false:=by rfl)(hf:X.fn x=true\/X.env.scope.names.lookup x=Ya .local:=by first|exact .inl rfl|exact .inr rfl|assumption):
  PS X (.Assign [.Name x pos'] e pos) (WP te (WD i)):=by
 intro pins s σ H D I h;refine wpAny_Assign_Name (a_ (he pins s σ H _ I h) λv s1 ak=>?_) hs;obtain⟨y,H1,I1,r1,q1⟩:=ak;exact Wy I1 hN hi hx r1 (λs2 I2=>⟨_,H1,I2,q1⟩) hf
end
section
variable {X:Cx} {pos:bQ}
def Ztx(c:TT)(tb:TS):TS:=λD σ H=>∃W:Nat->St->Hp->Prop,(∃m,W m σ H)/\∀m σ H,W m σ H ->
 c σ H λb H1=>if b=true then∃N:St->Hp->Prop,(∀σ' H',N σ' H'->∃m',m'<m/\W m' σ' H')/\tb {D with nx:=N,ct:=N,bk:=D.nx} σ H1 else D.nx σ H1
theorem Zrb{c:Expr}{body:List Yd1}{tc:TT}{tb:TS}(hp:PassesOwn (aN X.prog X.w) X.A X.env X.xe)(hc:PT X c tc)(hb:jt X body tb):PS X (.While c body [] pos) (Ztx tc tb):=by
 intro pins s σ H D I h;obtain⟨W,⟨m0,w0⟩,turn⟩:=h;refine wpAny_While (codeAny_whileLoop (λn s'=>∃σ' H',Inv X pins σ' H' s'/\W n σ' H') ?_ m0 ⟨σ,H,I,w0⟩);rintro n s1 ⟨σ1,H1,I1,w1⟩;refine vD hp (a_ (hc pins s1 σ1 H1 _ I1 (turn n σ1 H1 w1)) λb s2 ak=>?_);obtain⟨H2,I2,q2⟩:=ak;cases b with
 | true=>
  obtain⟨N,hN,q2⟩:=q2;rw[if_pos rfl];refine vD hp (a_ (hb pins s2 σ1 H2 _ I2 q2) λf s3 q3=>?_);cases f with
  |next=>obtain⟨σ3,H3,I3,n3⟩:=q3;obtain⟨m',hm,w3⟩:=hN σ3 H3 n3;exact⟨m',hm,σ3,H3,I3,w3⟩|cont=>obtain⟨σ3,H3,I3,n3⟩:=q3;obtain⟨m',hm,w3⟩:=hN σ3 H3 n3;exact⟨m',hm,σ3,H3,I3,w3⟩|brk=>exact q3|ret v=>exact q3
 |false=>rw[if_neg mz];exact Gf ⟨σ1,H2,I2,q2⟩
end
structure It where
 go:Nat->Hp->Prop
 Hi:Nat->Hp->V->Hp->Prop
 stop:Nat->Hp->Prop
def ju(X:Cx)(pins:List (Yz×aV))(H:Hp)(b:Yz):Prop:=H b=Ye/\b≠X.env.locals/\b∉X.fs/\(b∈X.ex\/X.s₀.heap.objs.size<=b)/\(∀x c,X.env.cells.lookup x=Ya c->c≠b)/\∀p∈X.pn++pins,p.1≠b
theorem Inv.u_{X:Cx}{pins:List (Yz×aV)}{σ:St}{H H':Hp}{s:Yh}{b:Yz}(I:Inv X pins σ H s)(hb:s.heap.objs.size<=b)(hn:H' b=Ye):ju X pins H' b:=by
 refine⟨hn,Fx (Y9 I.lt hb),I.Aa3 hb,.inr (Y4 I.sz hb),λx c e z=>?_,λp hp z=>?_⟩
 .obtain⟨v,q⟩:=I.cell x c e;exact absurd (Y9 q.lt (by rw[z];exact hb)) (tU _)
 .exact absurd (Y9 (Yv (I.pin p hp).1) (by rw[z];exact hb)) (tU _)
structure Turn(P:cj)(w:bO)(K:Yb)(tg:Expr)(J:It)(fp:List Yz)(it:Yz)(tn:Nat->aY->Prop):Prop where
 mem:it∈fp
 obj:∀i h,tn i h->∀b∈fp,∃o,h.get? b=Ya o/\∀v,o.data≠ .cell v
 keep:∀i h h',tn i h->(∀b∈fp,∀o,h.get? b=Ya o->h'.get? b=Ya o)->tn i h'
 item:∀(X:Cx),X.prog=P->X.w=w->X.K=K->X.calm=true->∀(i:Nat) (pins:List (Yz×aV)) (s:Yh) (σ:St) (H:Hp) (E:Yg->Yh->Prop),Inv X pins σ H s->(∀b∈fp,ju X pins H b)->tn i s.heap->J.go i H ->
  aA (aN P w) X.A (pY (.ref it)) (λr s1=>∃u,r=Ya u/\
   aA (aN P w) X.A (Bx tg (.ref it) u) (λ_ s2=>∃x H',Inv X pins σ H' s2/\RelV x u/\J.Hi i H x H'/\tn (i+1) s2.heap/\∀b∈fp,H' b=Ye) E s1) E s
 done:∀(X:Cx),X.prog=P->X.w=w->X.K=K->X.calm=true->∀(i:Nat) (pins:List (Yz×aV)) (s:Yh) (σ:St) (H:Hp) (E:Yg->Yh->Prop),Inv X pins σ H s->(∀b∈fp,ju X pins H b)->tn i s.heap->J.stop i H ->
  aA (aN P w) X.A (pY (.ref it)) (λr s1=>r=Ye/\Inv X pins σ H s1) E s
 self:∀(A:cG) (i:Nat) (s:Yh) (Q:Yg->Yh->Prop) (E:Yg->Yh->Prop),tn i s.heap->Q (.ref it) s->aA (aN P w) A (BV (.ref it)) Q E s
noncomputable abbrev TI:=St->Hp->(It->Hp->Prop)->Prop
def PIE(X:Cx)(pins:List (Yz×aV))(σ:St)(tg:Expr)(R:It->Hp->Prop)(itv:Yg)(s2:Yh):Prop:=∃(it:Yz) (fp:List Yz) (tn:Nat->aY->Prop) (J:It) (H':Hp),itv= .ref it/\Inv X pins σ H' s2/\Turn X.prog X.w X.K tg J fp it tn/\tn 0 s2.heap/\(∀b∈fp,ju X pins H' b)/\R J H'
def PI(X:Cx)(tg iter:Expr)(wi:TI):Prop:=
 ∀(pins:List (Yz×aV)) (s:Yh) (σ:St) (H:Hp) (R:It->Hp->Prop),Inv X pins σ H s->wi σ H R ->
  aA (aN X.prog X.w) X.A (bU iter X.env) (λv s1=>aA (aN X.prog X.w) X.A (BV v) (PIE X pins σ tg R) X.xe s1) X.xe s
theorem CP{M:Model}{A:cG}{E:Yg->Yh->Prop}{s:Yh}{it:Yz}{u:Yg}{o:aV}{n:String}{vs:Array Yg}{Q:Unit->Yh->Prop}(ho:s.heap.get? it=Ya o)(hc:o.cls= .type n)(hd:o.data= .fields vs)(hn:["enumerate","zip","dict_itemiterator","dict_reverseitemiterator","odict_iterator","itertools.zip_longest","itertools.pairwise"].contains n=false)(hQ:Q () s):aA M A (Bx tg (.ref it) u) Q E s:=by
 unfold Bx;cases tg<;>first
  |exact Yw hQ
  | (cases u<;>first
    |exact Yw hQ
    | (refine Yf (wpAny_load ho ?_)
       rw[hc,hd];show aA M A (if(["enumerate","zip","dict_itemiterator","dict_reverseitemiterator","odict_iterator","itertools.zip_longest","itertools.pairwise"].contains n&&vs[0]?==Ya (vM _))=true then _ else _) Q E s;rw[if_neg (by intro h;rw[hn,Mp]at h;cases h)];exact Yw hQ))
noncomputable def WQ(K:Yb)(a:Yz):It:=⟨λi H=>∃xs x,cL K H a xs/\xs[i]?=Ya x,λi H x H'=>H'=H/\∀xs,cL K H a xs->xs[i]?=Ya x,λi H=>∃xs,cL K H a xs/\xs.length<=i⟩
noncomputable def WR(K:Yb)(a:Yz):It:=⟨λi H=>∃xs x,cZ K H a xs/\xs[i]?=Ya x,λi H x H'=>H'=H/\∀xs,cZ K H a xs->xs[i]?=Ya x,λi H=>∃xs,cZ K H a xs/\xs.length<=i⟩
noncomputable def Hj(lo:Int)(n:Nat):It:=⟨λi _=>i<n,λi H x H'=>H'=H/\x= .int (lo+i),λi _=>n<=i⟩
theorem Zo1{P:cj}{w:bO}(a it:Yz):Turn P w K tg (WQ K a) [it] it (λi h=>h.IsListIter it a i)where
 mem:=by simp
 obj:=λi h st b hb=>by
  have e:b=it:=by simpa using hb
  subst e;obtain⟨o,e,c,d⟩:=st;exact⟨o,e,λv z=>by rw[d]at z;cases z⟩
 keep:=λi h h' st k=>st.at λo e=>k it (by simp) o e
 item:=by intro X hP hw hK hc i pins s σ H E I hf st hg;subst hP hw hK;obtain⟨xs,x,hq,hx⟩:=hg;obtain⟨its,rv,p,hz⟩:=I.list hq;obtain⟨u,hu,ru⟩:=rv.get hx;obtain⟨f0,f1,f2,f3,f4,f5⟩:=hf it (by simp);refine Uz st p.isList (x:=u) (by simpa using hu) λh' st' sb=>?_;have I1:Inv X pins σ H {s with heap:=h'}:=I.turned (t':=s.toks) (λb o hb e=>(sb.2 b hb).trans e) f0 f1 f3 f4 f5;obtain⟨o,e,c,d⟩:=id st';exact⟨u,rfl,CP (s:={s with heap:=h'}) e c d (by decide) ⟨x,H,I1,ru,⟨rfl,λys hy=>by rw[I.R0 hy hq];exact hx⟩,st',λb hb=>(hf b hb).1⟩⟩
 done:=by intro X hP hw hK hc i pins s σ H E I hf st hg;subst hP hw hK;obtain⟨xs,hq,hx⟩:=hg;obtain⟨its,rv,p,hz⟩:=I.list hq;obtain⟨f0,f1,f2,f3,f4,f5⟩:=hf it (by simp);have hl:=rv.length;exact UG (I.ok.hd hc) st p.isList (by simp;exact lC 2 2268279672881 T1 hl hx) λh' eb=>⟨rfl,I.turned (t':=s.toks) (λb o hb e=>eb b o hb e) f0 f1 f3 f4 f5⟩
 self:=λ_ _ _ _ _ st h=>wpAny_pyIter_listiter st h
theorem ZnL{P:cj}{w:bO}(a it:Yz):Turn P w K tg (WR K a) [it] it (λi h=>h.IsTupleIter it a i)where
 mem:=by simp
 obj:=λi h st b hb=>by
  have e:b=it:=by simpa using hb
  subst e;obtain⟨o,e,c,d⟩:=st;exact⟨o,e,λv z=>by rw[d]at z;cases z⟩
 keep:=λi h h' st k=>st.at λo e=>k it (by simp) o e
 item:=by intro X hP hw hK hc i pins s σ H E I hf st hg;subst hP hw hK;obtain⟨xs,x,hq,hx⟩:=hg;obtain⟨its,rv,p,hz⟩:=I.tuple hq;obtain⟨u,hu,ru⟩:=rv.get hx;obtain⟨f0,f1,f2,f3,f4,f5⟩:=hf it (by simp);refine wpAny_pyNext_tuple_item st (show s.heap.IsTuple a its.toArray from p) (x:=u) (by simpa using hu) λh' st' sb=>?_;have I1:Inv X pins σ H {s with heap:=h'}:=I.turned (t':=s.toks) (λb o hb e=>(sb.2 b hb).trans e) f0 f1 f3 f4 f5;obtain⟨o,e,c,d⟩:=id st';exact⟨u,rfl,CP (s:={s with heap:=h'}) e c d (by decide) ⟨x,H,I1,ru,⟨rfl,λys hy=>by rw[I.Kd hy hq];exact hx⟩,st',λb hb=>(hf b hb).1⟩⟩
 done:=by intro X hP hw hK hc i pins s σ H E I hf st hg;subst hP hw hK;obtain⟨xs,hq,hx⟩:=hg;obtain⟨its,rv,p,hz⟩:=I.tuple hq;obtain⟨f0,f1,f2,f3,f4,f5⟩:=hf it (by simp);have hl:=rv.length;exact wpAny_pyNext_tuple_end (I.ok.hd hc) st (show s.heap.IsTuple a its.toArray from p) (by simp;exact lC 2 2268279672881 T1 hl hx) λh' eb=>⟨rfl,I.turned (t':=s.toks) (λb o hb e=>eb b o hb e) f0 f1 f3 f4 f5⟩
 self:=λ_ _ _ _ _ st h=>wpAny_pyIter_tupleiter st h
theorem Znq{P:cj}{w:bO}(it:Yz)(lo:Int)(n:Nat):Turn P w K tg (Hj lo n) [it] it (λi h=>IsRangeIter h it (lo+(i:Nat)*1) ((n:Int)-(i:Nat)) 1)where
 mem:=by simp
 obj:=λi h st b hb=>by
  have e:b=it:=by simpa using hb
  subst e;exact⟨_,st,λv z=>by have z':Data.fields _=Data.cell v:=z;cases z'⟩
 keep:=λi h h' st k=>k it (by simp) _ st
 item:=by intro X hP hw hK hc i pins s σ H E I hf st hg;subst hP hw hK;obtain⟨f0,f1,f2,f3,f4,f5⟩:=hf it (by simp);have W:=Walks.range (prog:=X.prog) (w:=X.w) (I.ok.hd hc) it lo 1 n;refine W.item i s _ _ hg st λv h' tk hv st' kk=>?_;obtain⟨t,rfl⟩:=hv;have I1:Inv X pins σ H {s with heap:=h',toks:=tk}:=I.turned (λb o hb e=>kk b o (by simpa using hb) e) f0 f1 f3 f4 f5;refine⟨_,rfl,CP (s:={s with heap:=h',toks:=tk}) (n:="range_iterator") st' rfl rfl (by decide) ⟨.int (lo+i),H,I1,⟨t,?_⟩,⟨rfl,rfl⟩,st',λb hb=>(hf b hb).1⟩⟩;rw[Int.mul_one]
 done:=by intro X hP hw hK hc i pins s σ H E I hf st hg;subst hP hw hK;obtain⟨f0,f1,f2,f3,f4,f5⟩:=hf it (by simp);exact wpAny_pyNext_range_end (I.ok.hd hc) st (by have:n<=i:=hg;exact iN [_,_] [] 1 0xe1808f81001 T1 this) λh' eb=>⟨rfl,I.turned (t':=s.toks) (λb o hb e=>eb b o hb e) f0 f1 f3 f4 f5⟩
 self:=λ_ _ _ _ _ st h=>wpAny_pyIter_rangeiter st h
end L2
namespace L2
open PySem PySem.Spec PyProof.Rows
variable{pins:List (Yz×aV)}{fp:List Yz}
section
variable {X:Cx} {tg:Expr}
def Zvu(K:Yb)(tl:TE):TI:=λσ H R=>tl σ H λx H1=>∃a,x= .ref a/\(∃xs,cL K H1 a xs)/\R (WQ K a) H1
def Zxf(K:Yb)(tl:TE):TI:=λσ H R=>tl σ H λx H1=>∃a,x= .ref a/\(∃xs,cZ K H1 a xs)/\R (WR K a) H1
theorem Zr0{l:Expr}{tl:TE}(hl:PE X l tl):PI X tg l (Zvu X.K tl):=by
 intro pins s σ H R I h;refine a_ (hl pins s σ H _ I h) λv s1 ak=>?_;obtain⟨x,H1,I1,r1,q1⟩:=ak;obtain⟨a,e,⟨xs,hq⟩,q⟩:=q1;subst e;cases r1;obtain⟨its,rv,p,hz⟩:=I1.list hq;refine UT p.isList ?_;refine⟨s1.heap.objs.size,[s1.heap.objs.size],_,_,H1,rfl,I1.kept (t':=s1.toks) λb o e=>Yo _ e,Zo1 a _,⟨_,jg _ rfl,rfl,rfl⟩,λb hb=>?_,q⟩;have e:b=s1.heap.objs.size:=by simpa using hb
 subst e;exact I1.u_ (Yk _) (I1.hok.fresh (Yk _))
theorem ZtG{l:Expr}{tl:TE}(hl:PE X l tl):PI X tg l (Zxf X.K tl):=by
 intro pins s σ H R I h;refine a_ (hl pins s σ H _ I h) λv s1 ak=>?_;obtain⟨x,H1,I1,r1,q1⟩:=ak;obtain⟨a,e,⟨xs,hq⟩,q⟩:=q1;subst e;cases r1;obtain⟨its,rv,p,hz⟩:=I1.tuple hq;refine Bw (show s1.heap.IsTuple a its.toArray from p) ?_;refine⟨s1.heap.objs.size,[s1.heap.objs.size],_,_,H1,rfl,I1.kept (t':=s1.toks) λb o e=>Yo _ e,ZnL a _,⟨_,jg _ rfl,rfl,rfl⟩,λb hb=>?_,q⟩;have e:b=s1.heap.objs.size:=by simpa using hb
 subst e;exact I1.u_ (Yk _) (I1.hok.fresh (Yk _))
theorem ZpH{σ:St}{H:Hp}{s:Yh}{R:It->Hp->Prop}{E:Yg->Yh->Prop}{lo hi:Int}{t u v:j9}{tk:Nat}(I:Inv X pins σ H s)(h1:-(2^62)<=lo)(h2:lo<2^62)(h3:-(2^62)<=hi)(h4:hi<2^62)(q:R (Hj lo (hi-lo).toNat) H):aA (aN X.prog X.w) X.A (BV (.ref s.heap.objs.size)) (PIE X pins σ tg R) E {s with heap:=s.heap.push {cls:=.type "range",data:=.fields #[.int lo t,.int hi u,.int 1 v]},toks:=tk}:=by
 refine wpAny_pyIter_range (IsRange.new ..) (small_one h1 h2 h3 h4) ?_;have I1:Inv X pins σ H {s with heap:=s.heap.push {cls:=.type "range",data:=.fields #[.int lo t,.int hi u,.int 1 v]},toks:=tk}:=I.kept λb o e=>Yo _ e;refine⟨(s.heap.push {cls:=.type "range",data:=.fields #[.int lo t,.int hi u,.int 1 v]}).objs.size,[(s.heap.push {cls:=.type "range",data:=.fields #[.int lo t,.int hi u,.int 1 v]}).objs.size],_,_,H,rfl,
  I1.kept (t':=tk) λb o e=>Yo _ e,Znq _ lo (hi-lo).toNat,?_,λb hb=>?_,q⟩
 .have e1:lo+((0:Nat):Int)*1=lo:=by simp
  have e2:(((hi-lo).toNat:Nat):Int)-((0:Nat):Int)=Builtin.Range.rangeSize lo hi 1:=by rw[rangeSize_one];split <;>omega
  show IsRangeIter _ _ (lo+((0:Nat):Int)*1) ((((hi-lo).toNat:Nat):Int)-((0:Nat):Int)) 1;rw[e1,e2];exact jg _ rfl
 .have e:b=(s.heap.push {cls:=.type "range",data:=.fields #[.int lo t,.int hi u,.int 1 v]}).objs.size:=by simpa using hb
  subst e;exact I1.u_ (Yk _) (I1.hok.fresh (Yk _))
def ZuX(ta:TA):TI:=λσ H R=>ta σ H λvs H1=>∃j:Int,vs=[.int j]/\ -(2^62)<=j/\j<2^62/\R (Hj 0 j.toNat) H1
theorem Zpz{a:Expr}{ta:TA}{p pos:bQ}(hg:Gl X "range")(hm:X.mg "range" =Ye)(ha:PA X [a] ta)(hs:cF [a] X.env=[(false,bU a X.env)]:=by rfl):PI X tg (.Call (.Name "range" p) [a] [] pos) (ZuX ta):=by
 intro pins s σ H R I h;refine Call_ (Hf I hg hm boot_range (Mw (a_ (ha pos pins s σ H _ I h) λus s1 ak=>?_) hs rfl));obtain⟨vs,H1,I1,r1,q1⟩:=ak;obtain⟨j,e,q1,q2,q⟩:=q1;subst e;cases r1 with
 |cons r rr=>
  cases rr
  obtain⟨t,rfl⟩:=r;exact call_range_1 (ZpH I1 (by omega) (by omega) q1 q2 (by simpa using q))
def Zw1(wi:TI)(g:TG)(tb:TS):TS:=λD σ H=>wi σ H λJ H1=>∃W:Nat->Nat->St->Hp->Prop,(∃m,W 0 m σ H1)/\∀i m σ H,W i m σ H ->
 (J.stop i H/\D.nx σ H)\/(J.go i H/\∃N:St->Hp->Prop,(∀σ' H',N σ' H'->∃m',m'<m/\W (i+1) m' σ' H')/\∀x H',J.Hi i H x H'->g x σ H' λσ2 H2=>tb {D with nx:=N,ct:=N,bk:=D.nx} σ2 H2)
noncomputable def ur(fp:List Yz)(h:aY):List (Yz×aV):=fp.filterMap λb=>(h.get? b).map λo=>(b,o)
theorem Hl{h:aY}{b:Yz}{o:aV}(hb:b∈fp)(e:h.get? b=Ya o):(b,o)∈ur fp h:=xV.mpr ⟨b,hb,by rw[e];rfl⟩
theorem ZoW{h:aY}{p:Yz×aV}(hp:p∈ur fp h):p.1∈fp/\h.get? p.1=Ya p.2:=by
 obtain⟨b,hb,e⟩:=xV.mp hp;cases q:h.get? b with
 |none=>rw[q]at e;cases e|some o=>rw[q]at e;have e':(b,o)=p:=Yq e;subst e';exact⟨hb,q⟩
theorem Inv.pinned{σ:St}{H:Hp}{s:Yh}(I:Inv X pins σ H s)(hf:∀b∈fp,ju X pins H b)(ho:∀b∈fp,∃o,s.heap.get? b=Ya o/\∀v,o.data≠ .cell v):Inv X (pins++ur fp s.heap) σ H s:=I.R5 λp hp=>(jK.mp hp).elim (λz=>I.pin p (nA _ z)) λz=>by obtain⟨hb,e⟩:=ZoW z;obtain⟨f0,f1,f2,_⟩:=hf p.1 hb;obtain⟨o,e',d⟩:=ho p.1 hb;rw[e]at e';cases e';exact⟨e,f0,f1,f2,d⟩
theorem Inv.Fi{pl:List (Yz×aV)}{σ:St}{H:Hp}{s:Yh}(I:Inv X (pins++pl) σ H s):Inv X pins σ H s:=I.R5 λp hp=>I.pin p (nA _ (FT _ hp))
theorem WT{iter:Expr}{body:List Yd1}{wi:TI}{g:TG}{tb:TS}{pos:bQ}(hp:PassesOwn (aN X.prog X.w) X.A X.env X.xe)(hc:X.calm=true)(hi:PI X tg iter wi)(hg:PG X tg g)(hb:jt X body tb)(hs:∀x,ye iter X.env x=pure x:=by intro _;rfl):PS X (.For tg iter body [] pos) (Zw1 wi g tb):=by
 intro pins s σ H D I h;refine wpAny_For (a_ (hi pins s σ H _ I h) λv s1 h1=>a_ h1 λitv s2 h2=>?_) hs;obtain⟨it,fp,tn,J,H2,e,I2,T,st2,f2,W,⟨m0,w0⟩,turn⟩:=h2;subst e;have stat:∀{H':Hp},(∀b∈fp,H' b=Ye)->∀b∈fp,ju X pins H' b:=λhn b hb=>⟨hn b hb,(f2 b hb).2⟩;refine codeAny_forLoop_any (λn s'=>∃i σ' H',Inv X pins σ' H' s'/\tn i s'.heap/\(∀b∈fp,H' b=Ye)/\W i n σ' H') ?_ m0 ⟨0,σ,H2,I2,st2,λb hb=>(f2 b hb).1,w0⟩;rintro n s3 ⟨i,σ3,H3,I3,st3,WW,w3⟩;rcases turn i n σ3 H3 w3 with⟨stop,qn⟩|⟨go,N,hN,step⟩
 .refine vD hp (a_ (T.done X rfl rfl rfl hc i pins s3 σ3 H3 X.xe I3 (stat WW) st3 stop) λr s4 ⟨hr,I4⟩=>?_);subst hr;exact Gf ⟨σ3,H3,I4,qn⟩
 .refine vD hp (a_ (T.item X rfl rfl rfl hc i pins s3 σ3 H3 X.xe I3 (stat WW) st3 go) λr s4 ⟨u,hr,h4⟩=>?_);subst hr;refine vD hp (a_ h4 λ_ s5 ak=>?_);obtain⟨x,H5,I5,r5,y5,nO,rQ⟩:=ak;have I5':=I5.pinned (stat rQ) (T.obj _ _ nO);refine vD hp (a_ (hg _ s5 σ3 H5 x u _ I5' r5 (step x H5 y5)) λ_ s6 ak=>?_);obtain⟨σ6,H6,I6,q6⟩:=ak;refine vD hp (a_ (hb _ s6 σ6 H6 _ I6 q6) λf s7 q7=>?_);have again:∀{σ7:St} {H7:Hp},Inv X (pins++ur fp s5.heap) σ7 H7 s7->N σ7 H7->∃m,m<n/\∃i σ' H',Inv X pins σ' H' s7/\tn i s7.heap/\(∀b∈fp,H' b=Ye)/\W i m σ' H':=λ{σ7 H7} I7 n7=>by
   obtain⟨m',hm,w7⟩:=hN σ7 H7 n7;refine⟨m',hm,i+1,σ7,H7,I7.Fi,T.keep _ _ _ nO λb hb o e=>(I7.pin (b,o) (nA _ (nA _ (Hl hb e)))).1,λb hb=>?_,w7⟩;obtain⟨o,e,d⟩:=T.obj _ _ nO b hb;exact(I7.pin (b,o) (nA _ (nA _ (Hl hb e)))).2.1
  cases f with
  |next=>obtain⟨σ7,H7,I7,n7⟩:=q7;exact again I7 n7|cont=>obtain⟨σ7,H7,I7,n7⟩:=q7;exact again I7 n7|brk=>obtain⟨σ7,H7,I7,q7⟩:=q7;exact⟨σ7,H7,I7.Fi,q7⟩|ret v=>obtain⟨x7,σ7,H7,I7,r7,q7⟩:=q7;exact⟨x7,σ7,H7,I7.Fi,r7,q7⟩
end
end L2
namespace L2
open PySem PySem.Spec PyProof.Rows
noncomputable abbrev R2:=V->V->Hp->VK->Prop
def bf(X:Cx)(f:Yg->Yg->pZ Yg)(r:R2):Prop:=
 ∀(pins:List (Yz×aV)) (s:Yh) (σ:St) (H:Hp) (x y:V) (v u:Yg) (Q:VK),Inv X pins σ H s->RelV x v->RelV y u->r x y H Q ->
  aA (aN X.prog X.w) X.A (f v u) (EP X pins σ Q) X.xe s
def rR(X:Cx)(f:Yg->pZ Yg)(r:V->Hp->VK->Prop):Prop:=
 ∀(pins:List (Yz×aV)) (s:Yh) (σ:St) (H:Hp) (x:V) (v:Yg) (Q:VK),Inv X pins σ H s->RelV x v->r x H Q ->
  aA (aN X.prog X.w) X.A (f v) (EP X pins σ Q) X.xe s
def fJ(X:Cx)(f:Yg)(r:List V->Hp->VK->Prop):Prop:=
 ∀(pins:List (Yz×aV)) (s:Yh) (σ:St) (H:Hp) (xs:List V) (us:List Yg) (Q:VK),Inv X pins σ H s->Vals xs us->r xs H Q ->
  aA (aN X.prog X.w) X.A (call f us) (EP X pins σ Q) X.xe s
def CQ(r:R2)(ta tb:TE):TE:=λσ H Q=>ta σ H λx H1=>tb σ H1 λy H2=>r x y H2 Q
def WX(r:V->Hp->VK->Prop)(ta:TE):TE:=λσ H Q=>ta σ H λx H1=>r x H1 Q
def rI(C:Int->Int->Prop)(g:Int->Int->V):R2:=λx y H Q=>∃i j,x= .int i/\y= .int j/\C i j/\Q (g i j) H
def ut(g:Int->Int->V):R2:=λx y H Q=>∃i j,x= .int i/\y= .int j/\Q (g i j) H
noncomputable def rU(g:Int->V):V->Hp->VK->Prop:=λx H Q=>∃i,x= .int i/\Q (g i) H
variable{f:Yg->Yg->pZ Yg}
section
variable {X:Cx} {a b c:Expr} {ta tb tc:TE} {pos:bQ}
theorem N5(ha:PE X a ta)(hb:PE X b tb){pins:List (Yz×aV)}{s:Yh}{σ:St}{H:Hp}{R:V->V->Hp->Prop}(I:Inv X pins σ H s)(h:ta σ H λx H1=>tb σ H1 λy H2=>R x y H2){Q:Yg->Yh->Prop}(hf:∀v u s2 x y H2,Inv X pins σ H2 s2->RelV x v->RelV y u->R x y H2->aA (aN X.prog X.w) X.A (f v u) Q X.xe s2):
  aA (aN X.prog X.w) X.A (bU a X.env) (λv s₁=>aA (aN X.prog X.w) X.A (bU b X.env) (λu s₂=>aA (aN X.prog X.w) X.A (f v u) Q X.xe s₂) X.xe s₁) X.xe s:=by
 refine a_ (ha pins s σ H _ I h) λv s1 ak=>?_;obtain⟨x,H1,I1,r1,q1⟩:=ak;refine a_ (hb pins s1 σ H1 _ I1 q1) λu s2 ak=>?_;obtain⟨y,H2,I2,r2,q2⟩:=ak;exact hf v u s2 x y H2 I2 r1 r2 q2
theorem ZuM{op:Operator}{r:R2}(ho:bf X (iI op) r)(ha:PE X a ta)(hb:PE X b tb):PE X (.BinOp a op b pos) (CQ r ta tb):=by intro pins s σ H Q I h;exact wpAny_BinOp (N5 ha hb I h λv u s2 x y H2 I2 rx ry q=>ho pins s2 σ H2 x y v u Q I2 rx ry q)
theorem ZvP{op:UnaryOp}{r:V->Hp->VK->Prop}(ho:rR X (Gq op) r)(ha:PE X a ta):PE X (.UnaryOp op a pos) (WX r ta):=by intro pins s σ H Q I h;exact UnaryOp_ (a_ (ha pins s σ H _ I h) λv s1 ⟨x,H1,I1,r1,q1⟩=>ho pins s1 σ H1 x v Q I1 r1 q1)
theorem Ho{C:Int->Int->Prop}{g:Int->Int->Int}(rule:∀(i j:Int) (t u:j9) (s:Yh) (Q:Yg->Yh->Prop) (E:Yg->Yh->Prop),C i j->Q (.int (g i j) s.toks) {s with toks:=s.toks+1}->aA (aN X.prog X.w) X.A (f (.int i t) (.int j u)) Q E s):
  bf X f (rI C λi j=>.int (g i j)):=by
 intro pins s σ H x y v u Q I rx ry h;obtain⟨i,j,rfl,rfl,hc,q⟩:=h;obtain⟨t,rfl⟩:=rx;obtain⟨t',rfl⟩:=ry;exact rule i j t t' s _ _ hc ⟨.int (g i j),H,I.tok _,⟨_,rfl⟩,q⟩
theorem WY{g:Int->Int->Int}(rule:∀(i j:Int) (t u:j9) (s:Yh) (Q:Yg->Yh->Prop) (E:Yg->Yh->Prop),Q (.int (g i j) s.toks) {s with toks:=s.toks+1}->aA (aN X.prog X.w) X.A (f (.int i t) (.int j u)) Q E s):
  bf X f (ut λi j=>.int (g i j)):=by
 intro pins s σ H x y v u Q I rx ry h;obtain⟨i,j,rfl,rfl,q⟩:=h;obtain⟨t,rfl⟩:=rx;obtain⟨t',rfl⟩:=ry;exact rule i j t t' s _ _ ⟨.int (g i j),H,I.tok _,⟨_,rfl⟩,q⟩
theorem Hq{g:Int->Int->Bool}(rule:∀(i j:Int) (t u:j9) (s:Yh) (Q:Yg->Yh->Prop) (E:Yg->Yh->Prop),Q (.bool (g i j)) s->aA (aN X.prog X.w) X.A (f (.int i t) (.int j u)) Q E s):
  bf X f (ut λi j=>.bl (g i j)):=by
 intro pins s σ H x y v u Q I rx ry h;obtain⟨i,j,rfl,rfl,q⟩:=h;obtain⟨t,rfl⟩:=rx;obtain⟨t',rfl⟩:=ry;exact rule i j t t' s _ _ ⟨.bl (g i j),H,I,rfl,q⟩
def ZwE(i j:Int):Prop:=0<j/\j<1073741824
def ZwK(i j:Int):Prop:=0<=j/\j<=1000000/\i.natAbs<2^64
def N6(i j:Int):Prop:=(-(2^64)<i/\i<2^64)\/(-(2^64)<j/\j<2^64)
theorem N6.ok{i j:Int}(h:N6 i j):IntMulOk i j:=by
 rcases h with⟨h1,h2⟩|⟨h1,h2⟩
 .exact .of_left (intBits_le_64 h1 h2)
 .exact .of_right (intBits_le_64 h1 h2)
theorem ZtT:bf X (iI .Add) (ut λi j=>.int (i+j)):=WY λ_ _ _ _ _ _ _ q=>add_int q
theorem Ztc:bf X (iI .Sub) (ut λi j=>.int (i-j)):=WY λ_ _ _ _ _ _ _ q=>sub_int q
theorem Zs7:bf X (iI .Mult) (rI N6 λi j=>.int (i*j)):=Ho λ_ _ _ _ _ _ _ hc q=>mul_int q hc.ok
theorem Zsr:bf X (iI .FloorDiv) (rI ZwE λi j=>.int (i / j)):=Ho λi j _ _ _ _ _ hc q=>by have h1:(0:Int)<j:=hc.1;have h2:j<1073741824:=hc.2;exact floordiv_int (by exactλz=>iN [] [_] 2 26014245025 T1 z h1) (by rw[Int.fdiv_eq_ediv_of_nonneg i (by exact Ca h1)];exact q) (.inl (PyProof.noPylong_small (by omega)))
theorem Ztj:bf X (iI .Mod) (rI (λ_ j=>0<j) λi j=>.int (i % j)):=Ho λi j _ _ _ _ _ hc q=>by have h1:(0:Int)<j:=hc;exact mod_int' (by exactλz=>iN [] [_] 2 26014245025 T1 z h1) (by rw[Int.fmod_eq_emod_of_nonneg i (by exact Ca h1)];exact q)
theorem Zuh:bf X (iI .Pow) (rI ZwK λi j=>.int (i^j.toNat)):=Ho λ_ _ _ _ _ _ _ hc q=>pow_int_small hc.1 hc.2.1 hc.2.2 q
theorem unI{f:Yg->pZ Yg}{g:Int->Int}(rule:∀(i:Int) (t:j9) (s:Yh) (Q:Yg->Yh->Prop) (E:Yg->Yh->Prop),Q (.int (g i) s.toks) {s with toks:=s.toks+1}->aA (aN X.prog X.w) X.A (f (.int i t)) Q E s):
  rR X f (rU λi=>.int (g i)):=by
 intro pins s σ H x v Q I rx h;obtain⟨i,rfl,q⟩:=h;obtain⟨t,rfl⟩:=rx;exact rule i t s _ _ ⟨.int (g i),H,I.tok _,⟨_,rfl⟩,q⟩
theorem ZtD:rR X (Gq .USub) (rU λi=>.int (-i)):=unI λ_ _ _ _ _ q=>neg_int q
end
theorem N7{i j:aj}:decide (V.str i=V.str j)=(i==j):=by rw[Ml];simp
section
variable {X:Cx} {a b c:Expr} {ta tb tc:TE} {pos:bQ}
theorem N8{pins:List (Yz×aV)}{σ:St}{H:Hp}{s:Yh}{Q:VK}{k k':Bool}(I:Inv X pins σ H s)(q:Q (.bl k) H)(e:k=k'):EP X pins σ Q (.bool k') s:=by subst e;exact⟨.bl k,H,I,rfl,q⟩
theorem ZvQ:bf X (gG .Lt) (ut λi j=>.bl (decide (i<j))):=Hq λ_ _ _ _ _ _ _ q=>lt_int q
theorem ZuO:bf X (gG .LtE) (ut λi j=>.bl (decide (i<=j))):=Hq λ_ _ _ _ _ _ _ q=>le_int q
theorem Zvn:bf X (gG .Gt) (ut λi j=>.bl (decide (j<i))):=Hq λ_ _ _ _ _ _ _ q=>gt_int q
theorem Zvx:bf X (gG .GtE) (ut λi j=>.bl (decide (j<=i))):=Hq λ_ _ _ _ _ _ _ q=>ge_int q
theorem ZoP:bf X (gG .In) (λx y H Q=>∃i j,x= .str i/\y= .str j/\Q (.bl (!(Builtin.Str.occurrences j i 0 j.length 1).isEmpty)) H):=by intro pins s σ H x y v u Q I rx ry h;obtain⟨i,j,rfl,rfl,q⟩:=h;obtain⟨t,rfl⟩:=rx;obtain⟨t',rfl⟩:=ry;exact in_str (N8 I q rfl)
theorem Zs0:bf X (gG .Is) (λx y H Q=>y= .non/\Q (.bl (decide (x= .non))) H):=by
 intro pins s σ H x y v u Q I rx ry h;obtain⟨rfl,q⟩:=h;cases ry;refine is_none_gen (N8 I q ?_);cases x<;>first
  |(cases rx;rfl)
  |(obtain⟨t,rfl⟩:=rx;rfl)
theorem ZrQ:bf X (gG .IsNot) (λx y H Q=>y= .non/\Q (.bl (!decide (x= .non))) H):=by
 intro pins s σ H x y v u Q I rx ry h;obtain⟨rfl,q⟩:=h;cases ry;refine isnot_none_gen (N8 I q ?_);cases x<;>first
  |(cases rx;rfl)
  |(obtain⟨t,rfl⟩:=rx;rfl)
theorem bf.or{r r':R2}(h:bf X f r)(h':bf X f r'):bf X f (λx y H Q=>r x y H Q\/r' x y H Q):=by
 intro pins s σ H x y v u Q I rx ry q;rcases q with q|q
 .exact h pins s σ H x y v u Q I rx ry q
 .exact h' pins s σ H x y v u Q I rx ry q
theorem Zsg{op:CmpOp}{r:R2}(ho:bf X (gG op) r)(ha:PE X a ta)(hb:PE X b tb)(hm:Gh op b=false):PE X (.Compare a [op] [b] pos) (CQ r ta tb):=by intro pins s σ H Q I h;exact wpAny_Compare1 (N5 ha hb I h λv u s2 x y H2 I2 rx ry q=>ho pins s2 σ H2 x y v u Q I2 rx ry q) hm
def Zvq(t:TE):TT:=λσ H Q=>t σ H λx H'=>∃k,x= .bl k/\Q k H'
theorem ZrO{op:CmpOp}{r:R2}(ho:bf X (gG op) r)(ha:PE X a ta)(hb:PE X b tb)(hm:Gh op b=false):PT X (.Compare a [op] [b] pos) (Zvq (CQ r ta tb)):=by intro pins s σ H Q I h;refine wpAny_isTrue_Compare1 (a_ (ha pins s σ H _ I h) λv s1 ⟨x,H1,I1,r1,q1⟩=>a_ (hb pins s1 σ H1 _ I1 q1) λu s2 ⟨y,H2,I2,r2,q2⟩=>a_ (ho pins s2 σ H2 x y v u _ I2 r1 r2 q2) λc s3 ⟨z,H3,I3,r3,k,e,q3⟩=>?_) hm;subst e;cases r3;exact Lp ⟨H3,I3,q3⟩
theorem CV:(bN:Nat)<2^63:=by rw[j7];decide
theorem Znf:bf X (iI .Add) (λx y H Q=>∃i j,x= .str i/\y= .str j/\i.length+j.length<=bN/\Q (.str (i++j)) H):=by intro pins s σ H x y v u Q I rx ry h;obtain⟨i,j,rfl,rfl,hz,q⟩:=h;obtain⟨t,rfl⟩:=rx;obtain⟨t',rfl⟩:=ry;exact add_str (λt' tk=>⟨.str (i++j),H,I.tok _,⟨_,rfl⟩,q⟩) hz
theorem vals1{x:V}{us:List Yg}(r:Vals [x] us):∃u,us=[u]/\RelV x u:=by
 cases r with
 |cons r1 r2=>cases r2;exact⟨_,rfl,r1⟩
theorem Zo5:fJ X (.type "int") (λxs H Q=>(∃i,xs=[.int i]/\Q (.int i) H)\/∃k,xs=[.bl k]/\Q (.int (if k then 1 else 0)) H):=by
 intro pins s σ H xs us Q I r h;rcases h with⟨i,rfl,q⟩|⟨k,rfl,q⟩
 .obtain⟨u,rfl,t,rfl⟩:=vals1 r;exact call_int_int ⟨.int i,H,I,⟨_,rfl⟩,q⟩
 .obtain⟨u,rfl,r1⟩:=vals1 r;cases r1;exact call_int_bool ⟨.int (if k then 1 else 0),H,I.tok _,⟨_,rfl⟩,q⟩
def ZwG(K:Yb)(x:V)(H:Hp)(n:Nat):Prop:=
 match x with
 | .str y=>y.length<=bN/\n=y.length|.Cy y=>y.size<=bN/\n=y.size|.ref p=>(∃xs,cL K H p xs/\n=xs.length)\/∃xs,cZ K H p xs/\n=xs.length|_=>False
theorem ZqW:fJ X (.builtin "len") (λxs H Q=>∃x n,xs=[x]/\ZwG X.K x H n/\Q (.int n) H):=by
 intro pins s σ H xs us Q I r h;obtain⟨x,n,rfl,e,q⟩:=h;obtain⟨u,rfl,rx⟩:=vals1 r;have hl:=CV;have hs:bN=16777216:=j7;cases x with
 |str y=>obtain⟨t,rfl⟩:=rx;obtain⟨hy,e'⟩:y.length<=bN/\n=y.length:=e;subst e';exact len_str (by omega) ⟨.int _,H,I.tok _,⟨_,rfl⟩,q⟩|Cy y=>obtain⟨t,rfl⟩:=rx;obtain⟨hy,e'⟩:y.size<=bN/\n=y.size:=e;subst e';exact PySem.W.len_bytes (by omega) ⟨.int _,H,I.tok _,⟨_,rfl⟩,q⟩|ref p=>
  cases rx
  have e':(∃xs,cL X.K H p xs/\n=xs.length)\/∃xs,cZ X.K H p xs/\n=xs.length:=e;rcases e' with⟨xs,hx,e'⟩|⟨xs,hx,e'⟩
  .subst e';obtain⟨its,r',pl,hz⟩:=I.list hx;have hlen:=r'.length;exact Calls.call_len_list pl.isList (by simp only[Yl];omega) ⟨.int xs.length,H,I.tok _,⟨_,by simp only[Yl];rw[hlen]⟩,q⟩
  .subst e';obtain⟨its,r',pl,hz⟩:=I.tuple hx;have hlen:=r'.length;exact len_tuple pl (by simp only[Yl];omega) ⟨.int xs.length,H,I.tok _,⟨_,by simp only[Yl];rw[hlen]⟩,q⟩
 |_=>exact(show False from e).elim
end
end L2
namespace L2
open PySem PySem.Spec PyProof.Rows
theorem nH.some_of{v:V}{o:Option Yg}(r:nH (Ya v) o):∃u,o=Ya u/\RelV v u:=by
 cases o with
 |none=>exact(show False from r).elim|some u=>exact⟨u,rfl,r⟩
end L2
namespace L2
open PySem PySem.Spec PyProof.Rows
structure gJ(k:Nat)(A:cG):Prop where
 hd:A.handled=Ye
 dp:A.depth+3*k+5<recursionLimit
 un:A.units+16*k+200<fX
variable{A:cG}
theorem gJ.mono{j k:Nat}(r:gJ k A)(h:j<=k):gJ j A:=⟨r.hd,by have:=r.dp;exact lD 2 0x251b303d0cc11303251b103d0cc11 T1 this h,by have:=r.un;omega⟩
theorem gJ.deeper{k:Nat}(r:gJ (k+1) A)(env:gH):gJ k (A.deeper env):=⟨r.hd,by have:=r.dp;show A.depth+1+3*k+5<_;exact lC 1 0x251b103da0ccc1251ba1c03d0cc11 T1 this,by have:=r.un;show A.units+3+16*k+200<_;exact lC 1 0x2c82b110d31b0ccc12c82ba1c10d0cc11 T1 this⟩
theorem gJ.in1{k:Nat}(r:gJ (k+1) A):gJ k A.in1:=⟨r.hd,by have:=r.dp;show A.depth+3*k+5<_;exact lC 1 0x251b103d0cc1251ba1c03d0cc11 T1 this,by have:=r.un;show A.units+1+16*k+200<_;exact lC 1 0x2c82b110da0ccc12c82ba1c10d0cc11 T1 this⟩
theorem gJ.depth{k:Nat}(r:gJ k A):A.depth<recursionLimit:=by have:=r.dp;exact lC 1 0x201251b103d0cc11 T1 this
theorem gJ.units{k:Nat}(r:gJ k A):A.units+64<fX:=by have:=r.un;exact lC 1 0x2402b0c12c82b110d0cc11 T1 this
def ZwI:TA:=λ_ H Q=>Q [] H
def Zvf(ta:TE)(tr:TA):TA:=λσ H Q=>ta σ H λx H1=>tr σ H1 λxs H2=>Q (x::xs) H2
section
variable {X:Cx} {e:Expr} {es:List Expr} {te:TE} {t:TA} {pos:bQ}
theorem ZtU:PA X [] ZwI:=λ_ _ _ _ H Q I h=>Vz ⟨[],H,I,.nil,h⟩
theorem Zr1(ha:PE X e te)(hr:PA X es t)(hs:cF (e::es) X.env=(false,bU e X.env)::cF es X.env:=by rfl):PA X (e::es) (Zvf te t):=by intro pos pins s σ H Q I h;rw[hs];show aA _ _ (spliced ((false,bU e X.env)::jq pos (cF es X.env))) _ _ s;refine Nf (a_ (ha pins s σ H _ I h) λu s1 ak=>?_);obtain⟨x,H1,I1,r1,q1⟩:=ak;exact a_ (hr pos pins s1 σ H1 _ I1 q1) λus s2 ⟨xs,H2,I2,r2,q2⟩=>⟨x::xs,H2,I2,.cons r1 r2,q2⟩
def ZwS(t:TA):TE:=λσ H Q=>t σ H λxs H1=>xs.length<=bN/\∀p,H1 p=Ye->Q (.ref p) (upd H1 p (.tup xs))
def Zwv(t:TA):TE:=λσ H Q=>t σ H λxs H1=>xs.length<=bN/\∀p,H1 p=Ye->Q (.ref p) (upd H1 p (.lst xs))
theorem Ztm{x1}(h:PA X es t):PE X (.Tuple es x1 pos) (ZwS t):=by intro pins s σ H Q I hq;refine wpAny_Tuple_spliced (a_ (h pos pins s σ H _ I hq) λus s1 ⟨xs,H1,I1,r,z,q⟩=>⟨by rw[←r.length];exact z,?_⟩);have hf:H1 s1.heap.objs.size=Ye:=I1.hok.fresh (Yk _);refine⟨.ref s1.heap.objs.size,upd H1 s1.heap.objs.size (.tup xs),I1.laid (t':=s1.toks) (λb u e=>Yo _ e) (Yk _) ?_,rfl,q _ hf⟩;exact⟨z,us,r,⟨_,jg _ rfl,⟨rfl,rfl⟩,_,rfl⟩⟩
theorem Zup(h:PA X es t):PE X (.List es pos) (Zwv t):=by intro pins s σ H Q I hq;refine wpAny_List_spliced (a_ (h pos pins s σ H _ I hq) λus s1 ⟨xs,H1,I1,r,z,q⟩=>⟨by rw[←r.length];exact z,?_⟩);have hf:H1 s1.heap.objs.size=Ye:=I1.hok.fresh (Yk _);refine⟨.ref s1.heap.objs.size,upd H1 s1.heap.objs.size (.lst xs),I1.laid (t':=s1.toks) (λb u e=>Yo _ e) (Yk _) ?_,rfl,q _ hf⟩;exact⟨z,us,0,r,jg _ rfl⟩
end
noncomputable abbrev Sp:=List V->Hp->VK->XK->Prop
noncomputable abbrev qm:=List gH->Hp->Yh->XK->Yg->Yh->Prop
structure v7(P:cj)(w:bO)(K:Yb)(mg:aj->Option Yg)(base:aY)(A:cG)(outer:List gH)(s:Yh)(H:Hp):Prop where
 frames:A.frames=Ya outer
 mod:Mod K mg base
 bs:∀b o,base.get? b=Ya o->s.heap.get? b=Ya o/\H b=Ye
 rP:base.objs.size<=s.heap.objs.size
 ni:s.heap.FunFrames base outer
 v4:∀b∈frs outer,H b=Ye
 hok:eY P w H s.heap
 bare:rJ s.gens
def CE(outer:List gH)(P:cj)(w:bO)(H:Hp)(s:Yh)(Q:VK)(u:Yg)(s':Yh):Prop:=∃v H',s'.os=s.os/\rJ s'.gens/\Un (frs outer) [] H H' s.heap s'.heap/\eY P w H' s'.heap/\RelV v u/\Q v H'
def CR(CX:qm)(outer:List gH)(P:cj)(w:bO)(H:Hp)(s:Yh)(Q:VK)(E:XK)(r:BW)(s':Yh):Prop:=
 match r with
 | .ok (.ret u)=>CE outer P w H s Q u s'|.ok _=>False|.error e=>CX outer H s E e s'
structure o9(P:cj)(w:bO)(K:Yb)(mg:aj->Option Yg)(base:aY)(CX:qm)(k:Nat)(f:Yz)(fd:mq)(ps:List aj)(sp:Sp):Prop where
 len:∀vs H Q E,sp vs H Q E->vs.length=ps.length
 run:∀(A:cG) (outer:List gH) (s:Yh) (H:Hp) (args:Args) (us:List Yg) (vs:List V) (Q:VK) (E:XK),gJ k A->v7 P w K mg base A outer s H->yj s fd args (ps.zip us)->Vals vs us->sp vs H Q E ->
  rF (aN P w) A (.call (.ref f) args) (CR CX outer P w H s Q E) s
variable{mg:aj->Option Yg}
theorem v7.in1{P:cj}{w:bO}{K:Yb}{base:aY}{outer:List gH}{s:Yh}{H:Hp}(e:v7 P w K mg base A outer s H):
  v7 P w K mg base A.in1 outer s H:=⟨e.frames,e.mod,e.bs,e.rP,e.ni,e.v4,e.hok,e.bare⟩
section
variable {X:Cx} {pins:List (Yz×aV)} {σ:St} {H:Hp} {s s':Yh}
theorem Inv.env0(I:Inv X pins σ H s):v7 X.prog X.w X.K X.mg X.base X.A X.stack s H:=⟨I.ok.frames,I.ok.mod,I.bs,Y4 I.ok.rP I.sz,I.stack,I.R4,I.hok,I.bare⟩
theorem Inv.after{Q:VK}{u:Yg}(I:Inv X pins σ H s)(h:CE X.stack X.prog X.w H s Q u s'):EP X pins σ Q u s':=by obtain⟨v,H',os,bare,un,hok,r,q⟩:=h;obtain⟨hh,g,d,t,os'⟩:=s';obtain rfl:os'=s.os:=os;exact⟨v,H',I.call (h':=hh) (g':=g) (d':=d) (t':=t) (ch:=[]) un hok bare (λb z=>absurd z (by simp)),r,q⟩
end
def Zva(sp:Sp)(uv:List V)(E:XK)(t:TA):TE:=λσ H Q=>t σ H λvs H1=>sp (vs++uv) H1 Q E
def Binds(K:Yb)(fd:mq)(ps:List aj)(ds:List Yg):Prop:=∀(s:Yh) (us:List Yg),K.In s.heap->(us++ds).length=ps.length->yj s fd ⟨us,[]⟩ (ps.zip (us++ds))
variable{ps:List aj}
theorem Binds.all{K:Yb}{fd:mq}(h:∀us:List Yg,us.length=ps.length->bindArgs fd ⟨us,[]⟩=pure (ps.zip us)):Binds K fd ps []:=λs us _ hl=>by rw[Yr]at hl ⊢;exact .of_eq (h us hl)
def N_(CX:qm)(X:Cx)(E:XK):Prop:=∀(pins:List (Yz×aV)) (σ:St) (H:Hp) (s:Yh) (e:Yg) (s':Yh),Inv X pins σ H s->CX X.stack H s E e s'->X.xe e s'
section
variable {X:Cx} {CX:qm} {k:Nat} {f C:Yz} {fd:mq} {ps:List aj} {sp:Sp} {uv:List V} {ds:List Yg} {E:XK} {x m:aj} {p pos apos:bQ} {e o:Expr} {es:List Expr} {ta:TE} {t:TA}
theorem Zuz{pins:List (Yz×aV)}{σ:St}{H:Hp}{s:Yh}{Q:VK}{us:List Yg}{vs:List V}(F:o9 X.prog X.w X.K X.mg X.base CX k f fd ps sp)(hr:gJ k X.A)(hb:Binds X.K fd ps ds)(hd:Vals uv ds)(hx:N_ CX X E)(I:Inv X pins σ H s)(r:Vals vs us)(h:sp (vs++uv) H Q E):aA (aN X.prog X.w) X.A (call (.ref f) us) (EP X pins σ Q) X.xe s:=by
 have r2:Vals (vs++uv) (us++ds):=r.append hd;have hl:(us++ds).length=ps.length:=by rw[←r2.length];exact F.len _ _ _ _ h
 refine wpAny_call (Lw (F.run X.A X.stack s H ⟨us,[]⟩ (us++ds) (vs++uv) Q E hr I.env0 (hb s us I.v5 hl) r2 h) λr s' hq=>?_);cases r with
 |error e=>exact hx pins σ H s e s' I hq|ok fl=>
  cases fl with
  |ret u=>exact I.after hq|next=>exact jL hq|brk=>exact jL hq|cont=>exact jL hq
theorem ZrH(F:o9 X.prog X.w X.K X.mg X.base CX k f fd ps sp)(hr:gJ k X.A)(hg:Gl X x)(hm:X.mg x=Ya (.ref f))(hk:Bm X.K (.ref f)=true)(hb:Binds X.K fd ps ds)(hd:Vals uv ds)(hx:N_ CX X E)(ha:PA X (e::es) t)(hdb:(x==("__debug__":aj))=false:=by decide)(he:cF (e::es) X.env=(false,bU e X.env)::cF es X.env:=by rfl)(hpl:(jq pos (cF es X.env)).any (·.1)=false:=by rfl):
  PE X (.Call (.Name x p) (e::es) [] pos) (Zva sp uv E t):=by
 intro pins s σ H Q I h;refine Lk (Zsv I hg hm ?_ hdb);refine PySem.W.callWith_K (h₀:=X.base) I.ok.mod.G7 hk (a_ (ha pos pins s σ H _ I h) λus s1 ⟨vs,H1,I1,r,q⟩=>⟨I1.v5,?_⟩) he hpl;exact Zuz F hr hb hd hx I1 r q
end
structure dD(N P:List aj)(sc:Scope):Prop where
 kind:sc.kind= .function
 co:sc.isCoroutine=false
 gen:sc.isGenerator=false
 nd:N.Nodup
 pre:N.take P.length=P
 W0:∀x∈P,sc.names.lookup x=Ya .local\/sc.names.lookup x=Ya .cell
 AaQ:∀y∈sc.names,y.2≠ .free
theorem W2{lw:aj->Option NameKind}{x:aj}:∀{binds:List (aj×Yg)} {m:aj->Option Yg},(∀v,(x,v)∉binds)->ug lw binds m x=m x
 |[],_,_=>rfl|(n,v)::r,m,h=>by
  unfold ug;rw[W2 λw hw=>h w (Yu _ hw)];split
  .have:x≠n:=by rintro rfl;exact h v Ym
   simp[this]
  .rfl
theorem W3{lw:aj->Option NameKind}{x:aj}:∀{binds:List (aj×Yg)} {m:aj->Option Yg},(∀v,(x,v)∉binds)->uh lw binds m x=m x
 |[],_,_=>rfl|(n,v)::r,m,h=>by
  unfold uh;rw[W3 λw hw=>h w (Yu _ hw)];split
  .rfl
  .have:x≠n:=by rintro rfl;exact h v Ym
   simp[this]
theorem W4{lw:aj->Option NameKind}{x:aj}{v:Yg}:∀{P:List aj} {vs:List Yg} {i:Nat} {m:aj->Option Yg},P.Nodup->P[i]?=Ya x->vs[i]?=Ya v->lw x=Ya .local ->
  ug lw (P.zip vs) m x=Ya v
 |[],_,_,_,_,h,_,_=>by simp at h|_::_,[],_,_,_,_,h,_=>by simp at h|p::P,w::vs,0,m,nd,h1,h2,hk=>by simp at h1 h2;subst h1;subst h2;show ug lw ((p,w)::P.zip vs) m p=_;unfold ug;rw[W2 λv hv=>(rD.mp nd).1 (Ld hv).1,if_pos hk];simp|p::P,w::vs,i+1,m,nd,h1,h2,hk=>by show ug lw ((p,w)::P.zip vs) m x=_;unfold ug;exact W4 (i:=i) (rD.mp nd).2 (by simpa using h1) (by simpa using h2) hk
theorem W5{lw:aj->Option NameKind}{x:aj}{v:Yg}:∀{P:List aj} {vs:List Yg} {i:Nat} {m:aj->Option Yg},P.Nodup->P[i]?=Ya x->vs[i]?=Ya v->lw x≠Ya .local ->
  uh lw (P.zip vs) m x=Ya v
 |[],_,_,_,_,h,_,_=>by simp at h|_::_,[],_,_,_,_,h,_=>by simp at h|p::P,w::vs,0,m,nd,h1,h2,hk=>by simp at h1 h2;subst h1;subst h2;show uh lw ((p,w)::P.zip vs) m p=_;unfold uh;rw[W3 λv hv=>(rD.mp nd).1 (Ld hv).1,if_neg hk];simp|p::P,w::vs,i+1,m,nd,h1,h2,hk=>by show uh lw ((p,w)::P.zip vs) m x=_;unfold uh;exact W5 (i:=i) (rD.mp nd).2 (by simpa using h1) (by simpa using h2) hk
noncomputable def start(N:List aj)(vs:List V):St:=vs.map Ya++Yj (N.length-vs.length) Ye
noncomputable def uw(CX:qm)(P:cj)(w:bO)(K:Yb)(mg:aj->Option Yg)(base:aY)(N:List aj)(qual:aj)(scope:Scope)(f:Yz)(cd:Yg)(A:cG)(outer:List gH)(s:Yh)(H:Hp)(E:XK):Cx where
 prog:=P
 w:=w
 K:=K
 mg:=mg
 base:=base
 A:=A.deeper (o5 qual scope s.heap.objs.size f cd)
 N:=N
 s₀:=s
 H₀:=H
 env:=o5 qual scope s.heap.objs.size f cd
 outer:=outer
 stack:=o5 qual scope s.heap.objs.size f cd::outer
 ex:=[]
 calm:=true
 fn:=λ_=>true
 pn:=[]
 xe:=λe s'=>aA (aN P w) (A.deeper (o5 qual scope s.heap.objs.size f cd)) (leaving (o5 qual scope s.heap.objs.size f cd) e) (λ_ s''=>CX outer H s E e s'') (λe' s''=>CX outer H s E e' s'') s'
theorem W6{sc:Scope}{n:Nat}{x:aj}(h:sc.names.lookup x=Ya .cell):∃c,(Mg n sc.names []).lookup x=Ya c:=by have q:=Tz sc.names n [] (.inl h);exact Kz.mp q
theorem ZoY{CX:qm}{P:cj}{w:bO}{K:Yb}{base:aY}{N:List aj}{qual:aj}{scope:Scope}{f:Yz}{cd:Yg}{outer:List gH}{s s1:Yh}{H:Hp}{E:XK}{us:List Yg}{vs:List V}(S:dD N ps scope)(hd:A.handled=Ye)(e0:v7 P w K mg base A outer s H)(hl:vs.length=ps.length)(r:Vals vs us)(x:InCallC s s.heap.objs.size (ug (o5 qual scope s.heap.objs.size f cd).kindOf (ps.zip us) λ_=>Ye) (Mg (s.heap.objs.size+1) scope.names []) (uh (o5 qual scope s.heap.objs.size f cd).kindOf (ps.zip us) λ_=>Ye) s1):
  Inv (uw CX P w K mg base N qual scope f cd A outer s H E) [] (start N vs) H s1:=by
 have hpl:ps.length<=N.length:=by have:=congrArg vB S.pre;rw[xY]at this;omega
 obtain⟨h1,tk,rfl,hk⟩:=x.done;have CZ:∀b:Yz,b∉(uw CX P w K mg base N qual scope f cd A outer s H E).ex:=λb z=>absurd (show b∈([]:List Yz)from z) (by simp);refine⟨⟨e0.mod,S.kind,rfl,rfl,Yk _,λy z c h1 h2=>?_,λy hy=>?_,λy c _ h=>?_,λ_=>hd,Around.frames_deeper e0.frames,.inr ⟨rfl,rfl⟩,λb z=>absurd z (CZ b),e0.bs,e0.rP,λb _ _=>CZ b,λb z=>absurd z (CZ b),e0.ni,e0.v4⟩,
  rfl,e0.bare,Un.kept hk,⟨_,x.toInCall.ns,λi y v h1 h2 h3=>?_⟩,λy c h=>⟨_,x.cell y c h⟩,e0.hok.fresh (Yk _),λy c h=>?_,λp hp=>absurd (show p∈([]:List (Yz×aV))from hp) (by simp),e0.hok.kept hk,?_⟩
 .exact name_of_addr x.apart (rE h1) (rE h2)
 .have hy:scope.names.lookup y=Ya .cell\/scope.names.lookup y=Ya .free:=hy;rcases hy with hy|hy
  .exact W6 hy
  .exact absurd rfl (S.AaQ _ (rE hy))
 .exact tW (x.above y c (rE h))
 .have hi:i<vs.length:=by
   unfold start at h2;by_cases hi:i<vs.length
   .exact hi
   .rw[tX (by simpa using hi)]at h2;rw[FP]at h2;split at h2<;>cases h2
  have ha:vs[i]?=Ya v:=by
   unfold start at h2;rw[kZ (by simpa using hi),Yx]at h2;cases e:vs[i]? with
   |none=>rw[e]at h2;cases h2|some a=>rw[e]at h2;cases h2;rfl
  obtain⟨u,hu,rv⟩:=r.get ha;have hp:ps[i]?=Ya y:=by rw[←S.pre,FJ (by exact lC 2 2203874037777 T1 hi hl)];exact h1
  have W7:ps.Nodup:=by rw[←S.pre];exact S.nd.sublist (Ul _ _)
  refine⟨u,rv,?_⟩;rcases S.W0 y (jo hp)with k|k
  .exact .inl ⟨k,W4 W7 hp hu k⟩
  .obtain⟨c,e⟩:=W6 (n:=s.heap.objs.size+1) k;refine .inr ⟨.inl k,c,e,?_⟩;have q:=x.cell y c e;rw[W5 W7 hp hu (by show scope.names.lookup y≠_;rw[k];decide)]at q;exact q
 .exact e0.hok.fresh (tW (x.above y c (rE h)))
 .unfold start;show _=N.length;rw[Y5,Yn,Ud];exact Yt (lC 1 2206541614113 T1 (Yc (lC 2 1236986302465 T1 hpl hl))) (lC 1 1288492400641 T1 (bZ _ _))
theorem ZuQ{CX:qm}{P:cj}{w:bO}{K:Yb}{base:aY}{k:Nat}{f:Yz}{name qual:aj}{params:Arguments}{body:List Yd1}{scope:Scope}{dV kV doc pm cdv ct oc:Yg}{an od:Option Yz}{osl:Array (Option Yg)}{N:List aj}{sp:Sp}(lk:K.lookup f=Ya ⟨oc,od,.func (tO name qual params body scope dV kV doc pm an cdv ct),osl⟩)(hcd:Fv K cdv qual=true)(S:dD N ps scope)(len:∀vs H Q E,sp vs H Q E->vs.length=ps.length)(hbody:∀(A:cG) (outer:List gH) (s:Yh) (H:Hp) (vs:List V) (Q:VK) (E:XK),gJ k (A.deeper (o5 qual scope s.heap.objs.size f cdv))->sp vs H Q E ->
   ∃t,jt (uw CX P w K mg base N qual scope f cdv A outer s H E) body t/\t {nx:=λ_ H'=>Q .non H',rt:=Q} (start N vs) H):
  o9 P w K mg base CX (k+1) f (tO name qual params body scope dV kV doc pm an cdv ct) ps sp:=by
 refine⟨len,λA outer s H args us vs Q E hr e0 hb r hsp=>?_⟩;have hl:=len _ _ _ _ hsp;have KX:K.In s.heap:=e0.mod.G7.keeps λb o e=>(e0.bs b o e).1;have lim:s.heap.NoLimit:=e0.mod.nolimit.keeps λb o e=>(e0.bs b o e).1;have hkind:∀y∈ps.zip us,scope.names.lookup y.1=Ya .local\/(scope.names.lookup y.1=Ya .cell/\((Mg (s.heap.objs.size+1) scope.names []).lookup y.1).isSome=true):=λ⟨n,v⟩ hy=>by
  rcases S.W0 n (Ld hy).1 with q|q
  .exact .inl q
  .exact .inr ⟨q,Tz _ _ _ (.inl q)⟩
 refine codeAny_call_function hr.depth (KX _ _ lk) rfl S.co S.gen rfl (PySem.W.codeRec_of KX hcd) (hb _ _ _ _ ?_);refine wpAny_newFunctionEnv_cells S.kind hkind λenv he s1 x=>?_;subst he;refine⟨lim.keeps x.toInCall.keep,codeAny_func ?_⟩;obtain⟨t,ht,hq⟩:=hbody A outer s H vs Q E (hr.deeper _) hsp;have I:Inv (uw CX P w K mg base N qual scope f cdv A outer s H E) [] (start N vs) H s1:=ZoY S hr.hd e0 hl r x;refine j8 (ht [] s1 (start N vs) H _ I hq) (λfl s' hs=>?_) λe s' hs=>hs;have fin:∀{σ':St} {H':Hp} {v:V} {u:Yg},Inv (uw CX P w K mg base N qual scope f cdv A outer s H E) [] σ' H' s'->RelV v u->Q v H'->CE outer P w H s Q u s':=λ{σ' H' v u} J rv q=>⟨v,H',J.os,J.bare,J.base,J.hok,rv,q⟩;cases fl with
 |ret u=>obtain⟨v,σ',H',J,rv,q⟩:=hs;exact fin J rv q|next=>obtain⟨σ',H',J,q⟩:=hs;exact fin (v:=V.non) (u:=Value.none) J rfl q|brk=>obtain⟨_,_,_,q⟩:=hs;exact jL q|cont=>obtain⟨_,_,_,q⟩:=hs;exact jL q
end L2
namespace L2
open PySem PySem.Spec PyProof.Rows
section
variable {X:Cx} {x:aj} {p pos:bQ} {e:Expr} {es:List Expr} {t:TA} {id T:String} {r:List V->Hp->VK->Prop}
def Oa(r:List V->Hp->VK->Prop)(t:TA):TE:=λσ H Q=>t σ H λvs H1=>r vs H1 Q
theorem Zrg(hc:fJ X (.builtin id) r)(hg:Gl X x)(hm:X.mg x=Ye)(hv:lg x=Ya (.builtin id))(ha:PA X (e::es) t)(hn:x≠ "__name__":=by decide)(hdb:(x==("__debug__":aj))=false:=by decide)(he:cF (e::es) X.env=(false,bU e X.env)::cF es X.env:=by rfl)(hpl:(jq pos (cF es X.env)).any (·.1)=false:=by rfl):PE X (.Call (.Name x p) (e::es) [] pos) (Oa r t):=by intro pins s σ H Q I h;refine Lk (Hf I hg hm hv ?_ hn hdb);exact PyProof.Rows.callWith_builtin1 (a_ (ha pos pins s σ H _ I h) λus s1 ⟨vs,H1,I1,r1,q1⟩=>hc pins s1 σ H1 vs us Q I1 r1 q1) he hpl
theorem Zpl(hc:fJ X (.type T) r)(hg:Gl X x)(hm:X.mg x=Ye)(hv:lg x=Ya (.type T))(ha:PA X (e::es) t)(hn:x≠ "__name__":=by decide)(hdb:(x==("__debug__":aj))=false:=by decide)(he:cF (e::es) X.env=(false,bU e X.env)::cF es X.env:=by rfl)(hpl:(jq pos (cF es X.env)).any (·.1)=false:=by rfl):PE X (.Call (.Name x p) (e::es) [] pos) (Oa r t):=by intro pins s σ H Q I h;refine Lk (Hf I hg hm hv ?_ hn hdb);exact Mw (a_ (ha pos pins s σ H _ I h) λus s1 ⟨vs,H1,I1,r1,q1⟩=>hc pins s1 σ H1 vs us Q I1 r1 q1) he hpl
end
end L2
namespace HT
open PySem PyProof.Rows
section
variable {prog:cj} {w:bO} {A:cG} {E:Yg->Yh->Prop} {s:Yh}
theorem AaL{t b:Yz}{vs ws:List Yg}{Q:Yg->Yh->Prop}(ht:IsTup s.heap t vs.toArray)(hb:IsTup s.heap b ws.toArray)(hv:vs≠[])(h1:ws=[]->Q (.ref t) s)(h2:ws≠[]->Q (.ref s.heap.objs.size) {s with heap:=s.heap.push {cls:=.type "tuple",data:=.seq (vs++ws).toArray}})(hsz:vs.length+ws.length<=bN):aA (aN prog w) A (iI .Add (.ref t) (.ref b)) Q E s:=by
 obtain⟨⟨cls,dd,data,sl⟩,ho,hc,n,hd⟩:=id ht;obtain⟨⟨cls2,dd2,data2,sl2⟩,ho2,hc2,n2,hd2⟩:=id hb;simp only at hc hd hc2 hd2;subst hc hd hc2 hd2;have e:vs.toArray++ws.toArray=(vs++ws).toArray:=by simp
 by_cases hw:ws=[]
 .exact Lx ⟨_,ho,rfl⟩ ⟨_,ho2,rfl⟩ Lq Ls MT MP (MN _ _)
   (tuple_addW1 t b vs.toArray ws.toArray n n2 dd dd2 sl sl2 (by simpa using hv) (by simp[hw])) ⟨ho,ho2,h1 hw⟩
 .refine Lx ⟨_,ho,rfl⟩ ⟨_,ho2,rfl⟩ Lq Ls MT MP (MN _ _)
   (tuple_addW2 t b vs.toArray ws.toArray n n2 dd dd2 sl sl2 (by simpa using hv) (by simpa using hw) (by rw[Yl,Yl];exact hsz)) ⟨ho,ho2,?_⟩
  rw[e];exact h2 hw
noncomputable def aO(n d:Nat):Option Int->Nat
 |none=>d|some v=>if v<0 then(v+(n:Int)).toNat else iJ v.toNat n
theorem Ob(n d:Nat):aO n d Ye=d:=rfl
theorem Oc(n d k:Nat):aO n d (Ya (k:Int))=iJ k n:=by show(if(k:Int)<0 then((k:Int)+(n:Int)).toNat else iJ (k:Int).toNat n)=iJ k n;rw[if_neg (vR.2 (uo _)),o4]
theorem Hr(n d:Nat)(hd:d<=n)(o:Option Int):aO n d o<=n:=by
 cases o with
 |none=>exact hd|some v=>
  show(if v<0 then(v+(n:Int)).toNat else iJ v.toNat n)<=n;by_cases hv:v<0
  .rw[if_pos hv];omega
  .rw[if_neg hv];exact tR _ _
theorem W8(v:Int)(n d:Nat):(if v<0 then max (v+(n:Int)) 0 else iJ v (n:Int))=((aO n d (Ya v):Nat):Int):=by
 show(if v<0 then max (v+(n:Int)) 0 else iJ v (n:Int))=(((if v<0 then(v+(n:Int)).toNat else iJ v.toNat n):Nat):Int);by_cases hv:v<0
 .simp only[if_pos hv];exact Wd _
 .simp only[if_neg hv];exact Wf _ _ hv
theorem Zni(lo hi:Option Int)(n:Nat):MK lo hi 1 (n:Int)=(((aO n 0 lo:Nat):Int),((aO n n hi:Nat):Int)):=by
 have h1:¬((1:Int)<0):=by decide
 unfold MK;simp only[h1,if_false];refine Np ?_ ?_
 .cases lo with
  |none=>rfl|some v=>exact W8 v n 0
 .cases hi with
  |none=>rfl|some v=>exact W8 v n n
theorem ZnE(i j:Nat):GD (i:Int) (j:Int) 1=j-i:=by
 unfold GD;have h1:(1:Int)>0:=by decide
 simp only[h1,if_true,Int.ediv_one];split <;>omega
theorem W9{v:Yg}{o:Option Int}{Q:Option Int->Yh->Prop}(p:IsPart v o)(h:Q o s):aA (aN prog w) A (Builtin.Slice.slicePartIndex v) Q E s:=by
 cases p with
 |none=>exact slicePart_none h|int i t=>exact slicePart_int h
theorem RX{sl:Yz}{vl vu:Yg}{lo hi:Option Int}{n:Nat}{Q:Int×Int×Nat->Yh->Prop}(hs:s.heap.IsSliceOf sl vl vu .none)(pl:IsPart vl lo)(pu:IsPart vu hi)(h:Q (((aO n 0 lo:Nat):Int),1,aO n n hi-aO n 0 lo) s):aA (aN prog w) A (Vq (.ref sl) (pure (n:Int))) Q E s:=by obtain⟨os,hos,hcs,hds⟩:=id hs;unfold Vq Builtin.Slice.sliceFields;refine Yf (Yf (t_ hos hds (x:=vl) rfl (Yf (t_ hos hds (x:=vu) rfl (Yf (t_ hos hds (x:=.none) rfl (Yw ?_)))))));refine Yf (slicePart_none ?_);show aA _ _ (if((1:Int)==0)=true then _ else _) _ _ s;rw[if_neg (by decide)];refine Yf (W9 pl (Yf (W9 pu (Yf (Yw ?_)))));show aA _ _ (match MK lo hi 1 (n:Int)with|(lo,hi)=>pure (lo,(1:Int),GD lo hi 1)) _ _ s;rw[Zni lo hi n];show aA _ _ (pure (((aO n 0 lo:Nat):Int),(1:Int),GD ((aO n 0 lo:Nat):Int) ((aO n n hi:Nat):Int) 1)) _ _ s;rw[ZnE];exact Yw h
theorem ZqF(xs:Array Yg)(i k:Nat):((dm k).filterMap λ(m:Nat)=>xs[((i:Int)+(m:Int)*1).toNat]?).toArray=((xs.toList.drop i).take k).toArray:=by
 have e:(λ(m:Nat)=>xs[((i:Int)+(m:Int)*1).toNat]?)=λm=>xs[i+m]?:=by
  funext m;have:((i:Int)+(m:Int)*1).toNat=i+m:=by omega
  rw[this]
 rw[e];have:=pick_run xs i k;rw[List.filterMap_map]at this;have e2:((λx=>xs[x]?) ∘ λx=>i+x)=λm=>xs[i+m]?:=rfl;rw[e2]at this;rw[this]
theorem Aaf{t sl:Yz}{items:Array Yg}{vl vu:Yg}{lo hi:Option Int}{Q:Yg->Yh->Prop}(ht:IsTup s.heap t items)(hs:s.heap.IsSliceOf sl vl vu .none)(pl:IsPart vl lo)(pu:IsPart vu hi)(hw:¬(aO items.size 0 lo=0/\aO items.size items.size hi=items.size))(h:Q (.ref s.heap.objs.size) {s with heap:=s.heap.push {cls:=.type "tuple",data:=.seq ((items.toList.drop (aO items.size 0 lo)).take (aO items.size items.size hi-aO items.size 0 lo)).toArray}})(hsz:items.size<=bN):aA (aN prog w) A (pX (.ref t) (.ref sl)) Q E s:=by
 have Fo:sizeOk (.seq ((items.toList.drop (aO items.size 0 lo)).take (aO items.size items.size hi-aO items.size 0 lo)).toArray):=by show((items.toList.drop (aO items.size 0 lo)).take (aO items.size items.size hi-aO items.size 0 lo)).toArray.size<=bN;rw[Yl,xY,FZ,Gv];exact lD 3 85606880155602945 T1 hsz (j4 _ _) (tR _ _)
 have hj:aO items.size items.size hi<=items.size:=Hr _ _ (Yk _) hi;obtain⟨os,hos,hcs,hds⟩:=id hs;have hTs:s.TypeIs (.ref sl) "slice":=⟨os,hos,hcs⟩;unfold pX
 try with_reducible refine j6 ?_
 first|refine Yf (Yw ?_)|skip
 refine Yf (UV ht.typeIs (by decide) ?_);refine Yf (Bv (name:=vU "__getitem__") ht.typeIs Gw
  (yg Gw ht.typeIs Vm ?_ (Vp _ _)))
 show aA _ _ (Vr (.ref t)>>=_) _ _ s;refine Yf (tupleItemsOf_ ht ?_);refine Yf (BL hTs ?_);rw[if_pos (by decide)];refine Yf (RX hs pl pu ?_);have hno:¬((((aO items.size 0 lo:Nat):Int)==0&&(1:Int)==1&&(aO items.size items.size hi-aO items.size 0 lo)==items.size)=true):=by intro q;rw[Y0,Y0]at q;have q1:((aO items.size 0 lo:Nat):Int)=0:=eq_of_beq q.1.1;have q2:aO items.size items.size hi-aO items.size 0 lo=items.size:=eq_of_beq q.2;exact hw ⟨by exact Yt (iN [_] [] 1 3759016097 T1 q1) (eV _),by exact Yt hj (lC 2 2268279672881 T1 q2 (j4 _ _))⟩
 show aA _ _ (if(((aO items.size 0 lo:Nat):Int)==0&&(1:Int)==1&&(aO items.size items.size hi-aO items.size 0 lo)==items.size)=true then _ else _) _ _ s;rw[if_neg hno,ZqF]
 first
  |exact Yf (m:=GJ _) (vC (Yw ⟨_,rfl,Yw h⟩) Fo)
  |exact Yf (m:=GJ _) (vC (Yf (Yw (Yw ⟨_,rfl,Yw h⟩))) Fo)
  |exact Yf (Yf (m:=GJ _) (vC (Yw (Yw ⟨_,rfl,Yw h⟩)) Fo))
  |exact Yf (Yf (m:=GJ _) (vC (Yw ⟨_,rfl,Yw h⟩) Fo))
end
end HT
namespace L2
open PySem PySem.Spec PyProof.Rows
noncomputable abbrev TO:=St->Hp->(Option Int->Hp->Prop)->Prop
def PO(X:Cx)(e:Option Expr)(t:TO):Prop:=
 ∀(pins:List (Yz×aV)) (s:Yh) (σ:St) (H:Hp) (Q:Option Int->Hp->Prop),Inv X pins σ H s->t σ H Q ->
  aA (aN X.prog X.w) X.A (evalPart e X.env) (λu s'=>∃o H',Inv X pins σ H' s'/\IsPart u o/\Q o H') X.xe s
def Zsk:TO:=λ_ H Q=>Q Ye H
def Zvc(t:TE):TO:=λσ H Q=>t σ H λx H1=>∃i,x= .int i/\Q (Ya i) H1
section
variable {X:Cx} {e:Expr} {te:TE} {lo hi:Option Expr} {tl th:TO} {pos p2:bQ}
theorem ZrU:PO X Ye Zsk:=by intro pins s σ H Q I h;rw[evalPart_none];exact Yw ⟨Ye,H,I,.none,h⟩
theorem Zr7(h:PE X e te):PO X (Ya e) (Zvc te):=by intro pins s σ H Q I hw;rw[evalPart_some];refine a_ (h pins s σ H _ I hw) λu s1 ak=>?_;obtain⟨x,H1,I1,r1,q1⟩:=ak;obtain⟨i,rfl,q⟩:=q1;obtain⟨t,rfl⟩:=r1;exact⟨Ya i,H1,I1,.int i t,q⟩
def ji(X:Cx)(r:V->Option Int->Option Int->Hp->VK->Prop):Prop:=
 ∀(pins:List (Yz×aV)) (s:Yh) (σ:St) (H:Hp) (x:V) (v vl vu:Yg) (lo hi:Option Int) (sl:Yz) (Q:VK),Inv X pins σ H s->RelV x v->s.heap.IsSliceOf sl vl vu .none->IsPart vl lo->IsPart vu hi->r x lo hi H Q ->
  ∃T id,LR (.type T) "__getitem__" =pure (Ya (.builtin id))/\s.TypeIs v T/\aA (aN X.prog X.w) X.A (pX v (.ref sl)) (EP X pins σ Q) X.xe s
theorem ji.or{r r':V->Option Int->Option Int->Hp->VK->Prop}(h:ji X r)(h':ji X r'):ji X (λx lo hi H Q=>r x lo hi H Q\/r' x lo hi H Q):=by
 intro pins s σ H x v vl vu lo hi sl Q I rx hs pl pu q;rcases q with q|q
 .exact h pins s σ H x v vl vu lo hi sl Q I rx hs pl pu q
 .exact h' pins s σ H x v vl vu lo hi sl Q I rx hs pl pu q
def tSl(r:V->Option Int->Option Int->Hp->VK->Prop)(te:TE)(tl th:TO):TE:=λσ H Q=>te σ H λx H1=>tl σ H1 λl H2=>th σ H2 λu H3=>r x l u H3 Q
theorem Zqr{r:V->Option Int->Option Int->Hp->VK->Prop}(hr:ji X r)(he:PE X e te)(hl:PO X lo tl)(hu:PO X hi th):PE X (.Subscript e (.Slice lo hi Ye p2) pos) (tSl r te tl th):=by intro pins s σ H Q I h;refine MJ (a_ (he pins s σ H _ I h) λv s1 ak=>?_);obtain⟨x,H1,I1,r1,q1⟩:=ak;refine wpAny_Slice (a_ (hl pins s1 σ H1 _ I1 q1) λvl s2 ⟨l,H2,I2,pl,q2⟩=>a_ (hu pins s2 σ H2 _ I2 q2) λvu s3 ak=>?_);obtain⟨u,H3,I3,pu,q3⟩:=ak;rw[evalPart_none];refine Yw ?_;have I4:Inv X pins σ H3 {s3 with heap:=s3.heap.push {cls:=.type "slice",data:=.fields #[vl,vu,.none]}}:=I3.kept (t':=s3.toks) λb ob q=>Yo _ q;obtain⟨T,id,hT,ht,hg⟩:=hr pins {s3 with heap:=s3.heap.push {cls:=.type "slice",data:=.fields #[vl,vu,.none]}} σ H3 x v vl vu l u s3.heap.objs.size Q I4 r1 (Heap.IsSliceOf.new ..) pl pu q3;show aA (aN X.prog X.w) X.A (Mx e (.Slice lo hi Ye p2) v (.ref s3.heap.objs.size)) (EP X pins σ Q) X.xe {s3 with heap:=s3.heap.push {cls:=.type "slice",data:=.fields #[vl,vu,.none]}};exact tail_any (ops:=[.ref s3.heap.objs.size,v]) ht hT hg (by with_unfolding_all rfl)
noncomputable def ux(xs:List V)(lo hi:Option Int):List V:=(xs.drop (HT.aO xs.length 0 lo)).take (HT.aO xs.length xs.length hi-HT.aO xs.length 0 lo)
theorem W_(xs:List V)(lo hi:Option Int):(ux xs lo hi).length<=xs.length:=by unfold ux;rw[xY,FZ];exact Y4 (tR _ _) (j4 _ _)
noncomputable def ZwW(K:Yb):V->Option Int->Option Int->Hp->VK->Prop:=λx lo hi H Q=>∃a xs,x= .ref a/\cZ K H a xs/\
 ¬(HT.aO xs.length 0 lo=0/\HT.aO xs.length xs.length hi=xs.length)/\∀p,H p=Ye->Q (.ref p) (upd H p (.tup (ux xs lo hi)))
theorem Xa:ji X (ZwW X.K):=by
 intro pins s σ H x v vl vu lo hi sl Q I rx hs pl pu h;obtain⟨a,xs,rfl,hx,hw,q⟩:=h;cases rx;obtain⟨its,r,ht,hz⟩:=I.tuple hx;have hlen:its.toArray.size=xs.length:=by rw[Yl];exact r.length.symm
 refine⟨"tuple",_,PyProof.Rows.slot_tuple_getitem.lookup,ht.typeIs,?_⟩;refine HT.Aaf ht hs pl pu (by rw[hlen];exact hw) ?_ (by rw[hlen];exact hz);rw[hlen];refine⟨.ref s.heap.objs.size,_,I.laid (t':=s.toks) (o:=.tup (ux xs lo hi)) (λb ob q=>Yo _ q) (Yk _) ?_,rfl,q _ (I.hok.fresh (Yk _))⟩;exact⟨Y4 (W_ xs lo hi) hz,_,(r.drop (HT.aO xs.length 0 lo)).take (HT.aO xs.length xs.length hi-HT.aO xs.length 0 lo),o6.new _ _⟩
def Zvd(K:Yb):R2:=λx y H Q=>∃a b xs ys,x= .ref a/\y= .ref b/\cZ K H a xs/\cZ K H b ys/\xs≠[]/\xs.length+ys.length<=bN/\
 (ys=[]->Q (.ref a) H)/\(ys≠[]->∀p,H p=Ye->Q (.ref p) (upd H p (.tup (xs++ys))))
theorem Vals.Kg{xs:List V}{us:List Yg}(r:Vals xs us):us=[]↔xs=[]:=by
 cases r with
 |nil=>simp|cons _ _=>simp
theorem ZrN:bf X (iI .Add) (Zvd X.K):=by intro pins s σ H x y v u Q I rx ry h;obtain⟨a,b,xs,ys,rfl,rfl,ha,hb,hx,hz,q1,q2⟩:=h;cases rx;cases ry;obtain⟨its,r1,p1,_⟩:=I.tuple ha;obtain⟨its2,r2,p2,_⟩:=I.tuple hb;refine HT.AaL p1 p2 (λz=>hx (r1.Kg.mp z)) (λz=>⟨.ref a,H,I,rfl,q1 (r2.Kg.mp z)⟩) (λz=>?_) (by rw[←r1.length,←r2.length];exact hz);refine⟨.ref s.heap.objs.size,_,I.laid (t':=s.toks) (o:=.tup (xs++ys)) (λb ob q=>Yo _ q) (Yk _) ?_,rfl,q2 (λw=>z (r2.Kg.mpr w)) _ (I.hok.fresh (Yk _))⟩;exact⟨by rw[Y5];exact hz,_,r1.append r2,o6.new _ _⟩
end
end L2
namespace L2
open PySem PySem.Spec PyProof.Rows
noncomputable def yG(n:Nat)(i:Int):Option Nat:=if 0<=i then(if i<n then Ya i.toNat else Ye)else if -(n:Int)<=i then Ya (i+n).toNat else Ye
noncomputable def v8{α:Type}(xs:List α)(i:Int):Option α:=(yG xs.length i).bind λj=>xs[j]?
theorem Xb{n:Nat}{i:Int}{j:Nat}(h:yG n i=Ya j):seqIndex? i n=Ya j/\j<n/\ -(n:Int)<=i/\i<n:=by
 unfold yG at h;by_cases h0:0<=i
 .rw[if_pos h0]at h;by_cases h1:i<n
  .rw[if_pos h1]at h;have e:i.toNat=j:=Yq h;exact⟨by rw[LC h0 h1,e],by exact iN [_,_,_] [_] 3 0x211008a1280911031 T1 e h1 (jh h0),by exact iN [_] [_] 1 144182913 T1 h0,h1⟩
  .rw[if_neg h1]at h;cases h
 .rw[if_neg h0]at h;by_cases h1:-(n:Int)<=i
  .rw[if_pos h1]at h;have e:(i+n).toNat=j:=Yq h;exact⟨by rw[Ly (by exact yx.1 h0) h1,e],by exact iN [_,_,_] [_] 3 0x211280c08a10ec11031 T1 e h0 (jh (iN [_] [_] 1 8851524979073 T1 h1)),h1,by exact iN [_] [_] 1 134811329 T1 h0⟩
  .rw[if_neg h1]at h;cases h
theorem Od{α:Type}{xs:List α}{i:Int}{v:α}(h:v8 xs i=Ya v):∃j,seqIndex? i xs.length=Ya j/\xs[j]?=Ya v/\j<xs.length/\ -(xs.length:Int)<=i/\i<xs.length:=by
 unfold v8 at h;cases e:yG xs.length i with
 |none=>rw[e]at h;cases h|some j=>rw[e]at h;obtain⟨h1,h2,h3,h4⟩:=Xb e;exact⟨j,h1,h,h2,h3,h4⟩
def Xc(b:Expr):Prop:=∀o i,Gj b false o i=operate [o,i] (pX o i)
def j_(X:Cx)(r:R2):Prop:=
 ∀(value slice:Expr) (pins:List (Yz×aV)) (s:Yh) (σ:St) (H:Hp) (x y:V) (v u:Yg) (Q:VK),Inv X pins σ H s->RelV x v->RelV y u->r x y H Q ->
  Gj slice false v u=operate [v,u] (pX v u)->aA (aN X.prog X.w) X.A (Mx value slice v u) (EP X pins σ Q) X.xe s
def v9(X:Cx)(id:String)(r:V->List V->Hp->VK->Prop):Prop:=
 ∀(pins:List (Yz×aV)) (s:Yh) (σ:St) (H:Hp) (x:V) (xs:List V) (v:Yg) (us:List Yg) (Q:VK),Inv X pins σ H s->RelV x v->Vals xs us->r x xs H Q ->
  aA (aN X.prog X.w) X.A (call (.builtin id) (v::us)) (EP X pins σ Q) X.xe s
variable{pins:List (Yz×aV)}
section
variable {X:Cx} {a b:Expr} {ta tb:TE} {pos:bQ}
theorem j_.or{r r':R2}(h:j_ X r)(h':j_ X r'):j_ X (λx y H Q=>r x y H Q\/r' x y H Q):=by
 intro value slice pins s σ H x y v u Q I rx ry q hs;rcases q with q|q
 .exact h value slice pins s σ H x y v u Q I rx ry q hs
 .exact h' value slice pins s σ H x y v u Q I rx ry q hs
theorem Zvo{r:R2}(hr:j_ X r)(ha:PE X a ta)(hb:PE X b tb)(hs:Xc b):PE X (.Subscript a b pos) (CQ r ta tb):=by intro pins s σ H Q I h;exact MJ (N5 ha hb I h λv u s2 x y H2 I2 rx ry q=>hr a b pins s2 σ H2 x y v u Q I2 rx ry q (hs _ _))
def Xd(K:Yb):R2:=λx y H Q=>∃p xs i v,x= .ref p/\y= .int i/\cL K H p xs/\v8 xs i=Ya v/\Q v H
def Xe(K:Yb):R2:=λx y H Q=>∃p xs i v,x= .ref p/\y= .int i/\cZ K H p xs/\v8 xs i=Ya v/\Q v H
def Xf:R2:=λx y H Q=>∃z i c,x= .str z/\y= .int i/\z.length<=bN/\v8 z.cps.toList i=Ya c/\Q (.str ⟨#[c]⟩) H
theorem ZrW:j_ X (Xd X.K):=by
 intro value slice pins s σ H x y v u Q I rx ry h hs;obtain⟨p,xs,i,z,rfl,rfl,hq,he,q⟩:=h;cases rx;obtain⟨t,rfl⟩:=ry;obtain⟨its,r,pl,hz⟩:=I.list hq;obtain⟨j,h1,h2,h3,h4,h5⟩:=Od he;obtain⟨w,ew,mD⟩:=r.get h2;have hl:=r.length;have hn:=CV;have fin:EP X pins σ Q w s:=⟨z,H,I,mD,q⟩;by_cases h0:0<=i
 .have hj:i.toNat=j:=by
   rw[LC h0 h5]at h1;exact Yq h1
  exact item_listR pl.isList h0 (by omega) (by rw[hj];simpa using ew) fin hs
 .have hj:(i+(its.toArray.size:Int)).toNat=j:=by
   rw[Ly (by exact yx.1 h0) h4]at h1;rw[Yl,←hl];exact Yq h1
  exact Vk (x:=w) pl.isList.typeIs slot_list_getitem.lookup
   (wpAny_getItem_list_neg (Q:=λr s'=>r=w/\EP X pins σ Q r s') pl.isList (by exact yx.1 h0) (by rw[Yl]<;>exact iN [_,_] [_] 2 6922527515414561 T1 hl h4) (by omega) (by rw[hj];simpa using ew) ⟨rfl,fin⟩) hs
theorem Zt1:j_ X (Xe X.K):=by
 intro value slice pins s σ H x y v u Q I rx ry h hs;obtain⟨p,xs,i,z,rfl,rfl,hq,he,q⟩:=h;cases rx;obtain⟨t,rfl⟩:=ry;obtain⟨its,r,pl,hz⟩:=I.tuple hq;obtain⟨j,h1,h2,h3,h4,h5⟩:=Od he;obtain⟨w,ew,mD⟩:=r.get h2;have hl:=r.length;have hn:=CV;have fin:EP X pins σ Q w s:=⟨z,H,I,mD,q⟩;exact Vk (x:=w) pl.typeIs slot_tuple_getitem.lookup
  (getItem_tuple (j:=j) (Q:=λr s'=>r=w/\EP X pins σ Q r s') pl (by omega) (by omega) (by rw[Yl,←hl];exact h1) (by simpa using ew) ⟨rfl,fin⟩) hs
theorem ZtS:j_ X Xf:=by
 intro value slice pins s σ H x y v u Q I rx ry h hs;obtain⟨z,i,c,rfl,rfl,hz,he,q⟩:=h;obtain⟨t,rfl⟩:=rx;obtain⟨t',rfl⟩:=ry;obtain⟨j,h1,h2,h3,h4,h5⟩:=Od he;have hl:z.cps.toList.length=z.length:=by simp[p_]
 rw[hl]at h1 h4 h5;have hn:=CV;exact tail_any (L_ s z t) slot_str_getitem.lookup (getItem_str (c:=c) (by have e1:decide (i< -(2^63:Int))=false:=decide_eq_false (by omega);have e2:decide (i>=2^63)=false:=decide_eq_false (by omega);rw[e1,e2,Bool.or_false]) (by rw[h1];simpa using h2) ⟨.str ⟨#[c]⟩,H,I.tok _,⟨_,rfl⟩,q⟩) hs
def rIx(K:Yb):R2:=λx y H Q=>Xd K x y H Q\/Xe K x y H Q\/Xf x y H Q
theorem Zuk:j_ X (rIx X.K):=ZrW.or (Zt1.or ZtS)
theorem Znb(its:List Yg)(n j:Nat)(u:Yg):qd (·.setIfInBounds j u) {cls:=.type "list",data:=.seq its.toArray n}={cls:=.type "list",data:=.seq (its.set j u).toArray n}:=by simp[qd]
theorem Inv.lst{σ:St}{H:Hp}{s:Yh}{p:Yz}{xs:List V}(I:Inv X pins σ H s)(h:H p=Ya (.lst xs)):
  ∃(its:List Yg) (n:Nat),Vals xs its/\s.heap.get? p=Ya {cls:=.type "list",data:=.seq its.toArray n}/\xs.length<=bN:=by
 obtain⟨z,its,n,r,e⟩:=I.hok p _ h;exact⟨its,n,r,e,z⟩
theorem Inv.AaR{σ:St}{H:Hp}{s:Yh}{p:Yz}{xs ys:List V}{its its':List Yg}{n n':Nat}{f:aV->aV}(I:Inv X pins σ H s)(h:H p=Ya (.lst xs))(ho:s.heap.get? p=Ya {cls:=.type "list",data:=.seq its.toArray n})(hf:f {cls:=.type "list",data:=.seq its.toArray n}={cls:=.type "list",data:=.seq its'.toArray n'})(r:Vals ys its')(hz:ys.length<=bN)(t:Nat):
  Inv X pins σ (upd H p (.lst ys)) {s with heap:=s.heap.update p f,toks:=t}:=by
 have e:(s.heap.update p f).get? p=Ya {cls:=.type "list",data:=.seq its'.toArray n'}:=by rw[U8 f ho (by rw[hf]<;>rfl),hf]
 refine I.write (x:=p) (e:=p) (by rw[h];trivial) (.inl rfl) (λb u hb q=>(U7 _ _ (cU hb)).trans q) ⟨_,e⟩ ?_;exact⟨hz,its',n',r,e⟩
noncomputable def Zu0:V->V->V->Hp->(Hp->Prop)->Prop:=λo i v H Q=>∃p xs k j,o= .ref p/\i= .int k/\H p=Ya (.lst xs)/\yG xs.length k=Ya j/\Q (upd H p (.lst (xs.set j v)))
theorem set_list:Wz X Zu0:=by
 intro pins s σ H o i v ov iv u Q I ro ri rv h;obtain⟨p,xs,k,j,rfl,rfl,hp,hj,q⟩:=h;cases ro;obtain⟨t,rfl⟩:=ri;obtain⟨its,n,r,ho,hz⟩:=I.lst hp;obtain⟨h1,h2,h3,h4⟩:=Xb hj;have hl:=r.length;have hn:=CV;have I':Inv X pins σ (upd H p (.lst (xs.set j v))) {s with heap:=s.heap.update p (qd (·.setIfInBounds j u))}:=I.AaR hp ho (Znb its n j u) (r.set rv j) (by rw[xZ];exact hz) s.toks;by_cases h0:0<=k
 .have hk:k.toNat=j:=by
   rw[LC h0 h4]at h1;exact Yq h1
  exact PySem.W.ki_setAt ho h0 (by omega) (by rw[Yl,←hl];exact h4) (by rw[hk];exact⟨_,I',q⟩)
 .have hk:(k+(its.toArray.size:Int)).toNat=j:=by
   rw[Ly (by exact yx.1 h0) h3]at h1;rw[Yl,←hl];exact Yq h1
  exact PySem.W.ki_setBack ho (by exact yx.1 h0) (by rw[Yl,←hl];exact h3) (by omega) (by rw[hk];exact⟨_,I',q⟩)
theorem Zlf(lo hi:Option Int)(n:Nat):(vG lo hi Ye n).1=((HT.aO n 0 lo:Nat):Int)/\(vG lo hi Ye n).2.1=((HT.aO n n hi:Nat):Int)/\(vG lo hi Ye n).2.2=1:=by
 refine⟨?_,?_,rfl⟩
 .cases lo with
  |none=>simp[vG,HT.aO]|some i=>
   simp only[vG,HT.aO,Tw,show(1:Int)>0 by decide,if_true];by_cases h:i<0
   .simp only[h,if_true]<;>exact Nr _ _ h
   .simp only[h,if_false]<;>exact Nt _ _ h
 .cases hi with
  |none=>simp[vG,HT.aO]|some i=>
   simp only[vG,HT.aO,Tw,show(1:Int)>0 by decide,if_true];by_cases h:i<0
   .simp only[h,if_true]<;>exact Nr _ _ h
   .simp only[h,if_false]<;>exact Nt _ _ h
theorem ZjG(its:List Yg)(lo hi:Option Int):slicePick its.toArray lo hi Ye=((its.drop (HT.aO its.length 0 lo)).take (HT.aO its.length its.length hi-HT.aO its.length 0 lo)).toArray:=by obtain⟨h1,h2,h3⟩:=Zlf lo hi its.toArray.size;unfold slicePick;rw[h1,h2,h3];simp only[sliceRange_one,pick_run,Yl]<;>rfl
noncomputable def ZwL(K:Yb):V->Option Int->Option Int->Hp->VK->Prop:=λx lo hi H Q=>∃a xs,x= .ref a/\cL K H a xs/\∀p,H p=Ye->Q (.ref p) (upd H p (.lst (ux xs lo hi)))
theorem Zry:ji X (ZwL X.K):=by intro pins s σ H x v vl vu lo hi sl Q I rx hs pl pu h;obtain⟨a,xs,rfl,hx,q⟩:=h;cases rx;obtain⟨its,r,ht,hz⟩:=I.list hx;have hlen:=r.length;refine⟨"list",_,slot_list_getitem.lookup,ht.isList.typeIs,?_⟩;refine wpAny_getItem_list_slice ht.isList hs pl pu .none (by simp) ?_ (by rw[Yl]<;>exact lC 2 2268279672881 T1 hlen hz);rw[ZjG,←hlen];refine⟨.ref s.heap.objs.size,_,I.laid (t':=s.toks) (o:=.lst (ux xs lo hi)) (λb ob q=>Yo _ q) (Yk _) ?_,rfl,q _ (I.hok.fresh (Yk _))⟩;exact⟨Y4 (W_ xs lo hi) hz,_,0,(r.drop (HT.aO xs.length 0 lo)).take (HT.aO xs.length xs.length hi-HT.aO xs.length 0 lo),jg _ rfl⟩
noncomputable def qp:V->Bool
 | .non=>true|.bl _=>true|.int _=>true|.str _=>true
 |_=>false
noncomputable def rT:V->V->Bool
 | .non,.non=>true|.bl a,.bl b=>a==b|.bl a,.int b=>(if a then 1 else 0)==b|.int a,.bl b=>a==(if b then 1 else 0)
 | .int a,.int b=>a==b|.str a,.str b=>a==b|_,_=>false
theorem ZtK{A:cG}{s:Yh}{y x:V}{u v:Yg}(ry:RelV y u)(rx:RelV x v)(fy:qp y=true)(fx:qp x=true):uq A s u v (rT y x):=by
 cases y with
 |non=>
  cases ry
  cases x with
  |non=>cases rx;exact Ni _|bl b=>cases rx;exact VB b|int b=>obtain⟨t,rfl⟩:=rx;exact VG b t|str b=>obtain⟨t,rfl⟩:=rx;exact VH b t
  |_=>exact absurd (show false=true from fx) mz
 |bl a=>
  cases ry
  cases x with
  |non=>cases rx;exact VD a|bl b=>cases rx;exact VF a b|int b=>obtain⟨t,rfl⟩:=rx;exact VJ a b t|str b=>obtain⟨t,rfl⟩:=rx;exact VL a b t
  |_=>exact absurd (show false=true from fx) mz
 |int a=>
  obtain⟨t',rfl⟩:=ry;cases x with
  |non=>cases rx;exact VN a t'|bl b=>cases rx;exact VP a t' b|int b=>obtain⟨t,rfl⟩:=rx;exact V0 a t' b t|str b=>obtain⟨t,rfl⟩:=rx;exact Ng a t' b t
  |_=>exact absurd (show false=true from fx) mz
 |str a=>
  obtain⟨t',rfl⟩:=ry;cases x with
  |non=>cases rx;exact VR a t'|bl b=>cases rx;exact VV a t' b|int b=>obtain⟨t,rfl⟩:=rx;exact Nh a t' b t|str b=>obtain⟨t,rfl⟩:=rx;exact V1 a t' b t
  |_=>exact absurd (show false=true from fx) mz
 |_=>exact absurd (show false=true from fy) mz
noncomputable def rW(x:V)(u:Yg):Bool:=match u with
 | .none=>rT .non x|.bool b=>rT (.bl b) x|.int i _=>rT (.int i) x|.str z _=>rT (.str z) x
 |_=>false
theorem Xg{x y:V}{u:Yg}(r:RelV y u)(f:qp y=true):rW x u=rT y x:=by
 cases y with
 |non=>cases r;rfl|bl b=>cases r;rfl|int i=>obtain⟨t,rfl⟩:=r;rfl|str z=>obtain⟨t,rfl⟩:=r;rfl
 |_=>exact absurd (show false=true from f) mz
theorem Oe{x:V}:∀{xs:List V} {us:List Yg},Vals xs us->xs.all qp=true->us.any (rW x)=xs.any λy=>rT y x
 |_,_,.nil,_=>rfl|y::xs,u::us,.cons r t,f=>by rw[t7,Y0]at f;rw[mj,mj,Xg r f.1,Oe t f.2]
theorem Og{A:cG}{s:Yh}{x:V}{v:Yg}(rx:RelV x v)(fx:qp x=true):∀{xs:List V} {us:List Yg},Vals xs us->xs.all qp=true->∀u∈us,uq A s u v (rW x u)
 |_,_,.nil,_=>λu hu=>by cases hu|y::xs,u::us,.cons r t,f=>λu' hu=>by
  rw[t7,Y0]at f;rcases Y7.mp hu with rfl|hu
  .rw[Xg r f.1];exact ZtK r rx f.1 fx
  .exact Og rx fx t f.2 u' hu
noncomputable def inV(x:V)(xs:List V):Bool:=xs.any λy=>rT y x
def Xh(K:Yb)(neg:Bool):R2:=λx y H Q=>∃p xs,y= .ref p/\(cL K H p xs\/cZ K H p xs)/\qp x=true/\xs.all qp=true/\Q (.bl (if neg then !inV x xs else inV x xs)) H
theorem Zpo:bf X (gG .In) (Xh X.K false):=by
 intro pins s σ H x y v u Q I rx ry h;obtain⟨p,xs,rfl,hq,fx,fs,q⟩:=h;cases ry;rcases hq with hq|hq
 .obtain⟨its,r,pl,hz⟩:=I.list hq;refine SeqAt.in_listAt (rW x) pl.isList (λw hw=>Og rx fx r fs w (by simpa using hw)) ⟨.bl _,H,I,rfl,?_⟩;rw[show its.toArray.any (rW x)=its.any (rW x)by simp,Oe r fs];exact q
 .obtain⟨its,r,pl,hz⟩:=I.tuple hq;refine SeqAt.in_tupleAt (rW x) pl (λw hw=>Og rx fx r fs w (by simpa using hw)) ⟨.bl _,H,I,rfl,?_⟩;rw[show its.toArray.any (rW x)=its.any (rW x)by simp,Oe r fs];exact q
theorem fJ.or{f:Yg}{r r':List V->Hp->VK->Prop}(h:fJ X f r)(h':fJ X f r'):fJ X f (λxs H Q=>r xs H Q\/r' xs H Q):=by
 intro pins s σ H xs us Q I rs q;rcases q with q|q
 .exact h pins s σ H xs us Q I rs q
 .exact h' pins s σ H xs us Q I rs q
theorem Zlw:fJ X (.type "list") (λxs H Q=>∃p ys,xs=[.ref p]/\(cL X.K H p ys\/cZ X.K H p ys)/\∀l,H l=Ye->Q (.ref l) (upd H l (.lst ys))):=by
 intro pins s σ H xs us Q I r h;obtain⟨p,ys,rfl,hq,q⟩:=h;obtain⟨u,rfl,rx⟩:=vals1 r;cases rx;have fin:∀(its:List Yg),Vals ys its->ys.length<=bN->∀(h':aY) (c':Nat),(∀b o',s.heap.get? b=Ya o'->h'.get? b=Ya o') ->
   h'.get? s.heap.objs.size=Ya {cls:=.type "list",dict:=Ye,data:=.seq its.toArray c',slots:=#[]}->EP X pins σ Q (.ref s.heap.objs.size) {s with heap:=h'}:=λits r' hz h' c' kp e=>
  ⟨.ref s.heap.objs.size,_,I.laid (t':=s.toks) kp (Yk _) (show fP X.prog X.w _ h' _ (.lst ys)from⟨hz,its,c',r',e⟩),rfl,q _ (I.hok.fresh (Yk _))⟩
 rcases hq with hq|hq
 .obtain⟨its,r',pl,hz⟩:=I.list hq;have hlen:=r'.length;obtain⟨o,ho,hc,n,hd⟩:=pl.isList;exact call_list_seq p (.inl rfl) ho hc hd (λh' c' kp e=>fin its r' hz h' c' kp e) (by simp only[Yl]<;>exact lC 2 2268279672881 T1 hlen hz)
 .obtain⟨its,r',pl,hz⟩:=I.tuple hq;have hlen:=r'.length;obtain⟨o,ho,hc,n,hd⟩:=pl;exact call_list_seq p (.inr rfl) ho hc hd (λh' c' kp e=>fin its r' hz h' c' kp e) (by simp only[Yl]<;>exact lC 2 2268279672881 T1 hlen hz)
theorem ZjR:fJ X (.type "tuple") (λxs H Q=>∃p ys,xs=[.ref p]/\((cL X.K H p ys/\∀l,H l=Ye->Q (.ref l) (upd H l (.tup ys)))\/(cZ X.K H p ys/\Q (.ref p) H))):=by
 intro pins s σ H xs us Q I r h;obtain⟨p,ys,rfl,h⟩:=h;obtain⟨u,rfl,rx⟩:=vals1 r;cases rx;rcases h with⟨hq,q⟩|⟨hq,q⟩
 .obtain⟨its,r',pl,hz⟩:=I.list hq;have hlen:=r'.length;refine call_tuple_list pl.isList (λh' kp=>?_) (by simp only[Yl]<;>exact lC 2 2268279672881 T1 hlen hz);have I1:Inv X pins σ H {s with heap:=h'}:=I.kept (t':=s.toks) kp;have I2:Inv X pins σ (upd H h'.objs.size (.tup ys)) {s with heap:=h'.push {cls:=.type "tuple",data:=.seq its.toArray}}:=
   I1.laid (t':=s.toks) (λb o e=>Yo _ e) (Yk _) (show fP X.prog X.w _ _ _ (.tup ys)from⟨hz,its,r',o6.new _ _⟩)
  exact⟨.ref h'.objs.size,_,I2,rfl,q _ (I1.hok.fresh (Yk _))⟩
 .obtain⟨its,r',pl,hz⟩:=I.tuple hq;exact call_tuple_same pl ⟨.ref p,H,I,rfl,q⟩
def Hs(K:Yb)(T:String)(x:V)(H:Hp):Prop:=match x with
 | .str _=>T= "str"|.int _=>T= "int"|.ref p=>(T= "list" /\∃xs,cL K H p xs)\/(T= "tuple" /\∃o,K.lookup p=Ya o/\o.cls= .type "tuple" /\o.dict=Ye)\/
   (T= "dict" /\((∃kvs,H p=Ya (.dK kvs))\/∃kvs,H p=Ya (.dT kvs)))\/(T= "set" /\∃S n,H p=Ya (.set S n))
 |_=>False
theorem ZtA{σ:St}{H:Hp}{s:Yh}{T:String}{x:V}{v:Yg}(I:Inv X pins σ H s)(r:RelV x v)(ty:Hs X.K T x H):
  s.TypeIs v T/\∀a,v= .ref a->∃ob,s.heap.get? a=Ya ob/\ob.dict=Ye:=by
 cases x with
 |str z=>obtain⟨t,rfl⟩:=r;cases(show T= "str" from ty);exact⟨L_ s z t,λ_ e=>nomatch e⟩|int i=>obtain⟨t,rfl⟩:=r;cases(show T= "int" from ty);exact⟨Ma s i t,λ_ e=>nomatch e⟩|ref p=>
  cases r
  rcases ty with⟨rfl,xs,hq⟩|⟨rfl,o,hk,hc,hd⟩|⟨rfl,hk⟩|⟨rfl,S,n,hk⟩
  .obtain⟨its,_,pl,_⟩:=I.list hq;refine⟨pl.isList.typeIs,λa e=>?_⟩;cases e;obtain⟨o,n,e,c,hd,_⟩:=pl;exact⟨o,e,hd⟩
  .refine⟨⟨o,I.v5 p o hk,hc⟩,λa e=>?_⟩;cases e;exact⟨o,I.v5 _ o hk,hd⟩
  .have z:∃o,s.heap.get? p=Ya o/\o.ExactDict:=by
    rcases hk with⟨kvs,hk⟩|⟨kvs,hk⟩
    .obtain⟨_,_,_,_,o,_,_,e,ex,_⟩:=I.hok p _ hk;exact⟨o,e,ex⟩
    .obtain⟨_,_,_,_,o,_,_,e,ex,_⟩:=I.hok p _ hk;exact⟨o,e,ex⟩
   obtain⟨o,e,ex⟩:=z;refine⟨⟨o,e,ex.1⟩,λa e2=>?_⟩;cases e2;exact⟨o,e,ex.2.1⟩
  .obtain⟨o,_,_,_,e,ex,_⟩:=I.hok p _ hk;refine⟨⟨o,e,ex.1⟩,λa e2=>?_⟩;cases e2;exact⟨o,e,ex.2.1⟩
 |_=>exact jL ty
def Xi(K:Yb)(T:String)(r:V->List V->Hp->VK->Prop)(to:TE)(t:TA):TE:=λσ H Q=>to σ H λx H1=>Hs K T x H1/\t σ H1 λxs H2=>r x xs H2 Q
variable {o e:Expr} {es:List Expr} {to:TE} {t:TA} {name:aj} {apos cpos:bQ} {T id:String} {r:V->List V->Hp->VK->Prop}
theorem ZvS(pa:PlainAttrs T)(slot:Slot T name id)(hty:typeOf (.builtin id)=pure (.type "method_descriptor"))(hm:v9 X id r)(ho:PE X o to)(ha:PA X (e::es) t)(hbase:Gi o name X.env (bU o X.env)=bU o X.env:=by rfl)(hfew:((jq cpos (cF (e::es) X.env)).all (λx=>!x.1)&&(Gn cpos (Gk [] X.env)).all (λx=>x.1.isSome)
   &&decide ((e::es).length+([]:List Keyword).length+(if([]:List Keyword).isEmpty then 0 else 1)<30))=true:=by rfl)(hline:(apos.endLine==cpos.line)=true:=by rfl)(hs:cF (e::es) X.env=(false,bU e X.env)::cF es X.env:=by rfl)(hplain:(jq cpos (cF es X.env)).any (·.1)=false:=by rfl):
  PE X (.Call (.Attribute o name apos) (e::es) [] cpos) (Xi X.K T r to t):=by
 intro pins s σ H Q I h;refine wpAny_Call_method_late hbase hfew hline rfl (a_ (ho pins s σ H _ I h) λv s1 ak=>?_);obtain⟨x,H1,I1,r1,ty,q1⟩:=ak;obtain⟨h1,h2⟩:=ZtA I1 r1 ty;refine⟨T,id,pa,slot,hty,h1,h2,?_⟩;have hA:=ha cpos pins s1 σ H1 _ I1 q1;rw[hs]at hA ⊢;refine Vx (by show(false|| (jq cpos (cF es X.env)).any (·.1))=false;rw[hplain]<;>rfl) (Vy ?_);exact a_ hA λus s2 ⟨vs,H2,I2,r2,q2⟩=>hm pins s2 σ H2 x vs v us Q I2 r1 r2 q2
/-xs.append(e),list.index on a module's tuple .. are v9 facts of 06m -/
end
end L2
namespace L2
open PySem PySem.Spec PyProof.Rows
def MtM(X:Cx)(id:String)(r:V->List V->Hp->VK->Prop):Prop:=
 ∀(pins:List (Yz×aV)) (s:Yh) (σ:St) (H:Hp) (x:V) (xs:List V) (v:Yg) (us:List Yg) (Q:VK),Inv X pins σ H s->RelV x v->Vals xs us->r x xs H Q ->
  aA (aN X.prog X.w) X.A (call (.builtin id) (v::us)) (EP X pins σ Q) X.xe s
theorem Vals.one:∀{x:V} {us:List Yg},Vals [x] us->∃u,us=[u]/\RelV x u
 |_,_,.cons r .nil=>⟨_,rfl,r⟩
theorem Vals.zero:∀{us:List Yg},Vals [] us->us=[]
 |_,.nil=>rfl
theorem Vals.dropLast{xs:List V}{us:List Yg}(h:Vals xs us):Vals xs.dropLast us.dropLast:=by
 induction h with
 |nil=>exact .nil|cons r t ih=>
  cases t with
  |nil=>exact .nil|cons q t'=>exact .cons r ih
theorem Vals.rep{xs:List V}{us:List Yg}(h:Vals xs us):∀k:Nat,Vals (Yj k xs).flatten (Yj k us).flatten
 |0=>.nil|k+1=>by rw[rA,rA,vp,vp];exact Vals.append h (Vals.rep h k)
theorem foldl_rep(its:List Yg):∀(k:Nat) (acc:List Yg),
  Lj (λx1 x2=>x1++x2) acc.toArray (Yj k its.toArray)=(acc++(Yj k its).flatten).toArray
 |0,acc=>by simp|k+1,acc=>by
  have e:acc.toArray++its.toArray=(acc++its).toArray:=by simp
  have e2:(acc++its)++(Yj k its).flatten=acc++(Yj (k+1) its).flatten:=by rw[rA,vp,j5]
  rw[←e2,←foldl_rep its k (acc++its),←e,rA,Le]
section
variable {X:Cx} {pins:List (Yz×aV)} {σ:St} {H:Hp} {s:Yh} {l b:Yz} {xs ys zs:List V}
theorem Inv.Aa5{its its':List Yg}{n:Nat}{f:Array Yg->Array Yg}{t':Nat}(I:Inv X pins σ H s)(hH:H l=Ya (.lst xs))(e:s.heap.get? l=Ya {cls:=.type "list",data:=.seq its.toArray n})(hf:f its.toArray=its'.toArray)(hv:Vals ys its')(hz:ys.length<=bN):
  Inv X pins σ (upd H l (.lst ys)) {s with heap:=s.heap.update l (qd f),toks:=t'}:=by
 have q:=PySem.IsL.update e f;rw[hf]at q;refine I.write (x:=l) (e:=l) (by rw[hH];exact trivial) (.inl rfl) (λb' u hb hu=>(U7 s.heap (qd f) (cU hb)).trans hu) ⟨_,q⟩ ?_;exact⟨hz,its',_,hv,q⟩
theorem Inv.Sg{its:List Yg}{t':Nat}(I:Inv X pins σ H s)(hv:Vals ys its)(hz:ys.length<=bN):
  Inv X pins σ (upd H s.heap.objs.size (.lst ys)) {s with heap:=s.heap.push {cls:=.type "list",data:=.seq its.toArray},toks:=t'}:=
 I.laid (λ_ _ q=>Yo _ q) (Yk _) ⟨hz,its,0,hv,jg _ rfl⟩
theorem Inv.fresh(I:Inv X pins σ H s):H s.heap.objs.size=Ye:=I.hok.fresh (Yk _)
theorem Inv.Fp(I:Inv X pins σ H s)(hH:H l=Ya (.lst xs)):xs.length<=bN/\∃(its:List Yg) (n:Nat),Vals xs its/\xs.length=its.length/\s.heap.get? l=Ya {cls:=.type "list",data:=.seq its.toArray n}:=by obtain⟨z,its,n,r,e⟩:=I.hok l _ hH;exact⟨z,its,n,r,r.length,e⟩
theorem Zq3{n:Nat}(h:n<=bN):M_ n=false:=by unfold M_;exact decide_eq_false (by omega)
end
section
variable {X:Cx}
noncomputable def Xj:V->List V->Hp->VK->Prop:=λx vs H Q=>∃l xs y,x= .ref l/\vs=[y]/\H l=Ya (.lst xs)/\xs.length<bN/\Q .non (upd H l (.lst (xs++[y])))
theorem Xk:MtM X "list.append" Xj:=by intro pins s σ H x vs v us Q I rx rv h;obtain⟨l,xs,y,rfl,rfl,hH,hz,q⟩:=h;cases rx;obtain⟨u,rfl,ru⟩:=rv.one;obtain⟨z,its,n,r,hl,e⟩:=I.Fp hH;refine Gm F.slot_list_append ⟨_,e,rfl⟩ F.entry_list_append (F.args_list_append_2 _ _) (PySem.list_append l its.toArray n u (by rw[Yl];exact lC 2 2268279672881 T1 hl z)) ⟨e,?_⟩;refine⟨.non,_,I.Aa5 (its':=its++[u]) hH e (by simp) (r.append (.cons ru .nil)) ?_,rfl,q⟩;rw[Y5,FQ];exact lB 1 6991908881 T1 hz
def ZwX:R2:=λx y H Q=>∃l b xs zs,x= .ref l/\y= .ref b/\H l=Ya (.lst xs)/\H b=Ya (.lst zs)/\xs.length+zs.length<=bN/\∀p,H p=Ye->Q (.ref p) (upd H p (.lst (xs++zs)))
theorem ZtQ:bf X (iI .Add) ZwX:=by
 intro pins s σ H x y v u Q I rx ry h;obtain⟨l,b,xs,zs,rfl,rfl,hH,hB,hz,q⟩:=h;cases rx;cases ry;obtain⟨z,its,n,r,hl,e⟩:=I.Fp hH;obtain⟨z2,its2,n2,r2,hl2,e2⟩:=I.Fp hB;refine PySem.P.add_list e e2 ?_ (by rw[Yl,Yl];exact lE 3 0x413c0402c0132311031 T1 hl2 hl hz);have ea:its.toArray++its2.toArray=(its++its2).toArray:=by simp
 rw[ea];exact⟨.ref _,_,I.Sg (t':=s.toks) (r.append r2) (by rw[Y5];exact hz),rfl,q _ I.fresh⟩
def ZwH:R2:=λx y H Q=>∃l k xs,x= .ref l/\y= .int k/\H l=Ya (.lst xs)/\ -(2^63)<=k/\k<2^63/\xs.length*k.toNat<=bN/\
 ∀p,H p=Ye->Q (.ref p) (upd H p (.lst (Yj k.toNat xs).flatten))
theorem len_rep{α:Type}(xs:List α)(k:Nat):(Yj k xs).flatten.length=k*xs.length:=by
 induction k with
 |zero=>simp|succ k ih=>rw[rA,vp,Y5,ih,Nat.succ_mul,Nat.add_comm]
theorem Ztr:bf X (iI .Mult) ZwH:=by
 intro pins s σ H x y v u Q I rx ry h;obtain⟨l,k,xs,rfl,rfl,hH,h1,h2,hz,q⟩:=h;cases rx;obtain⟨t,rfl⟩:=ry;obtain⟨z,its,n,r,hl,e⟩:=I.Fp hH;have hlen:its.toArray.size*k.toNat<=bN:=by rw[Yl,←hl];exact hz
 have Aa6:¬its.toArray.size*k.toNat>(2^63-1) / 8:=by
  have:(bN:Nat)<=(2^63-1) / 8:=by decide
  omega
 have hfit:¬(!Builtin.List.listFitsIndex k)=true:=by rw[fitsIndex_both h1 h2];exact mz
 have AaX:¬M_ (its.toArray.size*k.toNat)=true:=by rw[Zq3 hlen];exact mz
 have hnew:Lj (λx1 x2=>x1++x2) #[] (Yj (if its.toArray.isEmpty=true then 0 else k.toNat) its.toArray)=(Yj k.toNat its).flatten.toArray:=by
  have f0:∀m:Nat,Lj (λx1 x2=>x1++x2) #[] (Yj m its.toArray)=(Yj m its).flatten.toArray:=λm=>by have:=foldl_rep its m [];rw[vz]at this;exact this
  rw[f0];cases its with
  |nil=>simp|cons a r'=>rw[if_neg (by simp)]
 refine wpAny_binaryOp_repeat_ref (T:="list") (U:="int") (by decide) ⟨_,e,rfl⟩ (λs'=>Ma s' k t) noFill_list_mul F.fills_int_mul Vu repeat_list F.slot_int_index.lookup
  (Gm Vu (Ma s k t) F.entry_int_rmul (F.args_int_rmul_2 _ _) (int___rmul___int_list k t l its.toArray n)
   ⟨e,rfl,⟨_,e,rfl⟩,Gm F.slot_list_mul ⟨_,e,rfl⟩ F.entry_list_mul (F.args_list_mul_2 _ _) (AutoListH.list___mul___list_int_3 l its.toArray n k t hfit Aa6 AaX) ⟨e,?_⟩⟩)
 rw[hnew];exact⟨.ref _,_,I.Sg (t':=s.toks) (r.rep k.toNat) (by rw[len_rep,Nat.mul_comm];exact hz),rfl,q _ I.fresh⟩
end
section
variable {prog:cj} {w:bO} {A:cG} {E:Yg->Yh->Prop} {s:Yh}
theorem yH(its its2:List Yg)(a c:Nat):its.toArray.extract 0 a++its2.toArray++its.toArray.extract c its.toArray.size=(its.take a++its2++its.drop c).toArray:=by
 apply Vj.mp
 first
  | (simp
     exact tY (by simp))
  |simp[tY]
  |simp
end
end L2
namespace Xl
open PySem PySem.W PySem.Calls PyProof.Rows
theorem Zit{P:Params}{h:aY}:∀(ns:List Int) (vs:List Yg),WellAll P h vs (ns.map WData.int)->IntsAre vs ns:=by
 intro ns
 induction ns with
 |nil=>intro vs w;rw[yc]at w;cases w;exact .nil|cons n ns ih=>
  intro vs w;rw[Yy]at w;cases w with
  |cons a b=>
   cases a
   exact .cons _ _ (ih _ b)
theorem Zpy{l:OpenLaw}{n:Nat}(hn:l.most=Ya n){P:Params}{h:aY}{args:List WData}{vals:List Yg}(hpre:l.row.toRowW.claim.pre args=true)(hwl:WellAll P h vals args):
  ∃a vs ns,vals=[Value.ref a]/\args=[WData.list (ns.map WData.int)]/\h.get? a=Ya {cls:=.type "list",data:=.seq vs.toArray}/\IntsAre vs ns/\ns.length<=n:=by
 have hsh:WShape.hasAll [] args [.list .int]=true:=(pre_splitW hpre).1;have hc:l.pre.holds [] {args:=args}=true:=(pre_splitW hpre).2;obtain⟨d,r,rfl,h1,h2⟩:=hasAllW_cons hsh;obtain rfl:=hasAllW_nil h2;obtain⟨xs,rfl,h3⟩:=hasW_list h1;obtain⟨ns,rfl⟩:=items_int h3;have hlen:ns.length<=n:=by
  unfold OpenLaw.pre at hc;have h4:(WTm.not (.lt (.lit (.int (n:Int))) (.len (.arg 0)))).holds [] {args:=[.list (ns.map .int)]}=true:=by have h4:=(holds_andW hc).1;rw[hn]at h4;exact h4
  have h5:=condW_of h4 (w_not (w_lt w_lit (w_len_list (w_arg rfl))));rw[Yn]at h5;refine iH λq=>?_;have q':(n:Int)<((ns.length:Nat):Int):=by exact p8.2 q
  first
   |(rw[decide_eq_true q']at h5;exact absurd h5 (by decide))
   |(simp at h5;omega)
 cases hwl with
 |cons w1 w2=>
  cases w2
  cases w1 with
  |list ho hall=>exact⟨_,_,ns,rfl,rfl,ho,Zit ns _ hall,hlen⟩
theorem Zo4(l:OpenLaw)(args:List WData):l.row.toRowW.claim.post args (.bool true) args=true:=
 postW_of (r:=l.row.toRowW) (X:=(true==true))
  (show WShape.has [] (.bool true) .bool=true by first|rfl|decide|simp[WShape.has,WShape.arms,WShape.armsAll])
  (show(WTm.eq .res (.lit (.bool true))).value [] {args:=args,res:=Ya (.bool true),after:=args}=Ya (.bool (true==true))from w_eq_bool (w_res rfl) w_lit) rfl
theorem Aat{l:OpenLaw}{n:Nat}{q:cj}{loose:List aj}{XP:(aj->Option Yg)->aY->Prop}{YP:bO->aY->Prop}{d:DefRec}(hn:l.most=Ya n)(hdf:d.params.defaults=[])(call:∀(w:bO) (s₀ s₁:Yh) (mg mb:aj->Option Yg) (fa:Yz) (o:aV) (pm cd doc:Yg) (a:Yz) (vs:List Yg) (ns:List Int),
   Ground q loose [] XP w s₀ mg mb s₁.heap->YP w s₁.heap ->
   s₁.heap.get? fa=Ya o->o.data= .func (docDef d.name d.params d.body d.scope pm cd doc)->s₁.heap.CodeRec cd d.name->mg d.name=Ya (.ref fa) ->
   s₁.heap.get? a=Ya {cls:=.type "list",data:=.seq vs.toArray}->IntsAre vs ns->ns.length<=n->s₁.gens= #[] ->
   rF (aN l.prog w) ud (.call (.ref fa) ⟨[.ref a],[]⟩) (λr s'=>r= .ok (.ret (.bool true))/\OldK s₁.heap s'.heap/\s'.os=s₁.os/\rJ s'.gens) s₁):
  WalkO q loose XP YP l.row.toRowW d [] (λf vs=>Mf f vs):=by
 intro w s₀ s₁ mg mb G Y fa o pm cd doc dV kV ho hd hcd hD hmg hg args vals as hpre hlay hrd hwl hlo;obtain rfl:dV= .none:=Dflts.none hD hdf;obtain rfl:kV= .none:=Dflts.noKw hD;obtain⟨a,vs,ns,rfl,rfl,hobj,hints,hlen⟩:=Zpy hn hpre hwl;refine enter_call (Lw (call w s₀ s₁ mg mb fa o pm cd doc a vs ns G Y ho (fd_plain hd) hcd hmg hobj hints hlen hg) λr s' hq=>?_);obtain⟨rfl,h2,h3,h4⟩:=hq;exact⟨.inl ⟨.bool true,.bool true,[],rfl,λ_=>rfl,.bool true,Zo4 l _,λ_=>⟨List.Pairwise.nil,λ_ hm=>(nomatch hm)⟩⟩,h2,h3,h4⟩
end Xl
namespace L2
open PySem PySem.Spec PyProof.Rows
theorem Xm:∀{vs:List Yg} {ns:List Int},IntsAre vs ns->Vals (ns.map V.int) vs
 |_,_,.nil=>.nil|_,_,.cons n t h=>.cons ⟨t,rfl⟩ (Xm h)
def Only(H:Hp):Prop:=∀b,H b=Ye\/∃o xs,H b=Ya (.dB o (.lst xs))
theorem ZqC{P:cj}{w:bO}{K:Yb}{mg mb:aj->Option Yg}{CX:qm}{k:Nat}{fa a:Yz}{fd:mq}{x:aj}{sp:Sp}{s₁:Yh}{vs:List Yg}{ns:List Int}(KX:K.In s₁.heap)(hns:s₁.heap.Ns Ys mg)(hb:s₁.heap.Ns LK mb)(hbb:∀x:aj,x≠ "__name__" ->mb x=lg x)(hlim:s₁.heap.NoLimit)(hg:s₁.gens= #[])(ha:s₁.heap.get? a=Ya {cls:=.type "list",data:=.seq vs.toArray})(hi:IntsAre vs ns)(hl:ns.length<=bN)(hr:gJ k ud)(F:∀base:aY,K.In base->base.Ns Ys mg->o9 P w K mg base CX k fa fd [x] sp)(hbind:∀(s:Yh) (u:Yg),yj s fd ⟨[u],[]⟩ [(x,u)])(hsp:∀H:Hp,Only H->cL K H a (ns.map V.int)->sp [.ref a] H (λv _=>v= .bl true) λ_ _ _=>False)(Oh:∀H e s',CX [] H s₁ (λ_ _ _=>False) e s'->False):
  rF (aN P w) ud (.call (.ref fa) ⟨[.ref a],[]⟩) (λr s'=>r= .ok (.ret (.bool true))/\OldK s₁.heap s'.heap/\s'.os=s₁.os/\rJ s'.gens) s₁:=by
 have rv:=Xm hi;have lenV:=hi.length;have core:∀H:Hp,Only H->cL K H a (ns.map V.int)->eY P w H s₁.heap->(∀b,H b≠Ye->b=a)->(H a≠Ye->K.lookup a=Ye) ->
   rF (aN P w) ud (.call (.ref fa) ⟨[.ref a],[]⟩) (λr s'=>r= .ok (.ret (.bool true))/\OldK s₁.heap s'.heap/\s'.os=s₁.os/\rJ s'.gens) s₁:=by
  intro H hO hS hok hA hK;have R6:∀{b:Yz} {o:aV},s₁.heap.get? b=Ya o->H b=Ye->(rO s₁.heap H).get? b=Ya o:=λe n=>Zqn e n;have CZ:∀{b:Yz} {o:aV} {es:Array DictEntry} {ep:Nat},s₁.heap.get? b=Ya o->o.data= .dict es ep->H b=Ye:=λ{b o es ep} e d=>by
   cases q:H b with
   |none=>rfl|some u=>have e':b=a:=hA b (by rw[q];simp);subst e';rw[ha]at e;cases e;have d':Data.seq vs.toArray _=Data.dict es ep:=d;cases d'
  have Ht:∀{b:Yz} {m:aj->Option Yg},s₁.heap.Ns b m->(rO s₁.heap H).Ns b m:=λ{b m} ⟨o,es,ep,e,d,r⟩=>⟨o,es,ep,R6 e (CZ e d),d,r⟩;have Xn:K.In (rO s₁.heap H):=λb o e=>R6 (KX b o e) (by
   cases q:H b with
   |none=>rfl|some u=>have e':b=a:=hA b (by rw[q];simp);subst e';rw[hK (by rw[q];simp)]at e;cases e)
  have hM:Mod K mg (rO s₁.heap H):=⟨Xn,Ht hns,⟨mb,Ht hb,hbb⟩,let⟨mc,h1,h2⟩:=hlim;⟨mc,Ht h1,h2⟩⟩;have e0:v7 P w K mg (rO s₁.heap H) ud [] s₁ H:=⟨rfl,hM,λb o e=>ZsB e,oU (ZoI _ _),trivial,λb hb=>absurd (show b∈([]:List Yz)from hb) (by simp),hok,.of_eq hg⟩;refine Lw ((F _ Xn (Ht hns)).run ud [] s₁ H ⟨[.ref a],[]⟩ [.ref a] [.ref a] _ _ hr e0 (hbind s₁ (.ref a)) (.cons rfl .nil) (hsp H hO hS)) λr s' h=>?_;cases r with
  |error e=>exact(Oh H e s' h).elim|ok fl=>
   cases fl with
   |next=>exact jL h|brk=>exact jL h|cont=>exact jL h|ret u=>
    obtain⟨v,H',os,bare,un,hok',r',q⟩:=h;have q':v= .bl true:=q;subst q';obtain rfl:u=Value.bool true:=r';refine⟨rfl,OldK.of_keep λb o e=>?_,os,bare⟩;cases q:H b with
    |none=>exact un.keep b o e q (by intro z;exact absurd (show b∈([]:List Yz)from z) (by simp)) (by simp)|some u=>
     rcases hO b with z|⟨ob,xs,z⟩
     .rw[q]at z;cases z
     .have z2:=un.oR b ob _ z;obtain⟨e1,_⟩:=hok b _ z;obtain⟨e2,_⟩:=hok' b _ z2;rw[e]at e1;cases e1;exact e2
 cases hk:K.lookup a with
 |some o=>have e:=KX a o hk;rw[ha]at e;cases e;refine core (λ_=>Ye) (λ_=>.inl rfl) (.inr ⟨_,vs.toArray,_,hk,rfl,rfl,rfl,by rw[Yl,lenV];exact hl,by simpa using rv⟩) (λb u z=>by have z':(Ye:Option HO)=Ya u:=z;cases z') (λb z=>absurd rfl z) λz=>absurd rfl z|none=>
  refine core (λb=>if b=a then Ya (.dB {cls:=.type "list",data:=.seq vs.toArray} (.lst (ns.map V.int)))else Ye) (λb=>?_) (.inl (.inr ⟨{cls:=.type "list",data:=.seq vs.toArray},if_pos rfl⟩)) (λb u z=>?_) (λb z=>?_) λ_=>hk
  .by_cases hb:b=a
   .exact .inr ⟨_,_,if_pos hb⟩
   .exact .inl (if_neg hb)
  .by_cases hb:b=a
   .have z':=(if_pos hb).symm.trans z;cases z';subst hb;exact⟨ha,by rw[Yn];exact hl,vs,_,rv,ha⟩
   .have z':=(if_neg hb).symm.trans z;cases z'
  .by_cases hb:b=a
   .exact hb
   .exact absurd (if_neg hb) z
end L2
namespace L2
open PySem PySem.Spec PyProof.Rows
theorem ZoD{l:PySem.W.OpenLaw}{n k:Nat}{q:cj}{loose:List aj}{XP:(aj->Option Yg)->aY->Prop}{YP:bO->aY->Prop}{d:DefRec}{K:Params->Yb}{CX:bO->qm}{sp:bO->Sp}{x:aj}(hn:l.most=Ya n)(hn2:n<=bN)(hdf:d.params.defaults=[])(hr:gJ k ud)(hY:∀(w:bO) (h:aY),YP w h->(K w.params).In h)(F:∀(w:bO) (mg:aj->Option Yg) (fa:Yz) (h:aY),(K w.params).In h->h.Ns Ys mg->mg d.name=Ya (.ref fa) ->
   ∃fd:mq,(∀(s:Yh) (u:Yg),yj s fd ⟨[u],[]⟩ [(x,u)])/\
    ∀base:aY,(K w.params).In base->base.Ns Ys mg->o9 l.prog w (K w.params) mg base (CX w) k fa fd [x] (sp w))(hsp:∀(w:bO) (H:Hp) (a:Yz) (ns:List Int),ns.length<=n->Only H->cL (K w.params) H a (ns.map V.int)->sp w [.ref a] H (λv _=>v= .bl true) λ_ _ _=>False)(Oh:∀(w:bO) (H:Hp) (s:Yh) (e:Yg) (s':Yh),CX w [] H s (λ_ _ _=>False) e s'->False):
  TF q loose XP YP l.row.toRowW d [] (λf vs=>Mf f vs):=by
 refine Xl.Aat hn hdf λw s₀ s₁ mg mb fa o pm cd doc a vs ns G Y ho hd hcd hmg hobj hints hlen hg=>?_;have KX:=hY w _ Y;obtain⟨fd,hb,hF⟩:=F w mg fa _ KX G.T.g hmg;exact ZqC KX G.T.g G.T.b G.T.builtins G.T.nolimit hg hobj hints (Y4 hlen hn2) hr hF hb (λH hO hS=>hsp w H a ns hlen hO hS) λH e s'=>Oh w H s₁ e s'
end L2
/-THE LAST THEOREM (shape;LID,My.*are Aen):
  My.Adr:a structure of the addresses that your layer names (classes,functions);My.Txt K t:a structure (Prop) of the equations over K;
  My.AaS:{K} {implicit addresses ..} (e1:nsIn K Ys "law" =Ya (Ya (.ref f))) (e2:K.lookup f=Ya ⟨oc,od,.func (fnOf "law" "law" params body scope dV kV doc pm an cdv ct),sl⟩) (e3:codeIn K cdv "law" =true) ..:∃t,My.Txt K t
set_option maxRecDepth 100000 in
set_option maxHeartbeats 0 in
theorem PySem.Challenge.cw_LID_holds : PySem.Challenge.rw_LID.Holds := by
 w_on;o_law;k_head;(case hw=>w_witness2)
 k_fill
 refine L2.ZoD (l:=PySem.Challenge.rw_LID) (n:=63) (k:=40) (x:="script") (CX:=λw=>..) (sp:=λ_=>My.sp_law) rfl (by decide) rfl ⟨rfl,by decide,by decide⟩ (λw h Y=>PySem.W.kIn_of Y) ?F ?S ?C
 case F=>
  intro w mg fa h KX G hmg;have T:∃t,My.Txt (L2.KOf KX) t:=by
   dsimp only[L2.KOf]                          --K must stand as «<heap const>w.params» for k_is;refine' My.AaS ?e1 ?e2 ?e3 ..
   (case e1=>PySem.W.k_is)                    --in the order:a name->its address->its object->its parts
   (case e2=>PySem.W.k_is)
   ..
  obtain⟨t,T⟩:=T;have e0:=hmg.symm.trans (TJ KX G T.law);cases e0                                       --fa is the law's own address;exact⟨_,λs u=>.of_eq rfl,λbase kb nb=>My.AaT T kb nb⟩     --if «.of_eq rfl» comes too early:refine'⟨_,?b,λbase kb nb=>My.AaT T kb nb⟩;exactλs u=>.of_eq rfl
 case S=>exactλw H a ns hl hO hS=>..
 case C=>exact ..
(the tactic k_is has no namespace:write k_is) -/
namespace L2
open PySem PySem.Spec PyProof.Rows
noncomputable def dg(s:Yd1):Arguments:=match s with
 | .FunctionDef _ a _ _ _ _ _ _ _ _=>a|_=>{posonlyargs:=[],args:=[],vararg:=Ye,kwonlyargs:=[],kw_defaults:=[],kwarg:=Ye,defaults:=[]}
noncomputable def cM(s:Yd1):List Yd1:=match s with
 | .FunctionDef _ _ b _ _ _ _ _ _ _=>b|_=>[]
noncomputable def Zt(s:Yd1):Scope:=match s with
 | .FunctionDef _ _ _ _ _ _ sc _ _ _=>sc|_=>{kind:=.function,names:=[],isGenerator:=false,isCoroutine:=false}
noncomputable abbrev o_:qm:=λ_ _ _ _ _ _=>False
noncomputable abbrev E0:XK:=λ_ _ _=>False
theorem ZvC{X:Cx}:N_ o_ X E0:=λ_ _ _ _ _ _ _ h=>h.elim
structure uy(K:Yb)(x qual:aj)(st:Yd1)(f:Yz)(fd:mq):Prop where
 ex:∃(oc:Yg) (od:Option Yz) (dV kV doc pm:Yg) (an:Option Yz) (cdv ct:Yg) (osl:Array (Option Yg)),
  fd=tO x qual (dg st) (cM st) (Zt st) dV kV doc pm an cdv ct/\K.lookup f=Ya ⟨oc,od,.func fd,osl⟩/\Fv K cdv qual=true
 kp:Bm K (.ref f)=true
section
variable {P:cj} {w:bO} {K:Yb} {mg:aj->Option Yg} {base:aY}
theorem uy.ok{x qual:aj}{st:Yd1}{f:Yz}{fd:mq}{N ps:List aj}{k:Nat}{sp:Sp}(F:uy K x qual st f fd)(S:dD N ps (Zt st))(len:∀vs H Q E,sp vs H Q E->vs.length=ps.length)(hbody:∀(cdv:Yg) (A:cG) (outer:List gH) (s:Yh) (H:Hp) (vs:List V) (Q:VK) (E:XK),gJ k (A.deeper (o5 qual (Zt st) s.heap.objs.size f cdv))->sp vs H Q E ->
   ∃t,jt (uw o_ P w K mg base N qual (Zt st) f cdv A outer s H E).yF (cM st) t/\t {nx:=λ_ H'=>Q .non H',rt:=Q} (start N vs) H):o9 P w K mg base o_ (k+1) f fd ps sp:=by
 obtain⟨oc,od,dV,kV,doc,pm,an,cdv,ct,osl,rfl,lk,hcd⟩:=F.ex;refine ZuQ lk hcd S len λA outer s H vs Q E hr hsp=>?_;obtain⟨t,h,q⟩:=hbody cdv A outer s H vs Q E hr hsp;exact⟨t,h.yF,q⟩
theorem uy.binds{x qual:aj}{st:Yd1}{f:Yz}{fd:mq}{ps:List aj}(F:uy K x qual st f fd)(h:∀(dV kV doc pm:Yg) (an:Option Yz) (cdv ct:Yg) (us:List Yg),us.length=ps.length->bindArgs (tO x qual (dg st) (cM st) (Zt st) dV kV doc pm an cdv ct) ⟨us,[]⟩=pure (ps.zip us)):Binds K fd ps []:=by obtain⟨oc,od,dV,kV,doc,pm,an,cdv,ct,osl,rfl,lk,hcd⟩:=F.ex;exact .all (h dV kV doc pm an cdv ct)
theorem Xo{x qual:aj}{st:Yd1}{f:Yz}{oc:Yg}{od an:Option Yz}{osl:Array (Option Yg)}{dV kV doc pm cdv ct:Yg}(l:K.lookup f=Ya ⟨oc,od,.func (tO x qual (dg st) (cM st) (Zt st) dV kV doc pm an cdv ct),osl⟩)(c:Fv K cdv qual=true)(k:Bm K (.ref f)=true):uy K x qual st f (tO x qual (dg st) (cM st) (Zt st) dV kV doc pm an cdv ct):=⟨⟨oc,od,dV,kV,doc,pm,an,cdv,ct,osl,rfl,l,c⟩,k⟩
end
def Hu(H H':Hp):Prop:=∀b o,H b=Ya o->H' b=Ya o
theorem Hu.free{H H':Hp}(e:Hu H H'){l:Yz}(h:H' l=Option.none):H l=Option.none:=by
 cases q:H l with
 |none=>rfl|some o=>rw[e l o q]at h;cases h
theorem Hu.seq{K:Yb}{H H':Hp}{a:Yz}{xs:List V}(e:Hu H H')(h:cL K H a xs):cL K H' a xs:=by
 rcases h with(h|⟨o,h⟩)|h
 .exact .inl (.inl (e _ _ h))
 .exact .inl (.inr ⟨o,e _ _ h⟩)
 .exact .inr h
end L2
namespace L2
open PySem PySem.Spec PyProof.Rows
variable{o:Option V}{u:Yg}
section
variable {κ:Type} [DecidableEq κ]
noncomputable def jw(kvs:List (κ×V))(k:κ):Option V:=(kvs.find? λkv=>decide (kv.1=k)).map (·.2)
noncomputable def putK(kvs:List (κ×V))(k:κ)(v:V):List (κ×V):=if(kvs.any λkv=>decide (kv.1=k))=true then kvs.map (λkv=>if kv.1=k then(kv.1,v)else kv)else kvs++[(k,v)]
theorem Zqk{k:κ}:jw ([]:List (κ×V)) k=Ye:=rfl
theorem Hv{p:κ×V}{r:List (κ×V)}{k:κ}(e:p.1=k):jw (p::r) k=Ya p.2:=by simp[jw,vA,e]
theorem Hw{p:κ×V}{r:List (κ×V)}{k:κ}(e:¬p.1=k):jw (p::r) k=jw r k:=by simp[jw,vA,e]
theorem Xp(k:κ):∀kvs:List (κ×V),(kvs.any λkv=>decide (kv.1=k))=(jw kvs k).isSome
 |[]=>rfl|p::r=>by
  rw[mj];by_cases e:p.1=k
  .simp only[Hv e,decide_eq_true e,Bool.true_or,KD]
  .rw[Hw e,decide_eq_false e,Gs];exact Xp k r
theorem Oi(kvs:List (κ×V))(k:κ)(v:V):(putK kvs k v).length<=kvs.length+1:=by
 unfold putK;split
 .rw[Yn];exact Y6 _ _
 .rw[Y5,gW,x_];exact lA 0 43162452160 T1
theorem nH.AaG{u:Option Yg}(r:nH o u):o.isSome=u.isSome:=by
 cases o with
 |none=>cases u with
  |none=>rfl|some _=>exact(show False from r).elim
 |some _=>cases u with
  |none=>exact(show False from r).elim|some _=>rfl
theorem nH.getD{u:Option Yg}{d:V}{d':Yg}(r:nH o u)(rd:RelV d d'):RelV (o.getD d) (u.getD d'):=by
 cases o with
 |none=>cases u with
  |none=>exact rd|some _=>exact(show False from r).elim
 |some _=>cases u with
  |none=>exact(show False from r).elim|some _=>exact r
theorem KV.val{kvs:List (κ×V)}{vs:List (κ×Yg)}(r:KV kvs vs)(k:κ):nH (jw kvs k) (vK vs k):=by
 unfold KV at r
 induction r with
 |nil=>exact True.intro|@cons p q ps qs h t ih=>
  obtain⟨h1,h2⟩:=h;by_cases e:p.1=k
  .have e':q.1=k:=h1.symm.trans e;have b:vK (q::qs) k=Ya q.2:=by simp[vK,vA,e']
   rw[Hv e,b];exact h2
  .have e':¬q.1=k:=λz=>e (h1.trans z);have b:vK (q::qs) k=vK qs k:=by simp[vK,vA,e']
   rw[Hw e,b];exact ih
theorem KV.any{kvs:List (κ×V)}{vs:List (κ×Yg)}(r:KV kvs vs)(k:κ):(kvs.any λkv=>decide (kv.1=k))=vs.any λkv=>decide (kv.1=k):=by
 unfold KV at r
 induction r with
 |nil=>rfl|cons h t ih=>rw[mj,mj,ih,h.1]
theorem KV.repl{kvs:List (κ×V)}{vs:List (κ×Yg)}(r:KV kvs vs)(k:κ){y:V}(ry:RelV y u):
  KV (kvs.map λkv=>if kv.1=k then(kv.1,y)else kv) (vs.map λkv=>if kv.1=k then(kv.1,u)else kv):=by
 unfold KV at r ⊢
 induction r with
 |nil=>exact .nil|@cons p q ps qs h t ih=>
  rw[Yy,Yy];refine .cons ?_ ih;obtain⟨h1,h2⟩:=h;by_cases e:p.1=k
  .rw[if_pos e,if_pos (h1.symm.trans e)];exact⟨h1,ry⟩
  .rw[if_neg e,if_neg (λz=>e (h1.trans z))];exact⟨h1,h2⟩
theorem KV.put{kvs:List (κ×V)}{vs:List (κ×Yg)}(r:KV kvs vs)(k:κ){y:V}(ry:RelV y u):KV (putK kvs k y) (yo vs k u):=by
 unfold putK yo;rw[r.any k];by_cases e:(vs.any λkv=>decide (kv.1=k))=true
 .rw[if_pos e,if_pos e];exact r.repl k ry
 .rw[if_neg e,if_neg e];exact Paired.snoc r ⟨rfl,ry⟩
theorem KV.keys{kvs:List (κ×V)}{vs:List (κ×Yg)}(r:KV kvs vs):kvs.map (·.1)=vs.map (·.1):=by
 unfold KV at r
 induction r with
 |nil=>rfl|cons h t ih=>rw[Yy,Yy,ih,h.1]
theorem KV.length{kvs:List (κ×V)}{vs:List (κ×Yg)}(r:KV kvs vs):kvs.length=vs.length:=Nm r
end
variable{w:bO}
theorem C_{P:cj}{k:Key}(r:RelV (kV k) u):(fY P w).is k u=true:=by
 cases k with
 |inl i=>obtain⟨t,e⟩:=(show∃t,u=Value.int i t from r);subst e;exact ZlK P w i t|inr x=>obtain⟨t,e⟩:=(show∃t,u=Value.str x t from r);subst e;exact Zma P w x t
theorem Xq{P:cj}{w:bO}:∀{ks:List Key} {us:List Yg},Vals (ks.map kV) us->ItemsAre (fY P w) ks us
 |[],_,r=>by rw[yc]at r;cases r;exact .nil|k::ks,_,r=>by
  rw[Yy]at r;cases r with
  |cons h t=>exact .cons (C_ h) (Xq t)
noncomputable abbrev KT(H:Hp):List (List Key×V)->List (List Key×Yz×Yg)->Prop:=Paired λp q=>p.1=q.1/\H q.2.1=Ya (.tup (p.1.map kV))/\RelV p.2 q.2.2
variable{H:Hp}{xs:List (List Key×Yz×Yg)}{kvs:List (List Key×V)}
theorem KT.val(r:KT H kvs xs)(k:List Key):nH (jw kvs k) ((rG xs k).map (·.2)):=by
 induction r with
 |nil=>exact True.intro|@cons p q ps qs h t ih=>
  obtain⟨h1,_,h2⟩:=h;by_cases e:p.1=k
  .have e':q.1=k:=h1.symm.trans e;have b:rG (q::qs) k=Ya q.2:=by simp[rG,vA,e']
   rw[Hv e,b];exact h2
  .have e':¬q.1=k:=λz=>e (h1.trans z);have b:rG (q::qs) k=rG qs k:=by simp[rG,vA,e']
   rw[Hw e,b];exact ih
theorem KT.repl(r:KT H kvs xs)(k:List Key){y:V}(ry:RelV y u):
  KT H (kvs.map λkv=>if kv.1=k then(kv.1,y)else kv) (xs.map (putAt k u)):=by
 induction r with
 |nil=>exact .nil|@cons p q ps qs h t ih=>
  rw[Yy,Yy];refine .cons ?_ ih;obtain⟨h1,h2,h3⟩:=h;unfold putAt;by_cases e:p.1=k
  .rw[if_pos e,if_pos (h1.symm.trans e)];exact⟨h1,h2,ry⟩
  .rw[if_neg e,if_neg (λz=>e (h1.trans z))];exact⟨h1,h2,h3⟩
theorem KT.put(r:KT H kvs xs)(k:List Key){b:Yz}{y:V}(hb:H b=Ya (.tup (k.map kV)))(ry:RelV y u):
  KT H (putK kvs k y) (storedH xs k b u):=by
 have e:(kvs.any λkv=>decide (kv.1=k))=(rG xs k).isSome:=by rw[Xp,(r.val k).AaG,Option.isSome_map]
 unfold putK storedH;rw[e];by_cases q:(rG xs k).isSome=true
 .rw[if_pos q,if_pos q];exact r.repl k ry
 .rw[if_neg q,if_neg q];exact Paired.snoc r ⟨rfl,hb,ry⟩
theorem KT.keeps{H':Hp}(r:KT H kvs xs)(ht:∀b ys,H b=Ya (.tup ys)->H' b=Ya (.tup ys)):KT H' kvs xs:=Paired.Kq r λ_ _ z=>⟨z.1,ht _ _ z.2.1,z.2.2⟩
section
variable {P:cj} {w:bO} {H:Hp} {h:aY} {a:Yz}
theorem Xr{u:HO}(ok:eY P w H h)(e:Rd H a u):fP P w H h a u:=e.ok ok
theorem yI{kvs:List (Key×V)}(ok:eY P w H h)(e:Rd H a (.dK kvs)):kvs.length<=bN/\(a==pW)=false/\∃vs,KV kvs vs/\h.DictOf (fY P w) a vs:=show fP P w H h a (.dK kvs)from Xr ok e
theorem Xu{kvs:List (Key×V)}(ok:eY P w H h)(e:H a=Ya (.dK kvs)):kvs.length<=bN/\(a==pW)=false/\∃vs,KV kvs vs/\h.DictOf (fY P w) a vs:=yI ok (.inl e)
theorem Hx{ks:List Key}(ok:eY P w H h)(e:H a=Ya (.tup (ks.map kV))):(yh (fY P w)).is h ks a:=by obtain⟨_,its,r,o,h1,h2,n,h3⟩:=(show fP P w H h a (.tup (ks.map kV))from ok a _ e);exact⟨o,its.toArray,n,h1,h2.1,h3,by simpa using Xq r⟩
theorem Dc(ok:eY P w H h)(e:Rd H a (.dT kvs)):kvs.length<=bN/\(a==pW)=false/\
  ∃xs,KT H kvs xs/\h.DictOfH (yh (fY P w)) a xs:=by
 obtain⟨z,y,xs,r,o,es,ep,h1,h2,h3,h4,h5⟩:=(show fP P w H h a (.dT kvs)from Xr ok e);refine⟨z,y,xs,r,o,es,ep,h1,h2,h3,h4,λx hx=>?_,h5⟩;have all:∀{l:List (List Key×V)} {m:List (List Key×Yz×Yg)},KT H l m->∀x∈m,(yh (fY P w)).is h x.1 x.2.1:=by
  intro l m q
  induction q with
  |nil=>intro x hx;exact nomatch hx|@cons p q ps qs hq t ih=>
   intro x hx;rcases Y7.mp hx with e|hx
   .subst e;exact Hx ok (by rw[←hq.1];exact hq.2.1)
   .exact ih x hx
 exact all r x hx
theorem ZuY(ok:eY P w H h)(e:H a=Ya (.dT kvs)):kvs.length<=bN/\(a==pW)=false/\
  ∃xs,KT H kvs xs/\h.DictOfH (yh (fY P w)) a xs:=Dc ok (.inl e)
end
def rY(H:Hp)(a:Yz)(y:V)(r:Option V):Prop:=(∃kvs k,Rd H a (.dK kvs)/\y=kV k/\r=jw kvs k)\/∃kvs k b,Rd H a (.dT kvs)/\y= .ref b/\H b=Ya (.tup (k.map kV))/\r=jw kvs k
def v_(H:Hp)(a:Yz)(y v:V)(H':Hp):Prop:=
 (∃kvs k,H a=Ya (.dK kvs)/\y=kV k/\kvs.length<bN/\H'=upd H a (.dK (putK kvs k v)))\/
 ∃kvs k b,H a=Ya (.dT kvs)/\y= .ref b/\H b=Ya (.tup (k.map kV))/\kvs.length<bN/\H'=upd H a (.dT (putK kvs k v))
theorem rY.k{H:Hp}{a:Yz}{kvs:List (Key×V)}{k:Key}(e:H a=Ya (.dK kvs)):rY H a (kV k) (jw kvs k):=.inl ⟨kvs,k,.inl e,rfl,rfl⟩
theorem rY.t{a b:Yz}{k:List Key}(e:H a=Ya (.dT kvs))(eb:H b=Ya (.tup (k.map kV))):rY H a (.ref b) (jw kvs k):=.inr ⟨kvs,k,b,.inl e,rfl,eb,rfl⟩
theorem v_.k{H:Hp}{a:Yz}{kvs:List (Key×V)}{k:Key}{v:V}(e:H a=Ya (.dK kvs))(hl:kvs.length<bN):v_ H a (kV k) v (upd H a (.dK (putK kvs k v))):=.inl ⟨kvs,k,e,rfl,hl,rfl⟩
theorem v_.t{a b:Yz}{k:List Key}{v:V}(e:H a=Ya (.dT kvs))(eb:H b=Ya (.tup (k.map kV)))(hl:kvs.length<bN):
  v_ H a (.ref b) v (upd H a (.dT (putK kvs k v))):=.inr ⟨kvs,k,b,e,rfl,eb,hl,rfl⟩
variable{Q:Yg->Yh->Prop}
section
variable {X:Cx} {pins:List (Yz×aV)} {σ:St} {H:Hp} {s:Yh} {a:Yz} {y v:V} {u r:Yg} {o:Option V} {A:cG} {E:Yg->Yh->Prop}
theorem Inv.big(I:Inv X pins σ H s):pW<s.heap.objs.size:=by have h:Ys<s.heap.objs.size:=(I.mod.glob.keeps I.bk).lt;exact Fy (by decide) h
theorem ZoZ(hu:A.units+1<fX)(I:Inv X pins σ H s)(g:rY H a y (Ya v))(ry:RelV y u)(h:∀w' s',Inv X pins σ H s'->RelV v w'->Q w' s'):
  aA (aN X.prog X.w) A (pX (.ref a) u) Q E s:=by
 rcases g with⟨kvs,k,e,ey,l⟩|⟨kvs,k,b,e,ey,eb,l⟩
 .subst ey;obtain⟨z,hd,vs,rel,dd⟩:=yI I.hok e;obtain⟨w',hw,mD⟩:=nH.some_of (v:=v) (o:=vK vs k) (by rw[l];exact rel.val k);exact wpAny_getItem_of (C_ ry) dd.mapOf hw (h w' _ (I.tok _) mD)
 .subst ey;cases(show u=Value.ref b from ry);obtain⟨z,hd,xs,rel,dd⟩:=Dc I.hok e;obtain⟨w',hw,mD⟩:=nH.some_of (v:=v) (o:=(rG xs k).map (·.2)) (by rw[l];exact rel.val k);obtain⟨p,hp,hp2⟩:=Option.map_eq_some_iff.mp hw;refine wpAny_getItem_heap (Ln hu) (Hx I.hok eb) dd hp ?_;rw[hp2];exact h w' _ (I.tok _) mD
theorem Xv{h':aY}{t':Nat}{ob:HO}(I:Inv X pins σ H s)(mu:CJ (H a))(hs:yq a s.heap h')(he:∃q,h'.get? a=Ya q)(new:fP X.prog X.w (upd H a ob) h' a ob):
  Inv X pins σ (upd H a ob) {s with heap:=h',toks:=t'}:=
 I.write (x:=a) (e:=a) mu (.inl rfl) (λb q hb z=>(hs.2 b hb).trans z) he new
theorem Oj{P:cj}{H':Hp}{h':aY}{kvs:List (Key×V)}{vs:List (Key×Yg)}(z:kvs.length<=bN)(hd:(a==pW)=false)(rel:KV kvs vs)(dd:h'.DictOf (fY P w) a vs):
  fP P w H' h' a (.dK kvs):=⟨z,hd,vs,rel,dd⟩
theorem ZoS{H':Hp}{Q:Unit->Yh->Prop}(hu:A.units+1<fX)(I:Inv X pins σ H s)(g:v_ H a y v H')(ry:RelV y u)(rv:RelV v r)(h:∀s',Inv X pins σ H' s'->Q () s'):
  aA (aN X.prog X.w) A (vJ (.ref a) u r) Q E s:=by
 rcases g with⟨kvs,k,e,ey,l,eH⟩|⟨kvs,k,b,e,ey,eb,l,eH⟩
 .subst ey eH;obtain⟨z,hd,vs,rel,dd⟩:=Xu I.hok e;have hz:vs.length<=bN:=by rw[←rel.length];exact z
  have hl:(putK kvs k v).length<=bN:=by have:=Oi kvs k v;exact lC 2 563091983155201 T1 this l
  refine wpAny_setItem_pairs (hsz:=hz) (C_ ry) dd λh' qt hs=>h _ ?_;have he:∃q,h'.get? a=Ya q:=let⟨q,_,_,hq,_⟩:=qt;⟨q,hq⟩;exact Xv I (by rw[e];exact True.intro) hs he (Oj hl hd (rel.put k rv) qt)
 .subst ey eH;cases(show u=Value.ref b from ry);obtain⟨z,hd,xs,rel,dd⟩:=ZuY I.hok e;have hz:xs.length<=bN:=by rw[←Nm rel];exact z
  have hl:(putK kvs k v).length<=bN:=by have:=Oi kvs k v;exact lC 2 563091983155201 T1 this l
  refine wpAny_setItem_heap (hsz:=hz) (Ln hu) (Hx I.hok eb) dd λh' qt hs=>h _ ?_;obtain⟨q,es,ep,hq,h2,h3,h4,_,h5⟩:=qt;refine Xv I (by rw[e];exact True.intro) hs ⟨q,hq⟩ ⟨hl,hd,_,(rel.put k eb rv).keeps λc ys ec=>?_,q,es,ep,hq,h2,h3,h4,h5⟩;rw[bW (yE ec e (λz=>nomatch z))];exact ec
end
def Ol(i:Expr):Prop:=∀ov iv,Gj i false ov iv=operate [ov,iv] (pX ov iv)
theorem Zsp{prog:cj}{A:cG}{E:Yg->Yh->Prop}{s:Yh}{env:gH}{value slice:Expr}{pos:bQ}{T id:String}(hl:LR (.type T) "__getitem__" =pure (Ya (.builtin id)))(hs:Ol slice)(h:aA (aN prog w) A (bU value env) (λo s₁=>aA (aN prog w) A (bU slice env) (λi s₂=>s₂.TypeIs o T/\aA (aN prog w) A (pX o i) Q E s₂) E s₁) E s):
  aA (aN prog w) A (bU (.Subscript value slice pos) env) Q E s:=by
 refine MJ (j8 h (λo s₁ h₁=>j8 h₁ (λi s₂ h₂=>?_) λ_ _ x=>x) λ_ _ x=>x);obtain⟨hT,h₂⟩:=h₂;unfold Mx;refine Yf ?_;rw[getitemInPython_of_ne hT.not_modules];refine Yf (U5 hT hl ?_);have fin:aA (aN prog w) A (Gj slice false o i) (λr s₃=>aA (aN prog w) A (letTemporaryGo value o r>>=λ_=>pure r) Q E s₃) E s₂:=by rw[hs o i];exact wpAny_operating (j8 h₂ (λr s₃ h₃=>Yf (wpAny_letTemporaryGo (Yw h₃))) λ_ _ x=>x)
 first
  |exact Yw (Yf fin)
  |exact Yf (Yw (Yf fin))
  |exact Yf fin
theorem Zmo{X:Cx}{pins:List (Yz×aV)}{σ:St}{s:Yh}{a:Yz}{y:V}(I:Inv X pins σ H s)(g:rY H a y o):s.TypeIs (.ref a) "dict":=by
 rcases g with⟨kvs,k,e,_,_⟩|⟨kvs,k,b,e,_,_,_⟩
 .obtain⟨_,_,vs,_,dd⟩:=yI I.hok e;exact dd.typeIs
 .obtain⟨_,_,xs,_,dd⟩:=Dc I.hok e;exact dd.typeIs
def Zvb(td ty:TE):TE:=λσ H Q=>td σ H λx H1=>ty σ H1 λy H2=>∃a v,x= .ref a/\rY H2 a y (Ya v)/\Q v H2
def Zu9(td ty tv:TE):TS:=λD σ H=>tv σ H λv H1=>td σ H1 λx H2=>ty σ H2 λy H3=>∃a H4,x= .ref a/\v_ H3 a y v H4/\D.nx σ H4
section
variable {X:Cx} {o i e value:Expr} {pos pos' tpos:bQ} {td ty tv:TE}
theorem Zrv(hu:X.A.units+1<fX)(ho:PE X o td)(hi:PE X i ty)(hs:Ol i):PE X (.Subscript o i pos) (Zvb td ty):=by intro pins s σ H Q I h;refine Zsp PySem.F.slot_dict_getitem.lookup hs (a_ (ho pins s σ H _ I h) λu s1 ⟨x,H1,I1,rx,q1⟩=>a_ (hi pins s1 σ H1 _ I1 q1) λiv s2 ak=>?_);obtain⟨y,H2,I2,ry,a,v,ex,g,q2⟩:=ak;subst ex;obtain rfl:u=Value.ref a:=rx;exact⟨Zmo I2 g,ZoZ hu I2 g ry λw' s3 I3 mD=>⟨v,H2,I3,mD,q2⟩⟩
theorem ZrA(hu:X.A.units+1<fX)(ho:PE X o td)(hi:PE X i ty)(hv:PE X value tv)(hs:uc value (Ya (.Subscript o i pos')) pos.line X.env=pure false):
  PS X (.Assign [.Subscript o i pos'] value pos) (Zu9 td ty tv):=by
 intro pins s σ H D I h;refine wpAny_Assign_Subscript (a_ (hv pins s σ H _ I h) λr s1 ⟨v,H1,I1,rv,q1⟩=>a_ (ho pins s1 σ H1 _ I1 q1) λu s2 ⟨x,H2,I2,rx,q2⟩=>a_ (hi pins s2 σ H2 _ I2 q2) λiv s3 ak=>?_) hs;obtain⟨y,H3,I3,ry,a,H4,ex,g,q3⟩:=ak;subst ex;obtain rfl:u=Value.ref a:=rx;exact ZoS hu I3 g ry rv λs4 I4=>⟨σ,H4,I4,q3⟩
end
theorem Zp7{P:cj}(h:aY)(hb:pW<h.objs.size):fP P w H (h.push {cls:=.type "dict",data:=.dict #[]}) h.objs.size (.dK []):=⟨eV _,beq_eq_false_iff_ne.mpr (cU (dU hb)),[],.nil,V8 h⟩
def Zt9:TE:=λ_ H Q=>∀p,H p=Ye->Q (.ref p) (upd H p (.dK []))
section
variable {X:Cx} {pos:bQ}
theorem Zp3:PE X (.Dict [] [] pos) Zt9:=λpins s σ H Q I h=>wpAny_Dict_empty ⟨.ref s.heap.objs.size,_,I.laid (a:=s.heap.objs.size) (o:=.dK []) (t':=s.toks) (λ_ _ q=>Yo _ q) (Yk _) (Zp7 s.heap I.big),rfl,h _ (I.hok.fresh (Yk _))⟩
end
noncomputable def Dd(kvs more:List (Key×V)):List (Key×V):=more.foldl (λacc kv=>putK acc kv.1 kv.2) kvs
theorem KV.merge:∀{more:List (Key×V)} {rs:List (Key×Yg)} {kvs:List (Key×V)} {vs:List (Key×Yg)},KV more rs->KV kvs vs->KV (Dd kvs more) (merged vs rs):=by
 intro more rs kvs vs r;unfold KV at r
 induction r generalizing kvs vs with
 |nil=>intro q;exact q|@cons p q ps qs h t ih=>
  intro r0;have e:KV (putK kvs p.1 p.2) (yo vs q.1 q.2):=by have:=r0.put p.1 h.2;rw[←h.1];exact this
  exact ih e
theorem Xw:∀(more kvs:List (Key×V)),(Dd kvs more).length<=kvs.length+more.length
 |[],kvs=>by show kvs.length<=kvs.length+0;exact Y6 _ _|p::r,kvs=>by have h1:=Xw r (putK kvs p.1 p.2);have h2:=Oi kvs p.1 p.2;show(Dd (putK kvs p.1 p.2) r).length<=_;rw[gW];exact lD 2 0xa3c1c2030c201a1c001 T1 h2 h1
structure M1(X:Cx)(o:Expr)(m:aj)(apos:bQ)(e:Expr)(cpos:bQ):Prop where
 base:Gi o m X.env (bU o X.env)=bU o X.env
 few:((jq cpos (cF [e] X.env)).all (λx=>!x.1)&&(Gn cpos (Gk [] X.env)).all (λx=>x.1.isSome)
  &&decide (([e]:List Expr).length+([]:List Keyword).length+(if([]:List Keyword).isEmpty then 0 else 1)<30))=true
 line:(apos.endLine==cpos.line)=true
 trees:jq cpos (cF [e] X.env)=[(false,bU e X.env)]
structure M2(X:Cx)(o:Expr)(m:aj)(apos:bQ)(e f:Expr)(cpos:bQ):Prop where
 base:Gi o m X.env (bU o X.env)=bU o X.env
 few:((jq cpos (cF [e,f] X.env)).all (λx=>!x.1)&&(Gn cpos (Gk [] X.env)).all (λx=>x.1.isSome)
  &&decide (([e,f]:List Expr).length+([]:List Keyword).length+(if([]:List Keyword).isEmpty then 0 else 1)<30))=true
 line:(apos.endLine==cpos.line)=true
 trees:jq cpos (cF [e,f] X.env)=[(false,bU e X.env),(false,bU f X.env)]
def Om(H:Hp)(a:Yz):Prop:=(∃kvs,Rd H a (.dK kvs))\/∃kvs,Rd H a (.dT kvs)
theorem Zt3{X:Cx}{pins:List (Yz×aV)}{σ:St}{s:Yh}{a:Yz}(I:Inv X pins σ H s)(d:Om H a):
  s.TypeIs (.ref a) "dict" /\(∀b,Value.ref a= .ref b->∃ob,s.heap.get? b=Ya ob/\ob.dict=Ye)/\(a==pW)=false:=by
 rcases d with⟨kvs,e⟩|⟨kvs,e⟩
 .obtain⟨_,hd,vs,_,dd⟩:=yI I.hok e;refine⟨dd.typeIs,λb q=>?_,hd⟩;cases q;obtain⟨ob,_,_,h1,h2,_⟩:=dd;exact⟨ob,h1,h2.2.1⟩
 .obtain⟨_,hd,xs,_,dd⟩:=Dc I.hok e;refine⟨dd.typeIs,λb q=>?_,hd⟩;cases q;obtain⟨ob,_,_,h1,h2,_⟩:=dd;exact⟨ob,h1,h2.2.1⟩
section
variable {X:Cx} {pins:List (Yz×aV)} {σ:St} {H:Hp} {s:Yh} {a:Yz} {y d:V} {u r:Yg} {o:Option V} {A:cG} {E:Yg->Yh->Prop}
theorem Ztn(hu:A.units+1<fX)(I:Inv X pins σ H s)(g:rY H a y o)(ry:RelV y u)(rd:RelV d r)(h:∀w' s',Inv X pins σ H s'->RelV (o.getD d) w'->Q w' s'):
  aA (aN X.prog X.w) A (call (.builtin "dict.get") [.ref a,u,r]) Q E s:=by
 rcases g with⟨kvs,k,e,ey,l⟩|⟨kvs,k,b,e,ey,eb,l⟩
 .subst ey;obtain⟨z,hd,vs,rel,dd⟩:=yI I.hok e;refine Lz GK dd.typeIs M7 (Vs _ _ _) (meets_dict_get_default (fY X.prog X.w) a (C_ ry) hd r) ⟨_,dd.mapOf,h _ _ (I.tok _) ?_⟩;rw[l];exact(rel.val k).getD rd
 .subst ey;cases(show u=Value.ref b from ry);obtain⟨z,hd,xs,rel,dd⟩:=Dc I.hok e;refine Lz GK dd.typeIs M7 (Vs _ _ _) (meetsH_dict_get_default (yh (fY X.prog X.w)) a b hd r) ⟨Ln hu,k,xs,Hx I.hok eb,dd,h _ _ (I.tok _) ?_⟩;rw[l];exact(rel.val k).getD rd
end
def Zue(td ty tx:TE):TE:=λσ H Q=>td σ H λx H1=>∃a,x= .ref a/\Om H1 a/\ty σ H1 λy H2=>tx σ H2 λz H3=>∃o,rY H3 a y o/\Q (o.getD z) H3
section
variable {X:Cx} {o e f:Expr} {apos cpos:bQ} {td ty tx:TE}
theorem Zp4(hu:X.A.units+1<fX)(ho:PE X o td)(he:PE X e ty)(hf:PE X f tx)(m:M2 X o "get" apos e f cpos):PE X (.Call (.Attribute o "get" apos) [e,f] [] cpos) (Zue td ty tx):=by intro pins s σ H Q I h;refine wpAny_Call_method m.base m.few m.line PySem.F.plainAttrs_dict GK PySem.F.type_dict_get (a_ (ho pins s σ H _ I h) λu s1 ak=>?_);obtain⟨x,H1,I1,rx,a,ex,d,q1⟩:=ak;subst ex;obtain rfl:u=Value.ref a:=rx;obtain⟨t1,t2,_⟩:=Zt3 I1 d;refine⟨t1,t2,?_⟩;rw[m.trees];refine Vx rfl (Vy (Nf (a_ (he pins s1 σ H1 _ I1 q1) λiv s2 ⟨y,H2,I2,ry,q2⟩=>Nf (a_ (hf pins s2 σ H2 _ I2 q2) λfv s3 ⟨z,H3,I3,rz,ov,g,q3⟩=>Vz ?_))));exact Ztn hu I3 g ry rz λw' s4 I4 mD=>⟨_,H3,I4,mD,q3⟩
end
section
variable {X:Cx} {pins:List (Yz×aV)} {σ:St} {H:Hp} {s:Yh} {a:Yz} {kvs:List (Key×V)} {A:cG} {E:Yg->Yh->Prop}
theorem Zrf(I:Inv X pins σ H s)(e:Rd H a (.dK kvs))(h:∀p s',H p=Ye->Inv X pins σ (upd H p (.dK kvs)) s'->Q (.ref p) s'):aA (aN X.prog X.w) A (call (.type "dict") [.ref a]) Q E s:=by obtain⟨z,hd,vs,rel,dd⟩:=yI I.hok e;refine kt_call_dict hd dd (by rw[←rel.length];exact z) λh' qt hs=>?_;refine h _ _ (I.hok.fresh (Yk _)) (I.laid (a:=s.heap.objs.size) (o:=.dK kvs) (t':=s.toks) (λb q hq=>?_) (Yk _) (Oj z (beq_eq_false_iff_ne.mpr (cU (dU I.big))) rel qt));exact(hs.2 b (dU (Yv hq))).trans (Yo _ hq)
end
end L2
namespace L3
open PySem
variable{env:bI}{M:Store}{a b:D}{hi lo:Option Int}{it:jx}
noncomputable section
inductive D where
 |non|bl (b:Bool)|int (i:Int)|str (x:List Nat)|tup (ds:List D)|aQ (ds:List D)|ref (n:Nat)
 deriving Inhabited
noncomputable abbrev cN:=Sum Int (List Nat)
inductive MO where
 |lst (xs:List D)|dct (kvs:List (cN×D))|cC (kvs:List (cN×D))|ins (c:List Nat) (fs:List (List Nat×D))
 deriving Inhabited
noncomputable abbrev Store:=List MO
structure X3 where
 cls:List Nat
 arg:D
inductive R3(α:Type)where
 |ok (a:α) (M:Store)|exc (x:X3) (M:Store)|bad
@[simp] noncomputable def R3.bind{α β:Type}(r:R3 α)(k:α->Store->R3 β):R3 β:=match r with
 | .ok a M=>k a M|.exc x M=>.exc x M|.bad=>.bad
theorem R3.Fj{α β:Type}(a:α)(M:Store)(k:α->Store->R3 β):(R3.ok a M).bind k=k a M:=rfl
theorem ft{C:Prop}(h:false=true):C:=Mj h
theorem gP{α:Type}{C:Prop}{k:α}(h:Ye=Ya k):C:=by cases h
noncomputable def b7:Nat->D->Bool
 |_,.non=>true|_,.bl _=>true|_,.int _=>true|_,.str _=>true
 |n+1,.tup ds=>ds.all (b7 n)|_,_=>false
noncomputable abbrev DEEP:Nat:=60
mutual
noncomputable def eG:D->D->Bool
 | .non,.non=>true|.bl a,.bl b=>a==b|.int a,.int b=>a==b|.str a,.str b=>a==b
 | .tup a,.tup b=>fQ a b|.bl a,.int b=>(if a then 1 else 0)==b|.int a,.bl b=>a==(if b then 1 else 0)|_,_=>false
noncomputable def fQ:List D->List D->Bool
 |[],[]=>true|a::x,b::y=>eG a b&&fQ x y|_,_=>false
end
theorem wg:eG .non .non=true:=rfl
theorem wj(a b:Bool):eG (.bl a) (.bl b)=(a==b):=rfl
theorem uz(a b:Int):eG (.int a) (.int b)=(a==b):=rfl
theorem uD(a b:List Nat):eG (.str a) (.str b)=(a==b):=rfl
theorem qw(a b:List D):eG (.tup a) (.tup b)=fQ a b:=rfl
theorem yJ:fQ [] []=true:=rfl
theorem rZ(a b:D)(x y:List D):fQ (a::x) (b::y)=(eG a b&&fQ x y):=rfl
theorem Oo(n:Nat):b7 n .non=true:=by cases n<;>rfl
theorem Oq(n:Nat)(b:Bool):b7 n (.bl b)=true:=by cases n<;>rfl
theorem Ot(n:Nat)(i:Int):b7 n (.int i)=true:=by cases n<;>rfl
theorem Ou(n:Nat)(x:List Nat):b7 n (.str x)=true:=by cases n<;>rfl
theorem Ov(n:Nat)(ds:List D):b7 (n+1) (.tup ds)=ds.all (b7 n):=rfl
mutual
noncomputable def below(n:Nat):D->Bool
 | .tup ds=>dN n ds|.aQ ds=>dN n ds|.ref k=>k<n|.non=>true| .bl _=>true| .int _=>true| .str _=>true
noncomputable def dN(n:Nat):List D->Bool
 |[]=>true|d::ds=>below n d&&dN n ds
end
mutual
noncomputable def same:D->D->Bool
 | .non,.non=>true|.bl a,.bl b=>a==b|.int a,.int b=>a==b|.str a,.str b=>a==b
 | .tup a,.tup b=>yK a b|.aQ a,.aQ b=>yK a b|.ref a,.ref b=>a==b|_,_=>false
noncomputable def yK:List D->List D->Bool
 |[],[]=>true|a::x,b::y=>same a b&&yK x y|_,_=>false
end
mutual
theorem Xx:∀{a b:D},same a b=true->a=b
 | .non,b,h=>by cases b<;>first|exact rfl|exact ft h
 | .bl a,b,h=>by cases b<;>first|exact congrArg D.bl (beq_iff_eq.mp h)|exact ft h
 | .int a,b,h=>by cases b<;>first|exact congrArg D.int (beq_iff_eq.mp h)|exact ft h
 | .str a,b,h=>by cases b<;>first|exact congrArg D.str (beq_iff_eq.mp h)|exact ft h
 | .tup a,b,h=>by cases b<;>first|exact congrArg D.tup (Ow h)|exact ft h
 | .aQ a,b,h=>by cases b<;>first|exact congrArg D.aQ (Ow h)|exact ft h
 | .ref a,b,h=>by cases b<;>first|exact congrArg D.ref (beq_iff_eq.mp h)|exact ft h
theorem Ow:∀{x y:List D},yK x y=true->x=y
 |[],y,h=>by cases y<;>first|exact rfl|exact ft h
 |a::x,y,h=>by
  cases y with
  |nil=>exact ft h|cons b y=>exact have w:=vN.mp (h:(same a b&&yK x y)=true);congr (congrArg _ (Xx w.1)) (Ow w.2)
end
mutual
theorem Xy:∀(a:D),same a a=true
 | .non=>rfl|.bl a=>beq_self_eq_true a|.int a=>beq_self_eq_true a|.str a=>beq_self_eq_true a
 | .tup a=>Ox a|.aQ a=>Ox a|.ref a=>beq_self_eq_true a
theorem Ox:∀(x:List D),yK x x=true
 |[]=>rfl|a::x=>vN.mpr ⟨Xy a,Ox x⟩
end
theorem same_iff:same a b=true↔a=b:=⟨Xx,λh=>h▸Xy a⟩
noncomputable instance:DecidableEq D:=λa b=>decidable_of_iff (same a b=true) same_iff
noncomputable instance:DecidableEq MO:=λa b=>match a,b with
 | .lst x,.lst y=>if h:x=y then isTrue (by rw[h])else isFalse (by intro e;cases e;exact h rfl)|.dct x,.dct y=>if h:x=y then isTrue (by rw[h])else isFalse (by intro e;cases e;exact h rfl)|.cC x,.cC y=>if h:x=y then isTrue (by rw[h])else isFalse (by intro e;cases e;exact h rfl)|.ins c x,.ins d y=>if h:c=d/\x=y then isTrue (by rw[h.1,h.2])else isFalse (by intro e;cases e;exact h ⟨rfl,rfl⟩)
 | .ins _ _,.lst _=>isFalse (by intro e;cases e)|.ins _ _,.dct _=>isFalse (by intro e;cases e)|.ins _ _,.cC _=>isFalse (by intro e;cases e)|.lst _,.ins _ _=>isFalse (by intro e;cases e)
 | .dct _,.ins _ _=>isFalse (by intro e;cases e)|.cC _,.ins _ _=>isFalse (by intro e;cases e)|.lst _,.dct _=>isFalse (by intro e;cases e)|.lst _,.cC _=>isFalse (by intro e;cases e)
 | .dct _,.lst _=>isFalse (by intro e;cases e)|.dct _,.cC _=>isFalse (by intro e;cases e)|.cC _,.lst _=>isFalse (by intro e;cases e)|.cC _,.dct _=>isFalse (by intro e;cases e)
@[simp] noncomputable abbrev SZ:Nat:=1000000
noncomputable abbrev bI:=List (Option D)
noncomputable abbrev E3:=bI->Store->R3 D
noncomputable abbrev iK:=bI->Store->R3 (List D)
noncomputable abbrev F3:=List D->Store->R3 D
inductive O3 where
 |nx (env:bI) (M:Store)|rt (d:D) (M:Store)|bk (env:bI) (M:Store)|ct (env:bI) (M:Store)|exc (x:X3) (M:Store)|bad
noncomputable abbrev S3:=bI->Store->O3
@[simp] noncomputable def Za(i:Nat):E3:=λenv M=>match env[i]? with
 |some (Ya d)=>.ok d M|_=>.bad
@[simp] noncomputable def eC(d:D):E3:=λ_ M=>.ok d M
@[simp] noncomputable def e1(op:D->Store->R3 D)(f:E3):E3:=λenv M=>(f env M).bind op
@[simp] noncomputable def e2(op:D->D->Store->R3 D)(f g:E3):E3:=λenv M=>(f env M).bind λa M1=>(g env M1).bind λb M2=>op a b M2
@[simp] noncomputable def Zg:iK:=λ_ M=>.ok [] M
@[simp] noncomputable def Zb(f:E3)(g:iK):iK:=λenv M=>(f env M).bind λa M1=>(g env M1).bind λb M2=>.ok (a::b) M2
@[simp] noncomputable def alloc(o:MO)(M:Store):R3 D:=.ok (.ref M.length) (M++[o])
section
local instance (priority:=100000) Aev (p:Prop):Decidable p:=Yp p
@[simp] noncomputable def aR(g:iK):E3:=λenv M=>(g env M).bind λds M1=>if ds.length<=SZ then .ok (.tup ds) M1 else .bad
end
section
local instance (priority:=100000) Aew (p:Prop):Decidable p:=Yp p
@[simp] noncomputable def b8(g:iK):E3:=λenv M=>(g env M).bind λds M1=>if ds.length<=SZ then alloc (.lst ds) M1 else .bad
end
@[simp] noncomputable def eN(f g:E3):E3:=λenv M=>(f env M).bind λa M1=>match a with
 | .bl true=>g env M1|.bl false=>.ok (.bl false) M1|_=>.bad
@[simp] noncomputable def iM(f g:E3):E3:=λenv M=>(f env M).bind λa M1=>match a with
 | .bl false=>g env M1|.bl true=>.ok (.bl true) M1|_=>.bad
noncomputable def jj(a:D)(M:Store):R3 D:=match a with
 | .bl b=>.ok (.bl (!b)) M|_=>.bad
@[simp] theorem ZvT:∀b,jj (.bl b) M= .ok (.bl (!b)) M:=λ_=>rfl
@[simp] noncomputable def nP(c f g:E3):E3:=λenv M=>(c env M).bind λa M1=>match a with
 | .bl true=>f env M1|.bl false=>g env M1|_=>.bad
@[simp] noncomputable def aH(F:F3)(g:iK):E3:=λenv M=>(g env M).bind λds M1=>F ds M1
section
local instance (priority:=100000) Aex (p:Prop):Decidable p:=Yp p
noncomputable def aM(a b:D)(M:Store):R3 D:=match a,b with
 | .int i,.int j=>.ok (.int (i+j)) M|.str x,.str y=>if x.length+y.length<=SZ then .ok (.str (x++y)) M else .bad|.tup x,.tup y=>if x.length+y.length<=SZ then .ok (.tup (x++y)) M else .bad|.ref n,.ref m=>match M[n]?,M[m]? with
  |some (.lst x),Ya (.lst y)=>if x.length+y.length<=SZ then alloc (.lst (x++y)) M else .bad|_,_=>.bad
 |_,_=>.bad
@[simp] theorem qx:∀i j,aM (.int i) (.int j) M= .ok (.int (i+j)) M:=λ_ _=>rfl
@[simp] theorem qy:∀x y,aM (.str x) (.str y) M=(if x.length+y.length<=SZ then .ok (.str (x++y)) M else .bad):=λ_ _=>rfl
@[simp] theorem pg:∀x y,aM (.tup x) (.tup y) M=(if x.length+y.length<=SZ then .ok (.tup (x++y)) M else .bad):=λ_ _=>rfl
@[simp] theorem qz:∀n m,aM (.ref n) (.ref m) M=(match M[n]?,M[m]? with
  |some (.lst x),Ya (.lst y)=>if x.length+y.length<=SZ then alloc (.lst (x++y)) M else .bad|_,_=>.bad):=λ_ _=>rfl
end
noncomputable def eO(a b:D)(M:Store):R3 D:=match a,b with
 | .int i,.int j=>.ok (.int (i-j)) M|_,_=>.bad
@[simp] theorem ZuU:∀i j,eO (.int i) (.int j) M= .ok (.int (i-j)) M:=λ_ _=>rfl
section
local instance (priority:=100000) Aey (p:Prop):Decidable p:=Yp p
noncomputable def fK(i j:Int):Bool:=(decide (-(2^64)<i)&&decide (i<2^64))|| (decide (-(2^64)<j)&&decide (j<2^64))
end
section
local instance (priority:=100000) Aez (p:Prop):Decidable p:=Yp p
noncomputable def gY(a b:D)(M:Store):R3 D:=match a,b with
 | .int i,.int j=>if fK i j then .ok (.int (i*j)) M else .bad|.str x,.int k=>if x.length*k.toNat<=SZ/\k<1000000/\ -1000000<k then .ok (.str (Yj k.toNat x).flatten) M else .bad|.ref n,.int k=>match M[n]? with
  |some (.lst x)=>if x.length*k.toNat<=SZ/\k<1000000/\ -1000000<k then alloc (.lst (Yj k.toNat x).flatten) M else .bad|_=>.bad
 |_,_=>.bad
@[simp] theorem ZpZ:∀i j,gY (.int i) (.int j) M=(if fK i j then .ok (.int (i*j)) M else .bad):=λ_ _=>rfl
@[simp] theorem Zqc:∀x k,gY (.str x) (.int k) M=(if x.length*k.toNat<=SZ/\k<1000000/\ -1000000<k then .ok (.str (Yj k.toNat x).flatten) M else .bad):=λ_ _=>rfl
@[simp] theorem Zre:∀n k,gY (.ref n) (.int k) M=(match M[n]? with
  |some (.lst x)=>if x.length*k.toNat<=SZ/\k<1000000/\ -1000000<k then alloc (.lst (Yj k.toNat x).flatten) M else .bad|_=>.bad):=λ_ _=>rfl
end
noncomputable def aZ(a b:D)(M:Store):R3 D:=match a,b with
 | .int i,.int j=>if 0<j then .ok (.int (i % j)) M else .bad|_,_=>.bad
@[simp] theorem Xz:∀i j,aZ (.int i) (.int j) M=(if 0<j then .ok (.int (i % j)) M else .bad):=λ_ _=>rfl
section
local instance (priority:=100000) AeA (p:Prop):Decidable p:=Yp p
noncomputable def b_(a b:D)(M:Store):R3 D:=match a,b with
 | .int i,.int j=>if 0<j/\j<1073741824 then .ok (.int (i / j)) M else .bad|_,_=>.bad
@[simp] theorem XC:∀i j,b_ (.int i) (.int j) M=(if 0<j/\j<1073741824 then .ok (.int (i / j)) M else .bad):=λ_ _=>rfl
end
noncomputable def yL(a b:D)(M:Store):R3 D:=match a,b with
 | .int i,.int j=>if 0<=j/\j<=1000/\i.natAbs<1000 then .ok (.int (i^j.toNat)) M else .bad|_,_=>.bad
@[simp] theorem Zqo:∀i j,yL (.int i) (.int j) M=(if 0<=j/\j<=1000/\i.natAbs<1000 then .ok (.int (i^j.toNat)) M else .bad):=λ_ _=>rfl
noncomputable def mF(a:D)(M:Store):R3 D:=match a with
 | .int i=>.ok (.int (-i)) M|_=>.bad
@[simp] theorem Oz:∀i,mF (.int i) M= .ok (.int (-i)) M:=λ_=>rfl
noncomputable def yM(a b:D)(M:Store):R3 D:=match a,b with
 | .int i,.int j=>.ok (.bl (decide (i<j))) M|_,_=>.bad
@[simp] theorem Zv5:∀i j,yM (.int i) (.int j) M= .ok (.bl (decide (i<j))) M:=λ_ _=>rfl
noncomputable def nQ(a b:D)(M:Store):R3 D:=match a,b with
 | .int i,.int j=>.ok (.bl (decide (i<=j))) M|_,_=>.bad
@[simp] theorem XD:∀i j,nQ (.int i) (.int j) M= .ok (.bl (decide (i<=j))) M:=λ_ _=>rfl
noncomputable def lG(a b:D)(M:Store):R3 D:=match a,b with
 | .int i,.int j=>.ok (.bl (decide (j<i))) M|_,_=>.bad
@[simp] theorem Zsu:∀i j,lG (.int i) (.int j) M= .ok (.bl (decide (j<i))) M:=λ_ _=>rfl
noncomputable def Hy(a b:D)(M:Store):R3 D:=match a,b with
 | .int i,.int j=>.ok (.bl (decide (j<=i))) M|_,_=>.bad
@[simp] theorem Zwf:∀i j,Hy (.int i) (.int j) M= .ok (.bl (decide (j<=i))) M:=λ_ _=>rfl
noncomputable def kh(a b:D)(M:Store):Option Bool:=match a,b with
 | .ref n,.ref m=>match M[n]?,M[m]? with
  |some (.lst x),Ya (.lst y)=>if x.all (b7 DEEP)&&y.all (b7 DEEP)then Ya (fQ x y)else Ye|_,_=>Ye
 | .int i,.int j=>Ya (decide (i=j))|.str x,.str y=>Ya (decide (x=y))|.bl x,.bl y=>Ya (decide (x=y))|.tup x,.tup y=>if x.all (b7 DEEP)&&y.all (b7 DEEP)then Ya (fQ x y)else Ye
 |_,_=>Ye
@[simp] theorem nR:∀n m,kh (.ref n) (.ref m) M=(match M[n]?,M[m]? with
  |some (.lst x),Ya (.lst y)=>if x.all (b7 DEEP)&&y.all (b7 DEEP)then Ya (fQ x y)else Ye|_,_=>Ye):=λ_ _=>rfl
@[simp] theorem ph:∀i j,kh (.int i) (.int j) M=Ya (decide (i=j)):=λ_ _=>rfl
@[simp] theorem pq:∀x y,kh (.str x) (.str y) M=Ya (decide (x=y)):=λ_ _=>rfl
@[simp] theorem pA:∀x y,kh (.bl x) (.bl y) M=Ya (decide (x=y)):=λ_ _=>rfl
@[simp] theorem nT:∀x y,kh (.tup x) (.tup y) M=(if x.all (b7 DEEP)&&y.all (b7 DEEP)then Ya (fQ x y)else Ye):=λ_ _=>rfl
@[simp] noncomputable def aC(a b:D)(M:Store):R3 D:=match kh a b M with
 |some r=>.ok (.bl r) M|none=>.bad
@[simp] noncomputable def dw(a b:D)(M:Store):R3 D:=match kh a b M with
 |some r=>.ok (.bl (!r)) M|none=>.bad
noncomputable def su(a b:D)(M:Store):R3 D:=match b with
 | .non=>.ok (.bl (decide (a= .non))) M|_=>.bad
@[simp] theorem Zr9:su a (.non) M= .ok (.bl (decide (a= .non))) M:=rfl
noncomputable def lH(a b:D)(M:Store):R3 D:=match b with
 | .non=>.ok (.bl (!decide (a= .non))) M|_=>.bad
@[simp] theorem Zuj:lH a (.non) M= .ok (.bl (!decide (a= .non))) M:=rfl
noncomputable def gZ:D->Bool
 | .non=>true| .bl _=>true| .int _=>true| .str _=>true|_=>false
noncomputable def OD(a:D)(y:List Nat):Option Bool:=match a with
 | .str [c]=>Ya (decide (c∈y))|_=>Ye
@[simp] theorem ZwT{y:List Nat}:∀c,OD (.str [c]) y=Ya (decide (c∈y)):=λ_=>rfl
noncomputable def inD(a b:D):Option Bool:=match b with
 | .str y=>OD a y|.tup ys=>if gZ a&&ys.all gZ then Ya (ys.any λy=>eG y a)else Ye|_=>Ye
@[simp] theorem Zwq:∀y,inD a (.str y)=OD a y:=λ_=>rfl
@[simp] theorem Zw3:∀ys,inD a (.tup ys)=(if gZ a&&ys.all gZ then Ya (ys.any λy=>eG y a)else Ye):=λ_=>rfl
@[simp] noncomputable def qC(a b:D)(M:Store):R3 D:=match inD a b with
 |some r=>.ok (.bl r) M|none=>.bad
noncomputable def kE(n:Nat)(i:Int):Option Nat:=if 0<=i then(if i<n then Ya i.toNat else Ye)else if -(n:Int)<=i then Ya (i+n).toNat else Ye
noncomputable def cO{α:Type}(xs:List α)(i:Int):Option α:=(kE xs.length i).bind λj=>xs[j]?
noncomputable def gK:D->Option cN
 | .int i=>Ya (.inl i)|.str x=>Ya (.inr x)|_=>Ye
@[simp] theorem Zwz:gK .non=Ye:=rfl
@[simp] theorem ZwO(b:Bool):gK (.bl b)=Ye:=rfl
@[simp] theorem Zwm(x:List D):gK (.tup x)=Ye:=rfl
@[simp] theorem ZwZ(x:List D):gK (.aQ x)=Ye:=rfl
@[simp] theorem Zxd(n:Nat):gK (.ref n)=Ye:=rfl
@[simp] theorem Hz:∀i,gK (.int i)=Ya (.inl i):=λ_=>rfl
@[simp] theorem HB:∀x,gK (.str x)=Ya (.inr x):=λ_=>rfl
noncomputable def dW:List (cN×D)->cN->Option D
 |[],_=>Ye|(k,v)::r,x=>if k=x then Ya v else dW r x
section
local instance (priority:=100000) AeB (p:Prop):Decidable p:=Yp p
noncomputable def Ze(a b:D)(M:Store):R3 D:=match a,b with
 | .tup ds,.int i=>match cO ds i with
  |some d=>.ok d M|none=>.bad
 | .aQ ds,.int i=>match cO ds i with
  |some d=>.ok d M|none=>.bad
 | .str x,.int i=>match cO x i with
  |some c=>if x.length<=SZ then .ok (.str [c]) M else .bad|none=>.bad
 | .ref n,.int i=>match M[n]? with
  |some (.lst ds)=>match cO ds i with
   |some d=>.ok d M|none=>.bad
  |_=>.bad
 |_,_=>.bad
@[simp] theorem nU:∀ds i,Ze (.tup ds) (.int i) M=(match cO ds i with
  |some d=>.ok d M|none=>.bad):=λ_ _=>rfl
@[simp] theorem nW:∀ds i,Ze (.aQ ds) (.int i) M=(match cO ds i with
  |some d=>.ok d M|none=>.bad):=λ_ _=>rfl
@[simp] theorem nY:∀x i,Ze (.str x) (.int i) M=(match cO x i with
  |some c=>if x.length<=SZ then .ok (.str [c]) M else .bad|none=>.bad):=λ_ _=>rfl
@[simp] theorem nZ:∀n i,Ze (.ref n) (.int i) M=(match M[n]? with
  |some (.lst ds)=>match cO ds i with
   |some d=>.ok d M|none=>.bad
  |_=>.bad):=λ_ _=>rfl
end
noncomputable def fZ:Option MO->Option (List (cN×D))
 |some (.dct kvs)=>Ya kvs|some (.cC kvs)=>Ya kvs|_=>Ye
@[simp] theorem Zv2:fZ Ye=Ye:=rfl
@[simp] theorem Zwg(x:List D):fZ (Ya (.lst x))=Ye:=rfl
@[simp] theorem Zv0(c:List Nat)(f:List (List Nat×D)):fZ (Ya (.ins c f))=Ye:=rfl
@[simp] theorem XF:∀kvs,fZ (Ya (.dct kvs))=Ya kvs:=λ_=>rfl
@[simp] theorem XH:∀kvs,fZ (Ya (.cC kvs))=Ya kvs:=λ_=>rfl
noncomputable def n6(a b:D)(M:Store):R3 D:=match a with
 | .ref n=>match fZ M[n]?,gK b with
  |some kvs,Ya x=>match dW kvs x with
   |some d=>.ok d M|none=>.bad
  |_,_=>.bad
 |_=>.bad
@[simp] theorem XJ:∀n,n6 (.ref n) b M=(match fZ M[n]?,gK b with
  |some kvs,Ya x=>match dW kvs x with
   |some d=>.ok d M|none=>.bad
  |_,_=>.bad):=λ_=>rfl
noncomputable def aO(n d:Nat):Option Int->Nat
 |none=>d|some v=>if v<0 then(v+(n:Int)).toNat else iJ v.toNat n
noncomputable def cutD{α:Type}(xs:List α)(lo hi:Option Int):List α:=(xs.drop (aO xs.length 0 lo)).take (aO xs.length xs.length hi-aO xs.length 0 lo)
noncomputable abbrev sy:=bI->Store->R3 (Option Int)
@[simp] noncomputable def bB:sy:=λ_ M=>.ok Ye M
@[simp] noncomputable def bD(f:E3):sy:=λenv M=>(f env M).bind λa M1=>match a with
 | .int i=>.ok (Ya i) M1|_=>.bad
section
local instance (priority:=100000) AeC (p:Prop):Decidable p:=Yp p
noncomputable def yN(a:D)(lo hi:Option Int)(M:Store):R3 D:=match a with
 | .tup ds=>.ok (.tup (cutD ds lo hi)) M|.aQ ds=>alloc (.lst (cutD ds lo hi)) M|.str x=>if x.length<=SZ then .ok (.str (cutD x lo hi)) M else .bad|.ref n=>match M[n]? with
  |some (.lst ds)=>alloc (.lst (cutD ds lo hi)) M|_=>.bad
 |_=>.bad
@[simp] theorem lJ:∀ds,yN (.tup ds) lo hi M= .ok (.tup (cutD ds lo hi)) M:=λ_=>rfl
@[simp] theorem lK:∀ds,yN (.aQ ds) lo hi M=alloc (.lst (cutD ds lo hi)) M:=λ_=>rfl
@[simp] theorem lM:∀x,yN (.str x) lo hi M=(if x.length<=SZ then .ok (.str (cutD x lo hi)) M else .bad):=λ_=>rfl
@[simp] theorem lO:∀n,yN (.ref n) lo hi M=(match M[n]? with
  |some (.lst ds)=>alloc (.lst (cutD ds lo hi)) M|_=>.bad):=λ_=>rfl
end
@[simp] noncomputable def bj(f:E3)(lo hi:sy):E3:=λenv M=>(f env M).bind λa M1=>(lo env M1).bind λl M2=>(hi env M2).bind λh M3=>yN a l h M3
section
local instance (priority:=100000) AeD (p:Prop):Decidable p:=Yp p
noncomputable def bw(ds:List D)(M:Store):R3 D:=match ds with
 |[.tup x]=>.ok (.int x.length) M|[.aQ x]=>.ok (.int x.length) M|[.str x]=>if x.length<=SZ then .ok (.int x.length) M else .bad|[.ref n]=>match M[n]? with
  |some (.lst x)=>.ok (.int x.length) M|_=>.bad
 |_=>.bad
@[simp] theorem OJ:∀x,bw ([.tup x]) M= .ok (.int x.length) M:=λ_=>rfl
@[simp] theorem O1:∀x,bw ([.aQ x]) M= .ok (.int x.length) M:=λ_=>rfl
@[simp] theorem O2:∀x,bw ([.str x]) M=(if x.length<=SZ then .ok (.int x.length) M else .bad):=λ_=>rfl
@[simp] theorem wu:∀n,bw ([.ref n]) M=(match M[n]? with
  |some (.lst x)=>.ok (.int x.length) M|_=>.bad):=λ_=>rfl
end
noncomputable def dF(ds:List D)(M:Store):R3 D:=match ds with
 |[.tup x]=>.ok (.tup x) M|[.aQ x]=>.ok (.tup x) M|[.ref n]=>match M[n]? with
  |some (.lst x)=>.ok (.tup x) M|_=>.bad
 |_=>.bad
@[simp] theorem XM:∀x,dF ([.tup x]) M= .ok (.tup x) M:=λ_=>rfl
@[simp] theorem XQ:∀x,dF ([.aQ x]) M= .ok (.tup x) M:=λ_=>rfl
@[simp] theorem yO:∀n,dF ([.ref n]) M=(match M[n]? with
  |some (.lst x)=>.ok (.tup x) M|_=>.bad):=λ_=>rfl
noncomputable def sE(ds:List D)(M:Store):R3 D:=match ds with
 |[.tup x]=>alloc (.lst x) M|[.aQ x]=>alloc (.lst x) M|[.ref n]=>match M[n]? with
  |some (.lst x)=>alloc (.lst x) M|_=>.bad
 |_=>.bad
@[simp] theorem ZpX:∀x,sE ([.tup x]) M=alloc (.lst x) M:=λ_=>rfl
@[simp] theorem ZpU:∀x,sE ([.aQ x]) M=alloc (.lst x) M:=λ_=>rfl
@[simp] theorem Df:∀n,sE ([.ref n]) M=(match M[n]? with
  |some (.lst x)=>alloc (.lst x) M|_=>.bad):=λ_=>rfl
inductive Ty3 where
 |int|bool|str|list|tuple
 deriving DecidableEq
noncomputable def isB:D->Bool
 | .bl _=>true|_=>false
noncomputable def isT:D->Bool
 | .bl b=>b|_=>false
noncomputable def allB(l:List D):Option Bool:=if l.all isB then Ya (l.all isT)else Ye
noncomputable def Zws(ds:List D)(M:Store):R3 D:=match ds with
 | [.ref n]=>match M[n]? with
  |some (.lst x)=>match allB x with
   |some b=>.ok (.bl b) M|none=>.bad
  |_=>.bad
 |_=>.bad
@[simp] theorem Zwb:∀n,Zws ([.ref n]) M=(match M[n]? with
  |some (.lst x)=>match allB x with
   |some b=>.ok (.bl b) M|none=>.bad
  |_=>.bad):=λ_=>rfl
section
local instance (priority:=100000) Aeo (p:Prop):Decidable p:=Yp p
noncomputable def jy(o:D)(ds:List D)(M:Store):R3 D:=match o,ds with
 | .ref n,[d]=>match M[n]? with
  |some (.lst x)=>if x.length<SZ then .ok .non (M.set n (.lst (x++[d])))else .bad|_=>.bad
 |_,_=>.bad
@[simp] theorem ZnS:∀n d,jy (.ref n) ([d]) M=(match M[n]? with
  |some (.lst x)=>if x.length<SZ then .ok .non (M.set n (.lst (x++[d])))else .bad|_=>.bad):=λ_ _=>rfl
end
noncomputable def jz(a:D)(M:Store):Bool:=match a with
 | .ref n=>match M[n]? with
  |some (.lst _)=>true|_=>false
 |_=>false
@[simp] theorem Zs8:∀n,jz (.ref n) M=(match M[n]? with
  |some (.lst _)=>true|_=>false):=λ_=>rfl
noncomputable def yP(a:D)(M:Store):Bool:=match a with
 | .ref n=>(fZ M[n]?).isSome|_=>false
@[simp] theorem HD:∀n,yP (.ref n) M=(fZ M[n]?).isSome:=λ_=>rfl
@[simp] noncomputable def g8(ty:D->Store->Bool)(m:D->List D->Store->R3 D)(o:E3)(g:iK):E3:=λenv M=>(o env M).bind λa M1=>if ty a M1 then(g env M1).bind λds M2=>m a ds M2 else .bad
@[simp] noncomputable def au(b:List D->Store->R3 D)(g:iK):E3:=λenv M=>(g env M).bind λds M1=>b ds M1
noncomputable def putD(k:cN)(v:D)(kvs:List (cN×D)):List (cN×D):=if(kvs.any λp=>decide (p.1=k))=true then kvs.map (λp=>if p.1=k then(p.1,v)else p)else kvs++[(k,v)]
noncomputable abbrev O4:=bI->Store->R3 (List (cN×D))
@[simp] noncomputable def Zxs(f g:E3)(r:O4):O4:=λenv M=>(f env M).bind λa M1=>(g env M1).bind λb M2=>match gK a with
 |some k=>(r env M2).bind λl M3=>.ok ((k,b)::l) M3|none=>.bad
noncomputable def dictOf(l:List (cN×D)):List (cN×D):=l.foldl (λacc p=>putD p.1 p.2 acc) []
@[simp] noncomputable def ZxY(r:O4):E3:=λenv M=>(r env (M++[.dct []])).bind λl M1=>match M1[M.length]? with
 |some (.dct [])=>if l.length<=15 then .ok (.ref M.length) (M1.set M.length (.dct (dictOf l)))else .bad|_=>.bad
@[simp] noncomputable def O5:E3:=λ_ M=>alloc (.dct []) M
@[simp] noncomputable def e3(op:D->D->D->Store->R3 D)(f g h:E3):E3:=λenv M=>(f env M).bind λa M1=>(g env M1).bind λb M2=>(h env M2).bind λc M3=>op a b c M3
section
local instance (priority:=100000) Aep (p:Prop):Decidable p:=Yp p
noncomputable def XR(v a b:D)(M:Store):R3 D:=match a with
 | .ref n=>match M[n]?,gK b with
  |some (.dct kvs),Ya k=>if kvs.length<SZ then .ok .non (M.set n (.dct (putD k v kvs)))else .bad|_,_=>.bad
 |_=>.bad
@[simp] theorem XS{v:D}:∀n,XR v (.ref n) b M=(match M[n]?,gK b with
  |some (.dct kvs),Ya k=>if kvs.length<SZ then .ok .non (M.set n (.dct (putD k v kvs)))else .bad|_,_=>.bad):=λ_=>rfl
end
noncomputable def yQ(v a b:D)(M:Store):R3 D:=match a,b with
 | .ref n,.int i=>match M[n]? with
  |some (.lst xs)=>match kE xs.length i with
   |some j=>.ok .non (M.set n (.lst (xs.set j v)))|none=>.bad
  |_=>.bad
 |_,_=>.bad
@[simp] theorem Dg{v:D}:∀n i,yQ v (.ref n) (.int i) M=(match M[n]? with
  |some (.lst xs)=>match kE xs.length i with
   |some j=>.ok .non (M.set n (.lst (xs.set j v)))|none=>.bad
  |_=>.bad):=λ_ _=>rfl
noncomputable def wz(o:D)(ds:List D)(M:Store):R3 D:=match o,ds with
 | .ref n,[b]=>match fZ M[n]?,gK b with
  |some kvs,Ya k=>.ok ((dW kvs k).getD .non) M|_,_=>.bad
 | .ref n,[b,d]=>match fZ M[n]?,gK b with
  |some kvs,Ya k=>.ok ((dW kvs k).getD d) M|_,_=>.bad
 |_,_=>.bad
@[simp] theorem O6:∀n b,wz (.ref n) ([b]) M=(match fZ M[n]?,gK b with
  |some kvs,Ya k=>.ok ((dW kvs k).getD .non) M|_,_=>.bad):=λ_ _=>rfl
@[simp] theorem O7:∀n b d,wz (.ref n) ([b,d]) M=(match fZ M[n]?,gK b with
  |some kvs,Ya k=>.ok ((dW kvs k).getD d) M|_,_=>.bad):=λ_ _ _=>rfl
noncomputable def n8:List D->Option (List (cN×D))
 |[]=>Ya []|.tup [a,b]::r=>match gK a with
  |some k=>(n8 r).map λl=>(k,b)::l|none=>Ye
 |_::_=>Ye
theorem ZpY(i:Int)(b:D)(r:List D):n8 (.tup [.int i,b]::r)=(n8 r).map λl=>(.inl i,b)::l:=rfl
section
local instance (priority:=100000) Aeq (p:Prop):Decidable p:=Yp p
noncomputable def yR(ds:List D)(M:Store):R3 D:=match ds with
 |[.ref n]=>match fZ M[n]? with
  |some kvs=>alloc (.dct kvs) M|none=>.bad
 |[.tup x]=>match n8 x with
  |some l=>if l.length<=100000 then alloc (.dct (dictOf l)) M else .bad|none=>.bad
 |_=>.bad
@[simp] theorem HF:∀n,yR ([.ref n]) M=(match fZ M[n]? with
  |some kvs=>alloc (.dct kvs) M|none=>.bad):=λ_=>rfl
@[simp] theorem O8:∀x,yR ([.tup x]) M=(match n8 x with
  |some l=>if l.length<=100000 then alloc (.dct (dictOf l)) M else .bad|none=>.bad):=λ_=>rfl
end
noncomputable def Dh(ds:List D)(M:Store):R3 D:=match ds with
 |[.int i]=>.ok (.int i) M|[.bl b]=>.ok (.int (if b then 1 else 0)) M|_=>.bad
@[simp] theorem Zwl:∀i,Dh ([.int i]) M= .ok (.int i) M:=λ_=>rfl
@[simp] theorem Zv8:∀b,Dh ([.bl b]) M= .ok (.int (if b then 1 else 0)) M:=λ_=>rfl
noncomputable def iZ:List D->List D->Option Bool
 |[],[]=>Ya false|[],_::_=>Ya true|_::_,[]=>Ya false|.int i::x,.int j::y=>if i=j then iZ x y else Ya (decide (i<j))
 | .str a::x,.str b::y=>if a=b then iZ x y else Ya (decide (a<b))|_::_,_::_=>Ye
noncomputable def gQ:D->D->Option Bool
 | .tup a,.tup b=>iZ a b|.int i,.int j=>Ya (decide (i<j))|_,_=>Ye
def wA(a b:D):Prop:=gQ b a=Ya false
def Di(x y:List D):Prop:=y.Perm x/\y.Pairwise wA
noncomputable def XX:D->Bool
 | .tup (.int _::_)=>true|_=>false
noncomputable def Dj:D->Bool
 | .int _=>true|_=>false
structure HJ(x:List D):Prop where
 len:x.length<64
 kind:x.all XX=true\/x.all Dj=true
 cmp:∀a∈x,∀b∈x,(gQ a b).isSome=true
section
local instance (priority:=100000) AeE (p:Prop):Decidable p:=Yp p
noncomputable def wB(x:List D):List D:=if h:∃y,Di x y then h.choose else x
noncomputable def jN(ds:List D)(M:Store):R3 D:=match ds with
 |[.ref n]=>match M[n]? with
  |some (.lst x)=>if HJ x then alloc (.lst (wB x)) M else .bad|_=>.bad
 |_=>.bad
@[simp] theorem uE:∀n,jN ([.ref n]) M=(match M[n]? with
  |some (.lst x)=>if HJ x then alloc (.lst (wB x)) M else .bad|_=>.bad):=λ_=>rfl
end
noncomputable def aK:S3:=λenv M=>.nx env M
noncomputable def Zu(f g:S3):S3:=λenv M=>match f env M with
 | .nx env' M'=>g env' M'|o=>o
noncomputable def aD(c:E3)(f g:S3):S3:=λenv M=>match c env M with
 | .ok (.bl true) M1=>f env M1|.ok (.bl false) M1=>g env M1|.exc x M1=>.exc x M1|_=>.bad
noncomputable def aq(f:E3):S3:=λenv M=>match f env M with
 | .ok d M1=>.rt d M1|.exc x M1=>.exc x M1|.bad=>.bad
noncomputable def dJ(f:E3):S3:=λenv M=>match f env M with
 | .ok _ M1=>.nx env M1|.exc x M1=>.exc x M1|.bad=>.bad
noncomputable def ao(i:Nat)(f:E3):S3:=λenv M=>match f env M with
 | .ok d M1=>.nx (env.set i (Ya d)) M1|.exc x M1=>.exc x M1|.bad=>.bad
noncomputable def HN(o i f:E3):S3:=dJ (e3 XR f o i)
noncomputable def n_(o i f:E3):S3:=dJ (e3 yQ f o i)
noncomputable abbrev G3:=D->bI->Option bI
@[simp] noncomputable def dz(i:Nat):G3:=λd env=>Ya (env.set i (Ya d))
noncomputable def bindAll:List Nat->List D->bI->Option bI
 |[],[],env=>Ya env|i::is,d::ds,env=>bindAll is ds (env.set i (Ya d))|_,_,_=>Ye
@[simp] theorem HS:∀env,bindAll ([]) ([]) (env)=Ya env:=λ_=>rfl
@[simp] theorem HW:∀i is d ds env,bindAll (i::is) (d::ds) (env)=bindAll is ds (env.set i (Ya d)):=λ_ _ _ _ _=>rfl
@[simp] noncomputable def jA(is:List Nat):G3:=λd env=>match d with
 | .tup ds=>bindAll is ds env|_=>Ye
structure jx where
 items:List D
 lock:Option Nat
noncomputable abbrev I3:=bI->Store->R3 jx
section
local instance (priority:=100000) Aer (p:Prop):Decidable p:=Yp p
@[simp] noncomputable def jO(f:E3):I3:=λenv M=>(f env M).bind λa M1=>match a with
 | .tup ds=>.ok ⟨ds,Ye⟩ M1|.aQ ds=>.ok ⟨ds,Ye⟩ M1|.str x=>if x.length<=SZ then .ok ⟨x.map λc=>.str [c],Ye⟩ M1 else .bad|.ref n=>match M1[n]? with
  |some (.lst ds)=>.ok ⟨ds,Ya n⟩ M1|_=>.bad
 |_=>.bad
end
noncomputable def eQ(lo:Int)(n:Nat):List D:=(dm n).map λ(k:Nat)=>D.int (lo+(k:Int))
section
local instance (priority:=100000) Aes (p:Prop):Decidable p:=Yp p
@[simp] noncomputable def jP(f:E3):I3:=λenv M=>(f env M).bind λa M1=>match a with
 | .int j=>if j<=1000000/\ -1000000<=j then .ok ⟨eQ 0 j.toNat,Ye⟩ M1 else .bad|_=>.bad
end
noncomputable def locked(it:jx)(M:Store):Bool:=match it.lock with
 |none=>true|some n=>decide (M[n]?=Ya (.lst it.items))
noncomputable def mG(it:jx)(g:G3)(body:S3):List D->bI->Store->O3
 |[],env,M=>if locked it M then .nx env M else .bad|d::ds,env,M=>if locked it M then match g d env with
  |none=>.bad|some dO=>match body dO M with
   | .nx e M'=>mG it g body ds e M'|.ct e M'=>mG it g body ds e M'|.bk e M'=>.nx e M'|o=>o
  else .bad
theorem Dk{g:G3}{body:S3}:mG it g body [] env M=if locked it M then .nx env M else .bad:=rfl
theorem yS{g:G3}{body:S3}{d:D}{ds:List D}:mG it g body (d::ds) env M=if locked it M then match g d env with
  |none=>.bad|some dO=>match body dO M with
   | .nx e M'=>mG it g body ds e M'|.ct e M'=>mG it g body ds e M'|.bk e M'=>.nx e M'|o=>o
  else .bad:=rfl
noncomputable def sG(i:I3)(g:G3)(body:S3):S3:=λenv M=>match i env M with
 | .ok it M1=>mG it g body it.items env M1|.exc x M1=>.exc x M1|.bad=>.bad
noncomputable def mH(c:E3)(body:S3):Nat->bI->Store->O3
 |0,_,_=>.bad|n+1,env,M=>match c env M with
  | .ok (.bl true) M1=>match body env M1 with
   | .nx e M'=>mH c body n e M'|.ct e M'=>mH c body n e M'|.bk e M'=>.nx e M'|o=>o
  | .ok (.bl false) M1=>.nx env M1|.exc x M1=>.exc x M1|_=>.bad
theorem ZqK{c:E3}{body:S3}{n:Nat}:mH c body (n+1) env M=match c env M with
  | .ok (.bl true) M1=>match body env M1 with
   | .nx e M'=>mH c body n e M'|.ct e M'=>mH c body n e M'|.bk e M'=>.nx e M'|o=>o
  | .ok (.bl false) M1=>.nx env M1|.exc x M1=>.exc x M1|_=>.bad:=rfl
noncomputable def Dl(c:E3)(body:S3):S3:=mH c body 1000000
noncomputable def uF:List E3->bI->Store->R3 Bool
 |[],_,M=>.ok true M|c::cs,env,M=>(c env M).bind λa M1=>match a with
  | .bl true=>uF cs env M1|.bl false=>.ok false M1|_=>.bad
theorem HX:uF [] env M= .ok true M:=rfl
theorem HY{c:E3}{cs:List E3}:uF (c::cs) env M=(c env M).bind λa M1=>match a with
  | .bl true=>uF cs env M1|.bl false=>.ok false M1|_=>.bad:=rfl
section
local instance (priority:=100000) AaY (p:Prop):Decidable p:=Yp p
noncomputable def gR(it:jx)(g:G3)(ifs:List E3)(elt:E3)(n:Nat):List D->bI->Store->R3 D
 |[],_,M=>if locked it M then .ok (.ref n) M else .bad|d::ds,env,M=>if locked it M then match g d env with
  |none=>.bad|some dO=>(uF ifs dO M).bind λb M1=>if b then(elt dO M1).bind λe M2=>match M2[n]? with
    |some (.lst x)=>if x.length<SZ then gR it g ifs elt n ds dO (M2.set n (.lst (x++[e])))else .bad|_=>.bad
   else gR it g ifs elt n ds dO M1
  else .bad
theorem O9{g:G3}{ifs:List E3}{elt:E3}{n:Nat}:gR it g ifs elt n [] env M=if locked it M then .ok (.ref n) M else .bad:=rfl
theorem Dm{g:G3}{ifs:List E3}{elt:E3}{n:Nat}{d:D}{ds:List D}:gR it g ifs elt n (d::ds) env M=if locked it M then match g d env with
  |none=>.bad|some dO=>(uF ifs dO M).bind λb M1=>if b then(elt dO M1).bind λe M2=>match M2[n]? with
    |some (.lst x)=>if x.length<SZ then gR it g ifs elt n ds dO (M2.set n (.lst (x++[e])))else .bad|_=>.bad
   else gR it g ifs elt n ds dO M1
  else .bad:=rfl
end
noncomputable def gh(i:I3)(own:Nat)(g:G3)(ifs:List E3)(elt:E3):E3:=λenv M=>(i env M).bind λit M1=>gR it g ifs elt M1.length it.items (env++Yj own Ye) (M1++[.lst []])
noncomputable def keyV:cN->D
 | .inl i=>.int i|.inr x=>.str x
noncomputable def wC(f:E3)(own:Nat)(g:G3)(ifs:List E3)(elt:E3):E3:=λenv M=>(f env M).bind λa M1=>match a with
 | .ref n=>match M1[n]? with
  |some (.dct kvs)=>(gR ⟨kvs.map λq=>keyV q.1,Ye⟩ g ifs elt M1.length (kvs.map λq=>keyV q.1) (env++Yj own Ye) (M1.set n (.cC kvs)++[.lst []])).bind λv M2=>match M2[n]? with
   |some (.cC kvs')=>.ok v (M2.set n (.dct kvs'))|_=>.bad
  |_=>.bad
 |_=>.bad
noncomputable def yU(n:Nat):MO->Bool
 | .lst xs=>dN n xs|.dct kvs=>dN n (kvs.map (·.2))|.cC kvs=>dN n (kvs.map (·.2))|.ins _ fs=>dN n (fs.map (·.2))
noncomputable def gq(M:Store)(d:D)(M':Store):R3 D:=if below M.length d&&(decide (M'.take M.length=M)|| (M'.take M.length).all (yU M.length))then .ok d (M'.take M.length)else .ok d M'
noncomputable def bR(ps n:Nat)(body:S3):F3:=λds M=>if ds.length=ps then match body (ds.map Ya++Yj (n-ps) Ye) M with
  | .nx _ M'=>gq M .non M'|.rt d M'=>gq M d M'|.exc x M'=>.exc x M'|_=>.bad
 else .bad
end
theorem sH(i j:Int)(x y:List D):iZ (.int i::x) (.int j::y)=if i=j then iZ x y else Ya (decide (i<j)):=rfl
theorem sI(i j:List Nat)(x y:List D):iZ (.str i::x) (.str j::y)=if i=j then iZ x y else Ya (decide (i<j)):=rfl
theorem Dn(i j:Int):gQ (.int i) (.int j)=Ya (decide (i<j)):=rfl
theorem Dp(x y:List D):gQ (.tup x) (.tup y)=iZ x y:=rfl
variable{p:Prop}
theorem O_{_:Decidable p}(h:Ya (decide p)=Ya true):p:=of_decide_eq_true (Yq h)
theorem H_{_:Decidable p}(h:Ya (decide p)=Ya false):¬p:=of_decide_eq_false (Yq h)
theorem Ia{_:Decidable p}(h:¬p):Ya (decide p)=Ya false:=congrArg Ya (decide_eq_false h)
theorem lQ{b:Bool}(h:(Ye:Option Bool)=Ya b):p:=by cases h
theorem yV{d e:D}{x y:List D}{r:Bool}(h:iZ (d::x) (e::y)=Ya r):(∃i j,d= .int i/\e= .int j)\/∃i j,d= .str i/\e= .str j:=by
 cases d with
 |int i=>cases e with
  |int j=>exact .inl ⟨_,_,rfl,rfl⟩|_=>exact lQ h
 |str i=>cases e with
  |str j=>exact .inr ⟨_,_,rfl,rfl⟩|_=>exact lQ h
 |_=>cases e<;>exact lQ h
theorem Pa:∀(a b:List D),iZ a b=Ya true->iZ b a=Ya false
 |[],b,h=>by
  cases b with
  |nil=>exact rfl|cons _ _=>exact rfl
 |_::_,[],h=>ft (Yq h)|d::x,e::y,h=>by
  rcases yV h with⟨i,j,ed,ee⟩|⟨i,j,ed,ee⟩
  .rw[ed,ee]at h ⊢;rw[sH]at h ⊢;by_cases q:i=j
   .rw[if_pos q]at h;rw[if_pos q.symm];exact Pa x y h
   .rw[if_neg q]at h;rw[if_neg (cU q)];exact Ia λz=>iN [] [_,_] 2 25796087953 T1 z (O_ h)
  .rw[ed,ee]at h ⊢;rw[sI]at h ⊢;by_cases q:i=j
   .rw[if_pos q]at h;rw[if_pos q.symm];exact Pa x y h
   .rw[if_neg q]at h;rw[if_neg (cU q)];exact Ia λz=>List.lt_irrefl _ (List.lt_trans (O_ h) z)
theorem Pb:∀(a b c:List D),iZ b a=Ya false->iZ c b=Ya false->iZ c a=Ya false
 |[],b,c,h1,h2=>by cases c<;>exact rfl|_::_,[],c,h1,h2=>ft (Yq h1).symm|_::_,_::_,[],h1,h2=>ft (Yq h2).symm|d ::x,e::y,f::z,h1,h2=>by
  rcases yV h1 with⟨j,i,rfl,rfl⟩|⟨j,i,rfl,rfl⟩
  .rcases yV h2 with⟨k,j',rfl,e⟩|⟨k,j',rfl,e⟩
   .cases e
    simp only[sH,sI]at h1 h2 ⊢;by_cases e1:j=i
    .subst e1;simp only[if_true]at h1;by_cases e2:k=j
     .subst e2;simp only[if_true]at h2 ⊢;exact Pb x y z h1 h2
     .rw[if_neg e2]at h2 ⊢;exact h2
    .rw[if_neg e1]at h1;by_cases e2:k=j
     .subst e2;rw[if_neg e1];exact h1
     .rw[if_neg e2]at h2;simp only[nD,decide_eq_false_iff_not]at h1 h2;rw[if_neg (by exactλz=>iN [] [_,_] 2 26047746257 T1 h1 (Mq.2 ⟨(iN [] [_,_,_] 2 1271860891809 T1 z h2),e1⟩))];simp only[nD,decide_eq_false_iff_not];exactλz=>iN [] [_,_,_] 3 0x612d120d11091 T1 z h2 h1
   .cases e
  .rcases yV h2 with⟨k,j',rfl,e⟩|⟨k,j',rfl,e⟩
   .cases e
   .cases e
    simp only[sH,sI]at h1 h2 ⊢;by_cases e1:j=i
    .subst e1;simp only[if_true]at h1;by_cases e2:k=j
     .subst e2;simp only[if_true]at h2 ⊢;exact Pb x y z h1 h2
     .rw[if_neg e2]at h2 ⊢;exact h2
    .rw[if_neg e1]at h1;by_cases e2:k=j
     .subst e2;rw[if_neg e1];exact h1
     .rw[if_neg e2]at h2;simp only[nD,decide_eq_false_iff_not,Lh]at h1 h2;have h3:i<=k:=List.le_trans h1 h2;have ne:k≠i:=λz=>by subst z;exact e1 (Uq h2 h1)
      rw[if_neg ne];simp only[nD,decide_eq_false_iff_not,Lh];exact h3
theorem Pg:∀(a b:List D),iZ a b=Ya false->iZ b a=Ya false->a=b
 |[],[],_,_=>rfl|[],_::_,h,_=>ft (Yq h).symm|_::_,[],_,h=>ft (Yq h).symm|d::x,e::y,h1,h2=>by
  rcases yV h1 with⟨i,j,rfl,rfl⟩|⟨i,j,rfl,rfl⟩
  .simp only[sH,sI]at h1 h2;by_cases e1:i=j
   .subst e1;simp only[if_true]at h1 h2;rw[Pg x y h1 h2]
   .rw[if_neg e1]at h1;rw[if_neg (cU e1)]at h2;simp only[nD,decide_eq_false_iff_not]at h1 h2;exact(iN [] [_,_] 2 26047746257 T1 h1 (Mq.2 ⟨(vR.1 h2),e1⟩)).elim
  .simp only[sH,sI]at h1 h2;by_cases e1:i=j
   .subst e1;simp only[if_true]at h1 h2;rw[Pg x y h1 h2]
   .rw[if_neg e1]at h1;rw[if_neg (cU e1)]at h2;simp only[nD,decide_eq_false_iff_not,Lh]at h1 h2;exact absurd (Uq h2 h1) e1
theorem Ph(h:gQ a b=Ya true):gQ b a=Ya false:=by
 cases a with
 | int i=>cases b with
  |int j=>exact Ia λz=>iN [] [_,_] 2 25796087953 T1 z (O_ h)|_=>exact lQ h
 |tup x=>cases b with
  |tup y=>exact Pa _ _ h|_=>exact lQ h
 |_=>exact lQ h
theorem X4{c:D}(h1:gQ b a=Ya false)(h2:gQ c b=Ya false):gQ c a=Ya false:=by
 cases b with
 | int j=>cases a with
  | int i=>cases c with
   |int k=>exact Ia λz=>iN [] [_,_,_] 3 0x612d120d11091 T1 z (H_ h2) (H_ h1)|_=>exact lQ h2
  |_=>exact lQ h1
 | tup y=>cases a with
  |tup x=>cases c with
   |tup z=>exact Pb _ _ _ h1 h2|_=>exact lQ h2
  |_=>exact lQ h1
 |_=>exact lQ h1
theorem Zqx(h1:gQ a b=Ya false)(h2:gQ b a=Ya false):a=b:=by
 cases a with
 | int i=>cases b with
  |int j=>rw[show i=j by exact vP (vR.1 (H_ h2)) (vR.1 (H_ h1))]|_=>exact lQ h1
 |tup x=>cases b with
  |tup y=>rw[Pg _ _ h1 h2]|_=>exact lQ h1
 |_=>exact lQ h1
theorem X5:∀{x y:List D},y.Perm x->x.Pairwise wA->y.Pairwise wA->y=x
 |[],y,p,_,_=>p.eq_nil|a ::x,y,p,hx,hy=>by
  cases y with
  |nil=>exact(p.symm.eq_nil).symm▸rfl|cons b y=>
   have hx':=iW.mp hx;have hy':=iW.mp hy;have e:b=a:=by
    rcases Y7.mp (p.mem_iff.mp Ym)with h|h
    .exact h
    .rcases Y7.mp (p.mem_iff.mpr (Ym (a:=a) (l:=x)))with h'|h'
     .exact h'.symm
     .exact Zqx (hx'.1 b h) (hy'.1 a h')
   subst e;rw[X5 (Nj p) hx'.2 hy'.2]
theorem Pj{x y:List D}(h:Di x y):wB x=y:=by unfold wB;rw[dif_pos ⟨y,h⟩];have hc:=Exists.choose_spec (⟨y,h⟩:∃y,Di x y);exact X5 (hc.1.trans h.1.symm) h.2 hc.2
end L3
namespace L3
variable{it:jx}{i n:Nat}
theorem X6{elt:E3}{R:D->D->Prop}{env0:bI}:∀(ds:List D) (acc:List D) (env:bI) (M:Store),(∀d,env.set i (Ya d)=env0.set i (Ya d)) ->
  (∀d∈ds,∀x,∃e,elt (env0.set i (Ya d)) (M.set n (.lst x))= .ok e (M.set n (.lst x))/\R d e)->(∀x,locked it (M.set n (.lst x))=true)->M[n]?=Ya (.lst acc)->acc.length+ds.length<=SZ ->
  ∃es,es.length=ds.length/\(∀(j:Nat) d e,ds[j]?=Ya d->es[j]?=Ya e->R d e)/\gR it (dz i) [] elt n ds env M= .ok (.ref n) (M.set n (.lst (acc++es))):=by
 intro ds
 induction ds with
 | nil=>
  intro acc env M _ _ hl hM _;have e:M.set n (.lst acc)=M:=by
   apply rC;intro j;by_cases hj:j=n
   .subst hj;rw[Y2 (Yd.mp hM).1,hM]
   .rw[jH (cU hj)]
  have hl':=hl acc;rw[e]at hl';exact⟨[],rfl,λj d e h=>by simp at h,by simp only[O9,Dm,hl',if_true,Yr,e]⟩
 | cons d ds ih=>
  intro acc env M he hf hl hM hz;have hn:n<M.length:=(Yd.mp hM).1;have e:M.set n (.lst acc)=M:=by
   apply rC;intro j;by_cases hj:j=n
   .subst hj;rw[Y2 hn,hM]
   .rw[jH (cU hj)]
  have hl':=hl acc;rw[e]at hl';obtain⟨v,hf',hR⟩:=hf d Ym acc;rw[e]at hf';have hz':acc.length<SZ:=by simp at hz ⊢;exact lB 1 0xf42405b01f42405ba1c0c01 T1 hz
  obtain⟨es,le,re,h⟩:=ih (acc++[v]) (env0.set i (Ya d)) (M.set n (.lst (acc++[v]))) (λd'=>by rw[oY]) (λd' hd' x=>by rw[oY];exact hf d' (Yu _ hd') x) (λx=>by rw[oY];exact hl x) (by rw[Y2 hn]) (by simp at hz ⊢;exact lB 1 0xf42405b1a0cc0f42405ba1c0c01 T1 hz);refine⟨v::es,by simp[le],λj d' e' h1 h2=>?_,?_⟩
  .cases j with
   |zero=>simp at h1 h2;subst h1 h2;exact hR|succ j=>exact re j d' e' (by simpa using h1) (by simpa using h2)
  .simp only[Dm,hl',if_true,dz,he d,HX,HY,R3.Fj,hf',hM,hz'];rw[h,oY];simp
variable{body:S3}
theorem Pk{g:G3}{P:Nat->bI->Store->Prop}:∀(ds:List D) (j:Nat) (env:bI) (M:Store),P j env M->(∀j env M,P j env M->locked it M=true) ->
  (∀(k:Nat) d,ds[k]?=Ya d->∀env M,P (j+k) env M->∃dO e' M',g d env=Ya dO/\body dO M= .nx e' M'/\P (j+k+1) e' M')->∃e' M',mG it g body ds env M= .nx e' M'/\P (j+ds.length) e' M':=by
 intro ds
 induction ds with
 |nil=>intro j env M p hl _;exact⟨env,M,by simp only[Dk,yS,hl j env M p,if_true],p⟩|cons d ds ih=>
  intro j env M p hl hs;obtain⟨dO,e',M',h1,h2,p'⟩:=hs 0 d rfl env M p;obtain⟨e2,M2,h3,p2⟩:=ih (j+1) e' M' p' hl λk d' hd' env M p=>by have:=hs (k+1) d' (by simpa using hd') env M (by rw[show j+(k+1)=j+1+k by exact Yt (lB 0 1790139547840 T1) (lB 0 0xa1c0c1a0cc0 T1)];exact p);rw[show j+(k+1)+1=j+1+k+1 by exact Yt (lB 0 0xa1a0cccaa1c0cc0 T1) (lB 0 0xaa1c0cca1a0ccc0 T1)]at this;exact this
  exact⟨e2,M2,by simp only[Dk,yS,hl j env M p,if_true,h1,h2,h3],by rw[gW,show j+(ds.length+1)=j+1+ds.length by exact Yt (lB 0 1790139547840 T1) (lB 0 0xa1c0c1a0cc0 T1)];exact p2⟩
variable{env env':bI}{M M':Store}
theorem Zh{f g:S3}(h:f env M= .nx env' M'):Zu f g env M=g env' M':=by rw[Zu,h]
variable{d:D}
theorem cB{f g:S3}(h:f env M= .rt d M'):Zu f g env M= .rt d M':=by rw[Zu,h]
variable{c:E3}
theorem bG{f g:S3}(h:c env M= .ok (.bl true) M'):aD c f g env M=f env M':=by rw[aD,h]
theorem d9{f g:S3}(h:c env M= .ok (.bl false) M'):aD c f g env M=g env M':=by rw[aD,h]
variable{f:E3}
theorem cV(h:f env M= .ok d M'):aq f env M= .rt d M':=by rw[aq,h]
theorem Zz(h:f env M= .ok d M')(he:env.set i (Ya d)=env':=by first|(dsimp only[xW,xX]<;>exact rfl)|exact rfl):ao i f env M= .nx env' M':=by rw[ao,h];simp only[he]
theorem Zr{f:S3}(h:c env M= .ok (.bl false) M'):aD c f aK env M= .nx env M':=by rw[aD,h];rfl
theorem Dq(h:f env M= .ok d M'):dJ f env M= .nx env M':=by rw[dJ,h]
variable{u:S3}
theorem Ib{i:I3}{g:G3}(h:i env M= .ok it M'):sG i g u env M=mG it g u it.items env M':=by rw[sG,h]
variable{own:Nat}
theorem Dr{i:I3}{g:G3}{ts:List E3}(h:i env M= .ok it M'):gh i own g ts f env M=gR it g ts f M'.length it.items (env++Yj own Ye) (M'++[.lst []]):=by rw[gh,h];rfl
variable{ds:List D}
theorem lR{ps:Nat}(h:body env M= .rt d M')(hl:ds.length=ps:=by rfl)(he:ds.map Ya++Yj (n-ps) Ye=env:=by rfl):bR ps n body ds M=gq M d M':=by rw[bR,if_pos hl,he,h]
theorem Pn{G:Store}(h:below M.length d=true):gq M d (M++G)= .ok d M:=by simp[gq,h]
variable{α:Type}
theorem dM(M:List α)(x:α)(xs:List α):(M++x::xs)[M.length]?=Ya x:=by simp
theorem eZ(M xs:List α)(k:Nat):(M++xs)[M.length+k]?=xs[k]?:=by rw[tX (Y6 _ _)];congr 1;exact Yt (lC 1 2199589555233 T1 (Yc (Y6 _ _))) (lC 1 2267788938241 T1 (bZ _ _))
theorem wD(M xs:List α)(k:Nat)(o:α):(M++xs).set (M.length+k) o=M++xs.set k o:=by rw[Ue _ _ (Y6 _ _)];congr 2;exact Yt (lC 1 2199589555233 T1 (Yc (Y6 _ _))) (lC 1 2267788938241 T1 (bZ _ _))
theorem cP{M:List α}{o:α}(h:M[n]?=Ya o)(xs:List α):(M++xs)[n]?=Ya o:=by rw[kZ (Yd.mp h).1,h]
theorem mJ(xs:List α)(k:Nat):cO xs (k:Int)=xs[k]?:=by
 unfold cO kE;rw[if_pos (uo k)];by_cases h:k<xs.length
 .rw[if_pos (p8.2 h)];simp
 .rw[if_neg (by exactλz=>iN [_,_] [] 2 6667149772945 T1 z h)];simp at h ⊢;exact h
@[simp] theorem sJ(xs:List α)(k:Nat):cO xs (k:Int)=xs[k]?:=mJ xs k
@[simp] theorem Zqw(xs:List α)(n:Nat):cO xs (no_index (Ck n:Int))=xs[(Ck n:Nat)]?:=mJ xs n
@[simp] theorem Zpn(xs:List α):cO xs (-1)=xs.getLast?:=by
 unfold cO kE;rw[if_neg (by decide),T9];by_cases h:0<xs.length
 .rw[if_pos (by exact iN [_] [] 1 725993655825 T1 h)];simp only[iV];congr 1;exact Yt (iN [_,_,_] [] 2 0x200a2c10118a9c08a1 T1 (jh (iN [_] [] 1 595337940497 T1 h)) (bZ _ _)) (iN [_,_,_] [] 2 0x1200a2c211808a9c81 T1 (rH _) (Yc (lA 1 10489361 T1 h)))
 .have:xs=[]:=by simpa using h
  subst this;rfl
theorem X7(n k:Nat):kE n (k:Int)=if k<n then Ya k else Ye:=by
 unfold kE;rw[if_pos (uo k)];by_cases h:k<n
 .rw[if_pos (p8.2 h),if_pos h];simp
 .rw[if_neg (by exactλz=>iN [_,_] [] 2 6667149772945 T1 z h),if_neg h]
@[simp] theorem X8(n k:Nat):kE n (k:Int)=if k<n then Ya k else Ye:=X7 n k
@[simp] theorem Zwh(m n:Nat):kE m (no_index (Ck n:Int))=if(Ck n:Nat)<m then Ya (Ck n:Nat)else Ye:=X7 m n
theorem X_(xs:List α):cutD xs Ye (Ya (-1))=xs.dropLast:=by unfold cutD aO;simp only[Gb];rw[if_pos (by decide),KY];congr 1;omega
inductive Row where
 |put (a:Nat) (n:Int)|add (a b c:Nat)|sub (a b c:Nat)|more (a b c:Nat)|get (a b:Nat)|set (a b:Nat)|jump (k:Nat)|when (a k:Nat)|tell (a:Nat)|halt
 deriving Inhabited
noncomputable def Zq:Row->D
 | .put a n=>.tup [.str [112,117,116],.int a,.int n]|.add a b c=>.tup [.str [97,100,100],.int a,.int b,.int c]|.sub a b c=>.tup [.str [115,117,98],.int a,.int b,.int c]|.more a b c=>.tup [.str [109,111,114,101],.int a,.int b,.int c]
 | .get a b=>.tup [.str [103,101,116],.int a,.int b]|.set a b=>.tup [.str [115,101,116],.int a,.int b]|.jump k=>.tup [.str [106,117,109,112],.int k]|.when a k=>.tup [.str [119,104,101,110],.int a,.int k]
 | .tell a=>.tup [.str [116,101,108,108],.int a]|.halt=>.tup [.str [104,97,108,116]]
noncomputable def Row.ok(many:Nat):Row->Prop
 | .put a _=>a<8|.add a b c=>a<8/\b<8/\c<8|.sub a b c=>a<8/\b<8/\c<8|.more a b c=>a<8/\b<8/\c<8
 | .get a b=>a<8/\b<8|.set a b=>a<8/\b<8|.jump k=>k<many|.when a k=>a<8/\k<many
 | .tell a=>a<8|.halt=>True
noncomputable abbrev bJ:=List Row
noncomputable def Zn(r:bJ):D:=.tup (r.map Zq)
structure eU(r:bJ):Prop where
 rows:∀x∈r,x.ok r.length
 last:∃q x,r=q++[x]/\(x= .halt\/∃k,x= .jump k)
structure cW where
 place:Nat
 aF:List Int
 cells:List (Int×Int)
 deriving Inhabited,DecidableEq
noncomputable def Zk(bs:List Int):D:=.tup (bs.map D.int)
noncomputable def fU(c:Int×Int):D:=.tup [.int c.1,.int c.2]
noncomputable def gM(cs:List (Int×Int)):D:=.tup (cs.map fU)
noncomputable def cX(s:cW):D:=.tup [.int s.place,Zk s.aF,gM s.cells]
def cW.ok(r:bJ)(s:cW):Prop:=s.place<r.length/\s.aF.length=8
noncomputable def Row.tells(bs:List Int):Row->Option Int
 | .tell a=>bs[a]?|_=>Ye
noncomputable def Row.eF:Row->Bool
 | .halt=>true|_=>false
variable{a:Nat}
@[simp] theorem ZuG{n:Int}{bs:List Int}:(Row.put a n).tells bs=Ye:=rfl
@[simp] theorem Zux{n:Int}:(Row.put a n).eF=false:=rfl
variable{b:Nat}
@[simp] theorem ZuE{c:Nat}{bs:List Int}:(Row.add a b c).tells bs=Ye:=rfl
@[simp] theorem Zum{c:Nat}:(Row.add a b c).eF=false:=rfl
@[simp] theorem ZuK{c:Nat}{bs:List Int}:(Row.sub a b c).tells bs=Ye:=rfl
@[simp] theorem Zuu{c:Nat}:(Row.sub a b c).eF=false:=rfl
@[simp] theorem Ztb{c:Nat}{bs:List Int}:(Row.more a b c).tells bs=Ye:=rfl
@[simp] theorem ZsE{c:Nat}:(Row.more a b c).eF=false:=rfl
@[simp] theorem ZuI{bs:List Int}:(Row.get a b).tells bs=Ye:=rfl
@[simp] theorem Zti:(Row.get a b).eF=false:=rfl
@[simp] theorem ZuC{bs:List Int}:(Row.set a b).tells bs=Ye:=rfl
@[simp] theorem Zuc:(Row.set a b).eF=false:=rfl
@[simp] theorem Zub{k:Nat}{bs:List Int}:(Row.jump k).tells bs=Ye:=rfl
@[simp] theorem ZsV{k:Nat}:(Row.jump k).eF=false:=rfl
@[simp] theorem Zt7{k:Nat}{bs:List Int}:(Row.when a k).tells bs=Ye:=rfl
@[simp] theorem ZsK{k:Nat}:(Row.when a k).eF=false:=rfl
@[simp] theorem Zut{bs:List Int}:(Row.tell a).tells bs=bs[a]?:=rfl
@[simp] theorem ZsZ:(Row.tell a).eF=false:=rfl
@[simp] theorem Ztl{bs:List Int}:(Row.halt).tells bs=Ye:=rfl
@[simp] theorem ZsL :(Row.halt).eF=true:=rfl
noncomputable def jB(r:bJ)(s:cW):Bool:=match r[s.place]? with
 |some x=>x.eF|none=>false
theorem uG(n:Nat)(i:Int):b7 n (.int i)=true:=by cases n<;>rfl
theorem YB(n:Nat)(i:List Nat):b7 n (.str i)=true:=by cases n<;>rfl
theorem Pq(n:Nat)(bs:List Int):b7 (n+1) (Zk bs)=true:=by simp[Zk,Oo,Oq,Ot,Ou,Ov,uG]
mutual
theorem Zpp:∀(n:Nat) (d:D),b7 n d=true->eG d d=true
 |_,.non,_=>rfl|_,.bl b,_=>beq_self_eq_true b|_,.int b,_=>beq_self_eq_true b|_,.str b,_=>beq_self_eq_true b
 |0,.tup _,h=>ft h|n+1,.tup ds,h=>YC n ds (jJ.mp h)|n,.aQ _,h=>by cases n<;>exact ft h|n,.ref _,h=>by cases n<;>exact ft h
theorem YC:∀(n:Nat) (ds:List D),(∀d∈ds,b7 n d=true)->fQ ds ds=true
 |_,[],_=>rfl|n,d::ds,h=>by simp only[yJ,rZ,Y0];exact⟨Zpp n d (h d Ym),YC n ds λx hx=>h x (Yu _ hx)⟩
end
def Rt(o:O3)(d:D):Prop:=∃M',o= .rt d M'
theorem Rt.set{g:S3}{r:D}(h:f env M= .ok d M')(k:Rt (g env' M') r)(he:env.set i (Ya d)=env':=by first|(dsimp only[xW,xX]<;>exact rfl)|exact rfl):Rt (Zu (ao i f) g env M) r:=by rw[Rt,Zh (Zz h he)];exact k
theorem Rt.skip{g:S3}{r:D}(h:c env M= .ok (.bl false) M')(k:Rt (g env M') r):Rt (Zu (aD c u aK) g env M) r:=by rw[Rt,Zh (Zr h)];exact k
theorem Rt.loop{i:I3}{t:G3}{g:S3}{M M' M1:Store}{r:D}(h:i env M= .ok it M1)(hl:mG it t u it.items env M1= .nx env' M')(k:Rt (g env' M') r):Rt (Zu (sG i t u) g env M) r:=by rw[Rt,Zh ((Ib h).trans hl)];exact k
theorem Rt.ret(h:f env M= .ok d M'):Rt (aq f env M) d:=⟨M',cV h⟩
theorem Rt.law{ps:Nat}{b:Bool}(h:Rt (body env []) (.bl b))(hl:ds.length=ps:=by rfl)(he:ds.map Ya++Yj (n-ps) Ye=env:=by rfl):∃M',bR ps n body ds []= .ok (.bl b) M':=by obtain⟨M',h⟩:=h;exact⟨_,(lR h hl he).trans (by rw[gq,if_pos (by simp[below])])⟩
theorem Rt.pure{ps:Nat}{G:Store}(h:body env M= .rt d (M++G))(hd:below M.length d=true)(hl:ds.length=ps:=by rfl)(he:ds.map Ya++Yj (n-ps) Ye=env:=by rfl):bR ps n body ds M= .ok d M:=(lR h hl he).trans (Pn hd)
theorem Pr{α:Type}{enc:α->D}{P:Nat->α->Prop}:∀(es:List D),(∀(j:Nat) e,es[j]?=Ya e->∃a,e=enc a/\P j a)->∃as:List α,es=as.map enc/\∀(j:Nat) a,as[j]?=Ya a->P j a
 |[],_=>⟨[],rfl,λj a h=>by simp at h⟩|e::es,h=>by
  obtain⟨a,rfl,pa⟩:=h 0 e rfl;obtain⟨as,rfl,ps⟩:=Pr (enc:=enc) (P:=λj=>P (j+1)) es λj e he=>h (j+1) e (by simpa using he);refine⟨a::as,rfl,λj b hb=>?_⟩;cases j with
  |zero=>simp at hb;subst hb;exact pa|succ j=>exact ps j b (by simpa using hb)
variable{j:Nat}
theorem ZrI{lo:Int}(h:(eQ lo n)[j]?=Ya d):d= .int (lo+j)/\j<n:=by
 unfold eQ at h;rw[Yx]at h;cases q:(dm n)[j]? with
 |none=>rw[q]at h;cases h|some k=>rw[q]at h;obtain⟨hi,e⟩:=Yd.mp q;rw[Ui]at e;subst e;simp at h hi;exact⟨h.symm,hi⟩
theorem Ie(h:(eQ 0 n)[j]?=Ya d):d= .int (j:Int)/\j<n:=by obtain⟨e,l⟩:=ZrI h;exact⟨by rw[e,yw],l⟩
theorem Ds(lo:Int)(n:Nat):(eQ lo n).length=n:=by simp[eQ]
variable{xs:List D}
theorem YD{o arg:E3}{M M2:Store}{ys:List D}(ho:o env M= .ok (.ref n) M)(hM:M[n]?=Ya (.lst xs))(ha:arg env M= .ok d M2)(qD:M2[n]?=Ya (.lst ys))(hz:ys.length<1000000):
  g8 jz jy o (Zb arg Zg) env M= .ok .non (M2.set n (.lst (ys++[d]))):=by
 simp[ho,hM,ha,qD,hz]
variable{g:E3}
theorem Zv{op:D->D->Store->R3 D}{M M1 M2 M3:Store}{a b:D}(h1:f env M= .ok a M1)(h2:g env M1= .ok b M2)(h3:op a b M2= .ok d M3):e2 op f g env M= .ok d M3:=by simp only[e2,h1,h2,h3,R3.bind]
variable{F:F3}
theorem wF{M M1 M2:Store}{a:D}(h1:f env M= .ok a M1)(h2:F [a] M1= .ok d M2):aH F (Zb f Zg) env M= .ok d M2:=by simp only[aH,Zb,Zg,h1,h2,R3.bind]
theorem iz{M M1 M2 M3:Store}{a b:D}(h1:f env M= .ok a M1)(h2:g env M1= .ok b M2)(h3:F [a,b] M2= .ok d M3):aH F (Zb f (Zb g Zg)) env M= .ok d M3:=by simp only[aH,Zb,Zg,h1,h2,h3,R3.bind]
theorem jC{h:E3}{M M1 M2 M3 M4:Store}{a b c:D}(h1:f env M= .ok a M1)(h2:g env M1= .ok b M2)(h3:h env M2= .ok c M3)(h4:F [a,b,c] M3= .ok d M4):aH F (Zb f (Zb g (Zb h Zg))) env M= .ok d M4:=by simp only[aH,Zb,Zg,h1,h2,h3,h4,R3.bind]
@[simp] theorem ZwA(a b:Ty3):(a==b)=decide (a=b):=by cases a<;>cases b<;>rfl
theorem yW{f g h k:E3}{M M1 M2 M3 M4 M5:Store}{a b c e:D}(h1:f env M= .ok a M1)(h2:g env M1= .ok b M2)(h3:h env M2= .ok c M3)(h4:k env M3= .ok d M4)(h5:F [a,b,c,d] M4= .ok e M5):aH F (Zb f (Zb g (Zb h (Zb k Zg)))) env M= .ok e M5:=by simp only[aH,Zb,Zg,h1,h2,h3,h4,h5,R3.bind]
theorem fD{b:List D->Store->R3 D}{M M1 M2:Store}{a:D}(h1:f env M= .ok a M1)(h2:b [a] M1= .ok d M2):au b (Zb f Zg) env M= .ok d M2:=by simp only[au,Zb,Zg,h1,h2,R3.bind]
theorem uH{op:D->Store->R3 D}{M M1 M2:Store}{a:D}(h1:f env M= .ok a M1)(h2:op a M1= .ok d M2):e1 op f env M= .ok d M2:=by simp only[e1,h1,h2,R3.bind]
theorem dh{g:iK}{M M1 M2:Store}(h1:f env M= .ok d M1)(h2:g env M1= .ok ds M2):Zb f g env M= .ok (d::ds) M2:=by simp only[Zb,h1,h2,R3.bind]
theorem i_{g:iK}(h:g env M= .ok ds M')(hl:decide (ds.length<=100)=true):aR g env M= .ok (.tup ds) M':=by have:=of_decide_eq_true hl;simp only[aR,h,R3.bind];rw[if_pos (Y4 this (by decide))]
theorem mK(h:M[n]?=Ya (.lst xs)):bw [.ref n] M= .ok (.int (xs.length:Int)) M:=by simp only[OJ,O1,O2,wu,h]
theorem uI(h:M[n]?=Ya (.lst xs)):dF [.ref n] M= .ok (.tup xs) M:=by simp only[XM,XQ,yO,h]
theorem sO{i:Int}(h:M[n]?=Ya (.lst xs))(hd:cO xs i=Ya d):Ze (.ref n) (.int i) M= .ok d M:=by simp only[nU,nW,nY,nZ,h,hd]
theorem wG{i:Int}(hd:cO xs i=Ya d):Ze (.tup xs) (.int i) M= .ok d M:=by simp only[nU,nW,nY,nZ,hd]
theorem YF{a b:Int}(h:a<=b):nQ (.int a) (.int b) M= .ok (.bl true) M:=by simp only[XD,decide_eq_true h]
theorem YG{a b:Int}(h:¬a<=b):nQ (.int a) (.int b) M= .ok (.bl false) M:=by simp only[XD,decide_eq_false h]
theorem YH{a b:Int}(h:a=b):aC (.int a) (.int b) M= .ok (.bl true) M:=by simp only[aC,nR,ph,pq,pA,nT,decide_eq_true h]
theorem Zxb{a b:Int}(h:¬a=b):aC (.int a) (.int b) M= .ok (.bl false) M:=by simp only[aC,nR,ph,pq,pA,nT,decide_eq_false h]
theorem Ig{a b:List Nat}(h:¬a=b):dw (.str a) (.str b) M= .ok (.bl true) M:=by simp only[dw,nR,ph,pq,pA,nT,decide_eq_false h];rfl
theorem Ih{a b:List Nat}(h:a=b):dw (.str a) (.str b) M= .ok (.bl false) M:=by simp only[dw,nR,ph,pq,pA,nT,decide_eq_true h];rfl
theorem pB{i j:Int}(h:0<j):aZ (.int i) (.int j) M= .ok (.int (i % j)) M:=by simp only[Xz,if_pos h]
theorem uJ{M M1:Store}(h1:f env M= .ok (.bl false) M1):iM f g env M=g env M1:=by simp only[iM,h1,R3.bind]
theorem YJ{M M1:Store}(h1:f env M= .ok (.bl true) M1):iM f g env M= .ok (.bl true) M1:=by simp only[iM,h1,R3.bind]
theorem ou{M M1:Store}(h1:f env M= .ok (.bl true) M1):eN f g env M=g env M1:=by simp only[eN,h1,R3.bind]
theorem wH{M M1:Store}(h1:f env M= .ok (.bl false) M1):eN f g env M= .ok (.bl false) M1:=by simp only[eN,h1,R3.bind]
theorem YK{M M1:Store}(h1:c env M= .ok (.bl true) M1):nP c f g env M=f env M1:=by simp only[nP,h1,R3.bind]
theorem YL{M M1:Store}(h1:c env M= .ok (.bl false) M1):nP c f g env M=g env M1:=by simp only[nP,h1,R3.bind]
theorem ZuA{enc:α->D}{h:α->D}{it:I3}{elt:E3}{M M1:Store}{lock:Option Nat}{as:List α}(hi:it env M= .ok ⟨as.map enc,lock⟩ M1)(Bf:∀n,lock=Ya n->M1[n]?=Ya (.lst (as.map enc)))(he:∀a∈as,∀M,elt ((env++Yj own Ye).set i (Ya (enc a))) M= .ok (h a) M)(hz:as.length<=100000):gh it own (dz i) [] elt env M= .ok (.ref M1.length) (M1++[.lst (as.map h)]):=by
 rw [Dr hi];obtain⟨es,le,re,hh⟩:=X6 (it:=⟨as.map enc,lock⟩) (i:=i) (n:=M1.length) (elt:=elt) (R:=λd e=>∀a∈as,d=enc a->e=h a) (env0:=env++Yj own Ye) (as.map enc) [] (env++Yj own Ye) (M1++[.lst []]) (λ_=>rfl)
  (λd hd x=>by obtain⟨a,ha,rfl⟩:=iR.mp hd;refine⟨h a,he a ha _,λb hb e=>?_⟩;have h1:=he a ha [];have h2:=he b hb [];rw[e,h2]at h1;injection h1 with h1 _;exact h1.symm)
  (λx=>by
   cases lock with
   |none=>rfl|some n=>have hn:=Bf n rfl;have hlt:=(Yd.mp hn).1;simp only[locked,decide_eq_true_eq];rw[jH (by exactλz=>lB 2 25787699233 T1 z hlt),kZ hlt,hn]) (by simp) (by simp;exact lA 1 0xf42405b00186a05b001 T1 hz)
 rw [show(⟨as.map enc,lock⟩:jx).items=as.map enc from rfl,hh];have:es=as.map h:=by
  apply rC;intro j;rw[Yx];cases ha:as[j]? with
  |none=>
   have:as.length<=j:=by simpa using ha
   simp[le];exact this
  | some a=>
   have hj:j<es.length:=by have:=(Yd.mp ha).1;simpa[le]using this
   have h2:=re j (enc a) es[j] (by simp[ha]) (by simp[hj]) a (jo ha) rfl;rw[Yi hj,h2];rfl
 rw[this];simp
noncomputable def iT(t:List (Int×Int))(n v:Int):List (Int×Int):=if t.any (λp=>decide (p.1=n))=true then t.map (λp=>if p.1=n then(p.1,v)else p)else t++[(n,v)]
noncomputable def bF(t:List (Int×Int)):List (cN×D):=t.map λp=>(.inl p.1,.int p.2)
def keysOk(t:List (Int×Int)):Prop:=(t.map (·.1)).Nodup
noncomputable def dG:List (Int×Int)->Int->Int
 |[],_=>0|(k,v)::r,n=>if k=n then v else dG r n
theorem YM(t:List (Int×Int))(n v:Int):putD (.inl n) (.int v) (bF t)=bF (iT t n v):=by
 have ha:((bF t).any λp=>decide (p.1=(.inl n:cN)))=t.any λp=>decide (p.1=n):=by simp[bF,List.any_map,V6]
 unfold putD iT;rw[ha];by_cases c:(t.any λp=>decide (p.1=n))=true
 .rw[if_pos c,if_pos c];simp only[bF,oZ];apply Br;intro p _;by_cases e:p.1=n
  .simp[e]
  .simp[e]
 .rw[if_neg c,if_neg c];simp[bF]
theorem YQ(t:List (Int×Int))(n:Int):dW (bF t) (.inl n)=(if t.any (λp=>decide (p.1=n))=true then Ya (D.int (dG t n))else Ye):=by
 induction t with
 |nil=>rfl|cons p t ih=>
  obtain⟨k,v⟩:=p;show(if(Sum.inl k:cN)=Sum.inl n then Ya (D.int v)else dW (bF t) (.inl n))=_;by_cases e:k=n
  .simp[e,dG]
  .rw[if_neg (by simp[e]),ih];simp only[mj,dG,if_neg e,decide_eq_false e,Gs]
theorem wI{t:List (Int×Int)}{n:Int}(h:¬t.any (λp=>decide (p.1=n))=true):dG t n=0:=by
 induction t with
 |nil=>rfl|cons p t ih=>obtain⟨k,v⟩:=p;simp only[mj,ul,decide_eq_true_eq,not_or]at h;simp only[dG,if_neg h.1];exact ih (by simpa using h.2)
theorem Ii(t:List (Int×Int))(n:Int):(dW (bF t) (.inl n)).getD (.int 0)= .int (dG t n):=by
 rw[YQ];by_cases c:(t.any λp=>decide (p.1=n))=true
 .rw[if_pos c];rfl
 .rw[if_neg c,wI c];rfl
theorem Dt{t:List (Int×Int)}(n v:Int)(h:keysOk t):keysOk (iT t n v):=by
 unfold keysOk iT at *;by_cases c:(t.any λp=>decide (p.1=n))=true
 .rw[if_pos c,oZ];have:(t.map ((λx=>x.1) ∘ λp=>if p.1=n then(p.1,v)else p))=t.map (·.1):=by
   apply Br;intro p _;by_cases e:p.1=n<;>simp[e]
  rw[this];exact h
 .rw[if_neg c,Ga];refine Um.mpr ⟨h,by simp,λx hx y hy=>?_⟩;simp at hy;subst hy;rintro rfl;obtain⟨p,hp,e⟩:=iR.mp hx;exact c (nC.mpr ⟨p,hp,by simp[e]⟩)
theorem Zrm{t:List (Int×Int)}{n v:Int}(q:Int×Int):q∈iT t n v↔(q=(n,v))\/(q.1≠n/\q∈t):=by
 obtain⟨a,b⟩:=q;unfold iT;by_cases c:(t.any λp=>decide (p.1=n))=true
 .rw[if_pos c,iR];constructor
  .rintro⟨p,hp,e⟩;by_cases ep:p.1=n
   .rw[if_pos ep]at e;left;rw[←e,ep]
   .rw[if_neg ep]at e;right;rw[←e];exact⟨ep,hp⟩
  .rintro(e|⟨h1,h2⟩)
   .obtain⟨p,hp,ep⟩:=nC.mp c;have ep:p.1=n:=by simpa using ep
    exact⟨p,hp,by rw[if_pos ep,e,ep]⟩
   .exact⟨(a,b),h2,by rw[if_neg h1]⟩
 .rw[if_neg c,jK,oX];constructor
  .rintro(h|h)
   .right;refine⟨λz=>c (nC.mpr ⟨(a,b),h,by simpa using z⟩),h⟩
   .left;exact h
  .rintro(h|⟨_,h⟩)
   .right;exact h
   .left;exact h
theorem uK{t:List (Int×Int)}(h:keysOk t){k v:Int}(hm:(k,v)∈t):dG t k=v:=by
 induction t with
 |nil=>simp at hm|cons p t ih=>
  obtain⟨a,b⟩:=p;unfold keysOk at h;simp only[Yy,rD]at h;rcases Y7.mp hm with e|e
  .cases e;simp[dG]
  .have:a≠k:=λz=>h.1 (iR.mpr ⟨(k,v),e,z.symm⟩);simp only[dG,if_neg this];exact ih h.2 e
def iB(cs:List (Int×Int)):Prop:=cs.Pairwise λa b=>a.1<b.1
variable{cs:List (Int×Int)}
theorem iB.keys(h:iB cs):keysOk cs:=by unfold keysOk iB at *;rw[pU,Bs];exact h.imp λh=>(λz=>iN [] [_,_] 2 26047746225 T1 z h)
theorem YS:∀{x y:List (Int×Int)},iB x->iB y->(∀q,q∈x↔q∈y)->x=y
 |[],[],_,_,_=>rfl|[],b::y,_,_,h=>by have:=(h b).mpr Ym;simp at this|a::x,[],_,_,h=>by have:=(h a).mp Ym;simp at this|a ::x,b::y,hx,hy,h=>by
  have hx':=iW.mp hx;have hy':=iW.mp hy;have e:a=b:=by
   rcases Y7.mp ((h a).mp Ym)with e|e
   .exact e
   .rcases Y7.mp ((h b).mpr Ym)with e'|e'
    .exact e'.symm
    .have h1:=hy'.1 a e;have h2:=hx'.1 b e';exact(iN [] [_,_] 2 25796087953 T1 h2 h1).elim
  subst e;congr 1;refine YS hx'.2 hy'.2 λq=>?_;constructor
  .intro hq;rcases Y7.mp ((h q).mp (Yu _ hq))with e|e
   .subst e;have:=hx'.1 q hq;exact(iN [] [_] 1 393361 T1 this).elim
   .exact e
  .intro hq;rcases Y7.mp ((h q).mpr (Yu _ hq))with e|e
   .subst e;have:=hy'.1 q hq;exact(iN [] [_] 1 393361 T1 this).elim
   .exact e
noncomputable def wJ(p:Int×Int):List (Int×Int)->List (Int×Int)
 |[]=>[p]|q::r=>if p.1<q.1 then p::q::r else q::wJ p r
theorem Pu(p:Int×Int):∀r,(wJ p r).Perm (p::r)
 |[]=>.refl _|q::r=>by
  unfold wJ;split
  .exact .refl _
  .exact((Pu p r).cons q).trans (.swap p q r)
theorem YT{p:Int×Int}:∀{r:List (Int×Int)},iB r->(∀q∈r,q.1≠p.1)->iB (wJ p r)
 |[],_,_=>by simp[wJ,iB]|q::r,h,hn=>by
  have h':=iW.mp h;unfold wJ;split
  .rename_i c;refine iW.mpr ⟨λx hx=>?_,h⟩;rcases Y7.mp hx with e|e
   .subst e;exact c
   .have:=h'.1 x e;exact Int.lt_trans c this
  .rename_i c;refine iW.mpr ⟨λx hx=>?_,YT h'.2 λx hx=>hn x (Yu _ hx)⟩;rcases Y7.mp ((Pu p r).mem_iff.mp hx)with e|e
   .subst e;have:=hn q Ym;exact(Mq.2 ⟨(vR.1 c),this⟩)
   .exact h'.1 x e
noncomputable def e_:List (Int×Int)->List (Int×Int)
 |[]=>[]|p::t=>if p.2≠0 then wJ p (e_ t)else e_ t
theorem Ij:∀t:List (Int×Int),(e_ t).Perm (t.filter λp=>decide (p.2≠0))
 |[]=>.refl _|p::t=>by
  unfold e_;by_cases c:p.2≠0
  .rw[if_pos c,nq (by simpa using c)];exact(Pu p _).trans ((Ij t).cons p)
  .rw[if_neg c,oW (by simpa using c)];exact Ij t
theorem wK{t:List (Int×Int)}{q:Int×Int}:q∈e_ t↔q∈t/\q.2≠0:=by rw[(Ij t).mem_iff,iY];simp
theorem yX:∀{t:List (Int×Int)},keysOk t->iB (e_ t)
 |[],_=>by simp[e_,iB]|p::t,h=>by
  unfold keysOk at h;simp only[Yy,rD]at h;unfold e_;split
  .refine YT (yX h.2) λq hq=>?_;intro e;exact h.1 (iR.mpr ⟨q,(wK.mp hq).1,e⟩)
  .exact yX h.2
noncomputable def qF(cs:List (Int×Int))(n v:Int):List (Int×Int):=cs.filter (λc=>decide (c.1<n))++(if v≠0 then[(n,v)]else[])++cs.filter (λc=>decide (n<c.1))
theorem yZ{n v:Int}{q:Int×Int}:q∈qF cs n v↔(q=(n,v)/\v≠0)\/(q.1≠n/\q∈cs):=by
 unfold qF;simp only[jK,iY,decide_eq_true_eq];have hm:q∈(if v≠0 then[(n,v)]else[])↔(q=(n,v)/\v≠0):=by
  by_cases c:v≠0
  .rw[if_pos c];simp[c]
  .rw[if_neg c];simp[c]
 rw[hm];constructor
 .rintro((⟨h1,h2⟩|h)|⟨h1,h2⟩)
  .right;exact⟨(λz=>iN [] [_,_] 2 26047746225 T1 z h2),h1⟩
  .left;exact h
  .right;exact⟨(λz=>iN [] [_,_] 2 25796087969 T1 z h2),h1⟩
 .rintro(h|⟨h1,h2⟩)
  .left;right;exact h
  .rcases Int.lt_or_gt_of_ne h1 with c|c
   .left;left;exact⟨h2,c⟩
   .right;exact⟨h2,c⟩
theorem Px{n v:Int}(h:iB cs):iB (qF cs n v):=by
 unfold qF iB at *;have hm:∀q∈(if v≠0 then[(n,v)]else[]),q.1=n:=λq hq=>by
  by_cases c:v≠0
  .rw[if_pos c]at hq;simp at hq;rw[hq]
  .rw[if_neg c]at hq;simp at hq
 refine rn.mpr ⟨rn.mpr ⟨h.filter _,?_,λa ha b hb=>?_⟩,h.filter _,λa ha b hb=>?_⟩
 .by_cases c:v≠0
  .rw[if_pos c];simp
  .rw[if_neg c];simp
 .have h1:=(iY.mp ha).2;rw[hm b hb];simpa using h1
 .have h2:n<b.1:=by simpa using(iY.mp hb).2
  rcases jK.mp ha with ha|ha
  .have:a.1<n:=by simpa using(iY.mp ha).2
   exact Int.lt_trans this h2
  .rw[hm a ha];exact h2
theorem Zpt{t:List (Int×Int)}(h:keysOk t)(n v:Int):e_ (iT t n v)=qF (e_ t) n v:=by
 refine YS (yX (Dt n v h)) (Px (yX h)) λq=>?_;rw[wK,yZ,Zrm,wK];constructor
 .rintro⟨h1|⟨h1,h2⟩,h3⟩
  .left;refine⟨h1,?_⟩;rw[h1]at h3;exact h3
  .right;exact⟨h1,h2,h3⟩
 .rintro(⟨h1,h2⟩|⟨h1,h2,h3⟩)
  .exact⟨.inl h1,by rw[h1];exact h2⟩
  .exact⟨.inr ⟨h1,h2⟩,h3⟩
theorem Zpi{t:List (Int×Int)}(h:keysOk t)(n:Int):dG (e_ t) n=dG t n:=by
 by_cases c:(t.any λp=>decide (p.1=n))=true
 .obtain⟨p,hp,e⟩:=nC.mp c;have e:p.1=n:=by simpa using e
  obtain⟨a,b⟩:=p;simp only at e;subst e;rw[uK h hp];by_cases z:b=0
  .subst z;rw[wI];intro q;obtain⟨p',hp',e'⟩:=nC.mp q;have e':p'.1=a:=by simpa using e'
   obtain⟨a',b'⟩:=p';simp only at e';subst e';have h1:=(wK.mp hp').1;have h2:=(wK.mp hp').2;have:=uK h h1;rw[uK h hp]at this;exact h2 this.symm
  .exact uK (yX h).keys (wK.mpr ⟨hp,z⟩)
 .rw[wI c,wI];intro q;obtain⟨p',hp',e'⟩:=nC.mp q;exact c (nC.mpr ⟨p',(wK.mp hp').1,e'⟩)
noncomputable def Row.place(bs:List Int)(p:Nat):Row->Nat
 | .jump k=>k|.when a k=>if 0<bs.getD a 0 then k else p+1|_=>p+1
noncomputable def Row.aF(bs:List Int)(cs:List (Int×Int)):Row->List Int
 | .put a n=>bs.set a n|.add a b c=>bs.set a (bs.getD b 0+bs.getD c 0)|.sub a b c=>bs.set a (bs.getD b 0-bs.getD c 0)|.more a b c=>bs.set a (if bs.getD c 0<bs.getD b 0 then 1 else 0)
 | .get a b=>bs.set a (dG cs (bs.getD b 0))|_=>bs
noncomputable def Row.cells(bs:List Int)(cs:List (Int×Int)):Row->List (Int×Int)
 | .set a b=>qF cs (bs.getD a 0) (bs.getD b 0)|_=>cs
noncomputable def oA(s:cW)(r:Row):Option cW:=if r.eF then Ye else Ya ⟨r.place s.aF s.place,r.aF s.aF s.cells,r.cells s.aF s.cells⟩
noncomputable def gU(roll:bJ)(s:cW):Option cW:=(roll[s.place]?).bind (oA s)
noncomputable def Zx4:Option cW->D
 |none=>.non|some s=>cX s
theorem Zm9(cs:List (Int×Int)):n8 (cs.map fU)=Ya (bF cs):=by
 induction cs with
 |nil=>rfl|cons p cs ih=>rw[Yy,fU,ZpY,ih];rfl
theorem YW(kvs:List (cN×D))(k j:cN)(v:D):dW (putD k v kvs) j=if j=k then Ya v else dW kvs j:=by
 have mp:∀l:List (cN×D),dW (l.map λp=>if p.1=k then(p.1,v)else p) j=if j=k then(if l.any (λp=>decide (p.1=k))then Ya v else Ye)else dW l j:=by
  intro l
  induction l with
  |nil=>simp[dW]|cons p l ih=>
   obtain⟨a,b⟩:=p;rw[Yy];by_cases e:a=k
   .subst e;simp only[if_true,dW];by_cases ej:a=j
    .subst ej;simp
    .rw[if_neg ej,ih,if_neg (cU ej),if_neg (cU ej),if_neg ej]
   .simp only[if_neg e,dW];by_cases ej:a=j
    .subst ej;simp[e]
    .rw[if_neg ej,ih,if_neg ej];simp only[mj,decide_eq_false e,Gs]
 have ap:∀l:List (cN×D),¬l.any (λp=>decide (p.1=k))=true->dW (l++[(k,v)]) j=if j=k then Ya v else dW l j:=by
  intro l
  induction l with
  |nil=>intro _;simp only[vz,dW];by_cases e:k=j<;>simp[e,cU,eq_comm]|cons p l ih=>
   intro h;obtain⟨a,b⟩:=p;simp only[mj,ul,decide_eq_true_eq,not_or]at h;simp only[La,dW];by_cases ej:a=j
   .subst ej;rw[if_pos rfl,if_neg h.1,if_pos rfl]
   .rw[if_neg ej,if_neg ej];exact ih (by simpa using h.2)
 unfold putD;by_cases c:(kvs.any λp=>decide (p.1=k))=true
 .rw[if_pos c,mp,c];simp
 .rw[if_neg c];exact ap kvs c
theorem YX:∀(l acc:List (cN×D)) (j:cN),(l.map (·.1)).Nodup->dW (l.foldl (λa p=>putD p.1 p.2 a) acc) j=(match dW l j with|some v=>Ya v|none=>dW acc j)
 |[],acc,j,_=>rfl|p ::l,acc,j,h=>by
  obtain⟨k,v⟩:=p;simp only[Yy,rD]at h;rw[Le,YX l _ j h.2,YW];simp only[dW];by_cases e:k=j
  .subst e;have:dW l k=Ye:=by
    have hn:=h.1;clear h
    induction l with
    |nil=>rfl|cons q l ih=>simp only[Yy,Y7,not_or]at hn;simp only[dW];rw[if_neg (cU hn.1)];exact ih hn.2
   rw[this];simp
  .rw[if_neg e,if_neg (cU e)]
theorem ZoV{t:List (Int×Int)}(h:keysOk t):((bF t).map (·.1)).Nodup:=by unfold keysOk at h;simp only[bF,oZ];rw[pU,Bs]at *;exact h.imp λh e=>h (by simpa using e)
theorem Zph{t:List (Int×Int)}(h:keysOk t)(n:Int):(dW (dictOf (bF t)) (.inl n)).getD (.int 0)= .int (dG t n):=by unfold dictOf;rw[YX _ _ _ (ZoV h),←Ii];cases dW (bF t) (.inl n)<;>rfl
theorem Py{enc h:α->D}{p:α->Bool}{elt:E3}{env0:bI}:∀(as:List α) (acc:List D) (env:bI) (M:Store),(∀d,env.set i (Ya d)=env0.set i (Ya d)) ->
  (∀a∈as,∀x,c (env0.set i (Ya (enc a))) (M.set n (.lst x))= .ok (.bl (p a)) (M.set n (.lst x)))->(∀a∈as,p a=true->∀x,elt (env0.set i (Ya (enc a))) (M.set n (.lst x))= .ok (h a) (M.set n (.lst x))) ->
  (∀x,locked it (M.set n (.lst x))=true)->M[n]?=Ya (.lst acc)->acc.length+as.length<=SZ ->
  gR it (dz i) [c] elt n (as.map enc) env M= .ok (.ref n) (M.set n (.lst (acc++(as.filter p).map h))):=by
 intro as
 induction as with
 | nil=>
  intro acc env M _ _ _ hl hM _;have e:M.set n (.lst acc)=M:=by
   apply rC;intro j;by_cases hj:j=n
   .subst hj;rw[Y2 (Yd.mp hM).1,hM]
   .rw[jH (cU hj)]
  have hl':=hl acc;rw[e]at hl';simp only[yc,O9,hl',if_true,Us,Yr,e]
 | cons a as ih=>
  intro acc env M he hc hf hl hM hz;have hn:n<M.length:=(Yd.mp hM).1;have e:M.set n (.lst acc)=M:=by
   apply rC;intro j;by_cases hj:j=n
   .subst hj;rw[Y2 hn,hM]
   .rw[jH (cU hj)]
  have hl':=hl acc;rw[e]at hl';have hc':=hc a Ym acc;rw[e]at hc';rw[Yy];cases hp:p a with
  |false=>rw[hp]at hc';simp only[Dm,hl',if_true,dz,he (enc a),HX,HY,hc',R3.bind,jr,if_false];rw[ih acc (env0.set i (Ya (enc a))) M (λd'=>by rw[oY]) (λb hb x=>hc b (Yu _ hb) x) (λb hb=>hf b (Yu _ hb)) hl hM (by simp at hz ⊢;exact lB 1 0xf42405b10c0f42405ba1c0c01 T1 hz),oW (by simp[hp])]|true=>
   rw[hp]at hc';have hf':=hf a Ym hp acc;rw[e]at hf';have hz':acc.length<SZ:=by simp at hz ⊢;exact lB 1 0xf42405b01f42405ba1c0c01 T1 hz
   simp only[Dm,hl',if_true,dz,he (enc a),HX,HY,hc',R3.bind,hf',hM,hz'];rw[ih (acc++[h a]) (env0.set i (Ya (enc a))) (M.set n (.lst (acc++[h a]))) (λd'=>by rw[oY]) (λb hb x=>by rw[oY];exact hc b (Yu _ hb) x) (λb hb hpb x=>by rw[oY];exact hf b (Yu _ hb) hpb x) (λx=>by rw[oY];exact hl x) (by rw[Y2 hn]) (by simp at hz ⊢;exact lB 1 0xf42405b1a0cc0f42405ba1c0c01 T1 hz),nq hp,oY];simp
theorem ZoR{enc h:α->D}{p:α->Bool}{it:I3}{elt:E3}{M M1:Store}{lock:Option Nat}{as:List α}(hi:it env M= .ok ⟨as.map enc,lock⟩ M1)(Bf:∀n,lock=Ya n->M1[n]?=Ya (.lst (as.map enc)))(hc:∀a∈as,∀M,c ((env++Yj own Ye).set i (Ya (enc a))) M= .ok (.bl (p a)) M)(he:∀a∈as,p a=true->∀M,elt ((env++Yj own Ye).set i (Ya (enc a))) M= .ok (h a) M)(hz:as.length<=100000):
  gh it own (dz i) [c] elt env M= .ok (.ref M1.length) (M1++[.lst ((as.filter p).map h)]):=by
 rw [Dr hi];have:=Py (it:=⟨as.map enc,lock⟩) (i:=i) (n:=M1.length) (c:=c) (elt:=elt) (env0:=env++Yj own Ye) as [] (env++Yj own Ye) (M1++[.lst []]) (λ_=>rfl) (λa ha x=>hc a ha _) (λa ha hp x=>he a ha hp _)
  (λx=>by
   cases lock with
   |none=>rfl|some n=>have hn:=Bf n rfl;have hlt:=(Yd.mp hn).1;simp only[locked,decide_eq_true_eq];rw[jH (by exactλz=>lB 2 25787699233 T1 z hlt),kZ hlt,hn]) (by simp) (by simp;exact lA 1 0xf42405b00186a05b001 T1 hz)
 refine this.trans ?_;simp
theorem Znp{x y:List (Int×Int)}(hp:y.Perm x)(hr:iB y):Di (x.map fU) (y.map fU):=by refine⟨hp.map _,?_⟩;rw[Bs];refine hr.imp λ{a b} h=>?_;show(if b.1=a.1 then _ else _)=_;rw[if_neg (by omega),decide_eq_false (by exactλz=>iN [] [_,_] 2 25796087953 T1 z h)]
theorem Zlc{x:List (Int×Int)}(h:x.length<64):HJ (x.map fU):=by
 refine⟨by simpa using h,.inl (jJ.mpr λd hd=>by obtain⟨p,_,rfl⟩:=iR.mp hd;rfl),λa ha b hb=>?_⟩;obtain⟨p,_,rfl⟩:=iR.mp ha;obtain⟨q,_,rfl⟩:=iR.mp hb;simp only[Dn,Dp,fU,sH,sI];split
 .split
  .rfl
  .rfl
 .rfl
theorem ZnF(h:iB cs)(n v:Int):(qF cs n v).length<=cs.length+1:=by
 unfold qF;have f:(cs.filter (λc=>decide (c.1<n))).length+(cs.filter (λc=>decide (n<c.1))).length<=cs.length:=by
  clear h
  induction cs with
  |nil=>simp|cons c cs ih=>
   simp only[List.filter_cons];by_cases h1:c.1<n
   .have h2:¬n<c.1:=(λz=>iN [] [_,_] 2 25796087953 T1 z h1);simp only[h1,h2,decide_true,decide_false,if_true,jr,if_false,gW];exact lC 1 0xa2c1a0cc0210c01 T1 ih
   .by_cases h2:n<c.1
    .simp only[h1,h2,decide_true,decide_false,if_true,jr,if_false,gW];exact lC 1 0xa2ca1c0c0210c01 T1 ih
    .simp only[h1,h2,decide_false,jr,if_false,gW];exact lC 1 0xa2c10c0210c01 T1 ih
 rw[Y5,Y5];split <;>simp only[gW,x_]<;>omega
noncomputable def cY(roll:bJ):Nat->cW->List cW
 |0,s=>[s]|k+1,s=>match gU roll s with
  |none=>[s]|some s'=>s::cY roll k s'
variable{roll:bJ}{s:cW}
theorem YZ{s':cW}(k:Nat)(h:gU roll s=Ya s'):cY roll (k+1) s=s::cY roll k s':=by show(match gU roll s with|none=>[s]|some s'=>s::cY roll k s')=_;rw[h]
theorem Y_(k:Nat)(h:gU roll s=Ye):cY roll (k+1) s=[s]:=by show(match gU roll s with|none=>[s]|some s'=>s::cY roll k s')=_;rw[h]
structure Good(roll:bJ)(s:cW):Prop where
 pl:s.place<roll.length
 bx:s.aF.length=8
 rs:iB s.cells
theorem ZnN(h:s.place<roll.length):gU roll s=Ye↔jB roll s=true:=by
 have hr:roll[s.place]?=Ya roll[s.place]:=by simp[h]
 unfold gU jB;rw[hr];show oA s roll[s.place]=Ye↔roll[s.place].eF=true;unfold oA;split <;>simp_all
theorem Zpd(r:Row)(bs:List Int)(cs:List (Int×Int)):(r.aF bs cs).length=bs.length:=by cases r<;>simp[Row.aF]
theorem Ik(R:eU roll){s':cW}(g:Good roll s)(h:gU roll s=Ya s'):Good roll s'/\s'.cells.length<=s.cells.length+1:=by
 obtain⟨hp,hb,hc⟩:=g;have hr:roll[s.place]?=Ya roll[s.place]:=by simp[hp]
 have ro:=R.rows _ (Y1 hp);unfold gU at h;rw[hr]at h;have h':oA s roll[s.place]=Ya s':=h;unfold oA at h';split at h'
 .cases h'
 .rename_i nh;cases h';have nl:roll[s.place]≠ .halt->(∀k,roll[s.place]≠ .jump k)->s.place+1<roll.length:=λn1 n2=>by
   obtain⟨q,x,e,hx⟩:=R.last;have hl:roll.length=q.length+1:=by rw[e];simp
   by_cases c:s.place=q.length
   .have:roll[s.place]=x:=by
     have:=hr;simp only[e,c]at this;simp at this;simp[c,e]
    rw[this]at n1 n2;rcases hx with hx|⟨k,hx⟩
    .exact absurd hx n1
    .exact absurd hx (n2 k)
   .exact lC 2 0xa2c11211a1c031 T1 hl (iG (lC 2 316668234547233 T1 hl hp) c)
  have Il:roll[s.place]≠ .halt:=λz=>by rw[z]at nh;simp at nh
  refine⟨⟨?_,by rw[Zpd];exact hb,?_⟩,?_⟩
  .generalize roll[s.place]=r at ro nl Il;cases r with
   |jump k=>exact ro|when a k=>
    show(if 0<s.aF.getD a 0 then k else s.place+1)<_;split
    .exact ro.2
    .exact nl Il (λ_ z=>by cases z)
   |halt=>exact absurd rfl Il|_=>exact nl Il (λ_ z=>by cases z)
  .generalize roll[s.place]=r;cases r with
   |set a b=>exact Px hc|_=>exact hc
  .generalize roll[s.place]=r;cases r with
   |set a b=>exact ZnF hc _ _|_=>exact Nat.le_succ _
theorem ZC(roll:bJ):∀k s,(cY roll k s).length<=k+1
 |0,s=>by simp[cY]|k+1,s=>by
  unfold cY;split
  .simp
  .have:=ZC roll k ‹_›;simp;exact this
theorem Zr3(roll:bJ)(k:Nat)(s:cW):cY roll k s≠[]:=by
 cases k with
 |zero=>simp[cY]|succ k=>unfold cY;split <;>simp
theorem Pz{roll:bJ}(R:eU roll):∀k s,Good roll s->∀x∈cY roll k s,Good roll x
 |0,s,g,x,hx=>by simp[cY]at hx;subst hx;exact g|k+1,s,g,x,hx=>by
  unfold cY at hx;split at hx
  .simp at hx;subst hx;exact g
  .rename_i s' h;rcases Y7.mp hx with e|e
   .subst e;exact g
   .exact Pz R k s' (Ik R g h).1 x e
noncomputable def ZD(i:Int):List Nat:=(PySem.Str.ofString (toString i)).cps.toList
noncomputable section
local instance (priority:=100000) AeF (p:Prop):Decidable p:=Yp p
noncomputable def ZF(ds:List D)(M:Store):R3 D:=match ds with
 |[.int i]=>if i.natAbs.log2<1920 then .ok (.str (ZD i)) M else .bad|[.str x]=>.ok (.str x) M|_=>.bad
@[simp] theorem Zv4:∀i,ZF ([.int i]) M=(if i.natAbs.log2<1920 then .ok (.str (ZD i)) M else .bad):=λ_=>rfl
@[simp] theorem Zwk:∀x,ZF ([.str x]) M= .ok (.str x) M:=λ_=>rfl
noncomputable def Zvh:List D->Option (List (List Nat))
 |[]=>Ya []|.str x::ds=>(Zvh ds).map (x:: ·)|_=>Ye
noncomputable def lU(ds:List D)(M:Store):R3 D:=match ds with
 |[.str x]=>match Lr ⟨x.toArray⟩with
  |some n=>if x.length<=640 then .ok (.int n) M else .bad|none=>.bad
 |ds=>Dh ds M
@[simp] theorem ZqB:∀x,lU ([.str x]) M=(match Lr ⟨x.toArray⟩with
  |some n=>if x.length<=640 then .ok (.int n) M else .bad|none=>.bad):=λ_=>rfl
@[simp] theorem ZpO:∀i,lU [.int i] M= .ok (.int i) M:=λ_=>rfl
@[simp] theorem ZvA:∀b,lU [.bl b] M=Dh [.bl b] M:=λ_=>rfl
end
noncomputable section
noncomputable def mL(f:E3)(g:G3):S3:=λenv M=>match f env M with
 | .ok d M1=>match g d env with
  |some dO=>.nx dO M1|none=>.bad
 | .exc x M1=>.exc x M1|.bad=>.bad
structure Im where
 items:List D
 lk:List (Nat×List D)
noncomputable def pC(lk:List (Nat×List D))(M:Store):Bool:=lk.all λq=>decide (M[q.1]?=Ya (.lst q.2))
noncomputable def pD(lk:List (Nat×List D))(g:G3)(body:S3):List D->bI->Store->O3
 |[],env,M=>if pC lk M then .nx env M else .bad|d::ds,env,M=>if pC lk M then match g d env with
  |none=>.bad|some dO=>match body dO M with
   | .nx e M'=>pD lk g body ds e M'|.ct e M'=>pD lk g body ds e M'|.bk e M'=>.nx e M'|o=>o
  else .bad
theorem PB{lk:List (Nat×List D)}{g:G3}:pD lk g body [] env M=if pC lk M then .nx env M else .bad:=rfl
theorem Du{lk:List (Nat×List D)}{g:G3}:pD lk g body (d::ds) env M=if pC lk M then match g d env with
  |none=>.bad|some dO=>match body dO M with
   | .nx e M'=>pD lk g body ds e M'|.ct e M'=>pD lk g body ds e M'|.bk e M'=>.nx e M'|o=>o
  else .bad:=rfl
noncomputable abbrev Dv:=bI->Store->R3 Im
noncomputable def y_(i:Dv)(g:G3)(body:S3):S3:=λenv M=>match i env M with
 | .ok it M1=>pD it.lk g body it.items env M1|.exc x M1=>.exc x M1|.bad=>.bad
noncomputable def lV:Nat->List D->List D
 |_,[]=>[]|k,d::ds=>.tup [.int k,d]::lV (k+1) ds
@[simp] noncomputable def Dw(f:E3):Dv:=λenv M=>(f env M).bind λa M1=>match a with
 | .tup ds=>.ok ⟨lV 0 ds,[]⟩ M1|.ref n=>match M1[n]? with
  |some (.lst ds)=>.ok ⟨lV 0 ds,[(n,ds)]⟩ M1|_=>.bad
 |_=>.bad
noncomputable def za(a b:D)(M:Store):R3 D:=match a,b with
 | .tup [.int i,.int j],.tup [.int k,.int l]=>.ok (.bl (decide (i<k)|| (decide (i=k)&&decide (j<=l)))) M|_,_=>.bad
@[simp] theorem ZuN:∀i j k l,za (.tup [.int i,.int j]) (.tup [.int k,.int l]) M= .ok (.bl (decide (i<k)|| (decide (i=k)&&decide (j<=l)))) M:=λ_ _ _ _=>rfl
noncomputable def sS(f:E3)(is:List Nat):S3:=λenv M=>match f env M with
 | .ok (.ref n) M1=>(match M1[n]? with
  |some (.lst ds)=>(match bindAll is ds env with
   |some dO=>.nx dO M1|none=>.bad)
  |_=>.bad)
 |_=>.bad
noncomputable def wL(v:D)(o i:E3)(env:bI)(M:Store):R3 D:=(o env M).bind λa M1=>(i env M1).bind λk M2=>yQ v a k M2
noncomputable def Io(f o i p j:E3):S3:=λenv M=>match f env M with
 | .ok (.tup [x,y]) M1=>(match wL x o i env M1 with
  | .ok _ M2=>(match wL y p j env M2 with
   | .ok _ M3=>.nx env M3|_=>.bad)
  |_=>.bad)
 |_=>.bad
theorem PJ:∀(k:Nat) (ds:List D) (i:Nat),(lV k ds)[i]?=(ds[i]?).map λd=>.tup [.int ((k+i:Nat):Int),d]
 |_,[],_=>by simp[lV]|k,d::ds,0=>by simp[lV]|k,d::ds,i+1=>by simp only[lV,Y3,PJ (k+1) ds i];rw[show k+1+i=k+(i+1)by exact Yt (lB 0 0xa1c0c1a0cc0 T1) (lB 0 1790139547840 T1)]
theorem PK:∀(k:Nat) (ds:List D),(lV k ds).length=ds.length
 |_,[]=>rfl|k,d::ds=>by simp[lV,PK (k+1) ds]
end
noncomputable section
end
noncomputable section
end
noncomputable section
end
noncomputable section
end
noncomputable section
noncomputable abbrev Ip:=List (List Nat×List (List Nat))
end
noncomputable section
end
noncomputable section
end
noncomputable section
local instance (priority:=100000) AeG (p:Prop):Decidable p:=Yp p
end
noncomputable section
end
open PySem PySem.Spec PyProof.Rows L2
noncomputable abbrev St:=L2.St
theorem mO:SZ<=bN:=by rw[j7];decide
def lW(K:Yb)(H:Hp)(a:Yz)(xs:List V):Prop:=
 (∃o,H a=Ya (.dB o (.lst xs)))\/
  ∃(o:aV) (its:Array Yg) (n:Nat),K.lookup a=Ya o/\o.cls= .type "list" /\o.dict=Ye/\o.data= .seq its n/\its.size<=bN/\Vals xs its.toList
variable{K:Yb}{H:Hp}
theorem lW.sq{a:Yz}{xs:List V}(h:lW K H a xs):cL K H a xs:=by
 rcases h with⟨o,h⟩|h
 .exact .inl (.inr ⟨o,h⟩)
 .exact .inr h
mutual
noncomputable def Rep(K:Yb)(H:Hp)(ι:List Yz):D->V->Prop
 | .non,v=>v= .non|.bl b,v=>v= .bl b|.int i,v=>v= .int i|.str x,v=>v= .str ⟨x.toArray⟩
 | .tup ds,v=>∃a vs,v= .ref a/\cZ K H a vs/\aB K H ι ds vs|.aQ ds,v=>∃a vs,v= .ref a/\lW K H a vs/\aB K H ι ds vs|.ref n,v=>∃a,ι[n]?=Ya a/\v= .ref a
noncomputable def aB(K:Yb)(H:Hp)(ι:List Yz):List D->List V->Prop
 |[],vs=>vs=[]|d::ds,vs=>∃v ws,vs=v::ws/\Rep K H ι d v/\aB K H ι ds ws
end
structure Ext(K:Yb)(H:Hp)(ι:List Yz)(H':Hp)(ι':List Yz):Prop where
 tup:∀a xs,cZ K H a xs->cZ K H' a xs
 aQ:∀a xs,lW K H a xs->lW K H' a xs
 pre:∀(n:Nat) (a:Yz),ι[n]?=Ya a->ι'[n]?=Ya a
 dB:∀a o u,H a=Ya (.dB o u)->H' a=Ya (.dB o u)
variable{vs:List V}{v:V}
section
variable {K:Yb} {H H' H1 H2:Hp} {ι ι' ι1 ι2:List Yz}
theorem Ext.refl:Ext K H ι H ι:=⟨λ_ _ h=>h,λ_ _ h=>h,λ_ _ h=>h,λ_ _ _ h=>h⟩
theorem Ext.trans(a:Ext K H ι H1 ι1)(b:Ext K H1 ι1 H2 ι2):Ext K H ι H2 ι2:=⟨λx xs h=>b.tup x xs (a.tup x xs h),λx xs h=>b.aQ x xs (a.aQ x xs h),λn x h=>b.pre n x (a.pre n x h),λx o u h=>b.dB x o u (a.dB x o u h)⟩
mutual
theorem Rep.mono(e:Ext K H ι H' ι'):∀{d:D} {v:V},Rep K H ι d v->Rep K H' ι' d v
 | .non,_,h=>h|.bl _,_,h=>h|.int _,_,h=>h|.str _,_,h=>h
 | .tup ds,_,h=>by obtain⟨a,vs,rfl,s,r⟩:=h;exact⟨a,vs,rfl,e.tup _ _ s,aB.mono e (ds:=ds) r⟩|.aQ ds,_,h=>by obtain⟨a,vs,rfl,s,r⟩:=h;exact⟨a,vs,rfl,e.aQ _ _ s,aB.mono e (ds:=ds) r⟩|.ref n,_,h=>by obtain⟨a,s,rfl⟩:=h;exact⟨a,e.pre _ _ s,rfl⟩
theorem aB.mono(e:Ext K H ι H' ι'):∀{ds:List D} {vs:List V},aB K H ι ds vs->aB K H' ι' ds vs
 |[],_,h=>h|d::ds,_,h=>by obtain⟨v,ws,rfl,r,q⟩:=h;exact⟨v,ws,rfl,Rep.mono e (d:=d) r,aB.mono e (ds:=ds) q⟩
end
mutual
theorem Rep.keep(ht:∀a xs,cZ K H a xs->cZ K H' a xs)(hs:∀a xs,lW K H a xs->lW K H' a xs):∀{d:D} {v:V},Rep K H ι d v->Rep K H' ι d v
 | .non,_,h=>h|.bl _,_,h=>h|.int _,_,h=>h|.str _,_,h=>h
 | .tup ds,_,h=>by obtain⟨a,vs,rfl,s,r⟩:=h;exact⟨a,vs,rfl,ht _ _ s,aB.keep ht hs (ds:=ds) r⟩|.aQ ds,_,h=>by obtain⟨a,vs,rfl,s,r⟩:=h;exact⟨a,vs,rfl,hs _ _ s,aB.keep ht hs (ds:=ds) r⟩|.ref n,_,h=>h
theorem aB.keep(ht:∀a xs,cZ K H a xs->cZ K H' a xs)(hs:∀a xs,lW K H a xs->lW K H' a xs):∀{ds:List D} {vs:List V},aB K H ι ds vs->aB K H' ι ds vs
 |[],_,h=>h|d::ds,_,h=>by obtain⟨v,ws,rfl,r,q⟩:=h;exact⟨v,ws,rfl,Rep.keep ht hs (d:=d) r,aB.keep ht hs (ds:=ds) q⟩
end
theorem aB.nil:aB K H ι [] []:=rfl
theorem aB.cons{d:D}{ds:List D}{v:V}{vs:List V}(h:Rep K H ι d v)(t:aB K H ι ds vs):aB K H ι (d::ds) (v::vs):=⟨v,vs,rfl,h,t⟩
theorem aB.nil_inv(h:aB K H ι [] vs):vs=[]:=h
theorem aB.cons_inv(h:aB K H ι (d::ds) vs):∃v ws,vs=v::ws/\Rep K H ι d v/\aB K H ι ds ws:=h
theorem aB.length:∀{ds:List D} {vs:List V},aB K H ι ds vs->vs.length=ds.length
 |[],_,h=>by rw[h.nil_inv];rfl|d::ds,_,h=>by obtain⟨v,ws,rfl,_,q⟩:=h.cons_inv;exact congrArg Nat.succ q.length
theorem aB.append:∀{ds es:List D} {vs ws:List V},aB K H ι ds vs->aB K H ι es ws->aB K H ι (ds++es) (vs++ws)
 |[],_,_,_,h,q=>by rw[h.nil_inv];exact q|d::ds,_,_,_,h,q=>by obtain⟨v,us,rfl,r,t⟩:=h.cons_inv;exact aB.cons r (t.append q)
theorem aB.drop:∀{ds:List D} {vs:List V} (n:Nat),aB K H ι ds vs->aB K H ι (ds.drop n) (vs.drop n)
 |_,_,0,h=>h|[],_,n+1,h=>by rw[h.nil_inv];exact aB.nil|d::ds,_,n+1,h=>by obtain⟨v,us,rfl,r,t⟩:=h.cons_inv;exact t.drop n
theorem aB.take:∀{ds:List D} {vs:List V} (n:Nat),aB K H ι ds vs->aB K H ι (ds.take n) (vs.take n)
 |_,_,0,h=>aB.nil|[],_,n+1,h=>by rw[h.nil_inv];exact aB.nil|d::ds,_,n+1,h=>by obtain⟨v,us,rfl,r,t⟩:=h.cons_inv;exact aB.cons r (t.take n)
theorem aB.get:∀{ds:List D} {vs:List V} {i:Nat} {d:D},aB K H ι ds vs->ds[i]?=Ya d->∃v,vs[i]?=Ya v/\Rep K H ι d v
 |[],_,_,_,_,e=>by simp at e|d::ds,_,0,_,h,e=>by obtain⟨v,us,rfl,r,t⟩:=h.cons_inv;simp at e;subst e;exact⟨v,rfl,r⟩
 |d::ds,_,i+1,_,h,e=>by obtain⟨v,us,rfl,r,t⟩:=h.cons_inv;obtain⟨w,q,z⟩:=t.get (i:=i) (by simpa using e);exact⟨w,by simpa using q,z⟩
theorem aB.set:∀{ds:List D} {vs:List V} {d:D} {v:V} (i:Nat),aB K H ι ds vs->Rep K H ι d v->aB K H ι (ds.set i d) (vs.set i v)
 |[],_,_,_,_,h,_=>by rw[h.nil_inv];exact aB.nil|d::ds,_,_,_,0,h,q=>by obtain⟨v,us,rfl,r,t⟩:=h.cons_inv;exact aB.cons q t
 |d::ds,_,_,_,i+1,h,q=>by obtain⟨v,us,rfl,r,t⟩:=h.cons_inv;exact aB.cons r (t.set i q)
theorem aB.ints:∀(ns:List Int),aB K H ι (ns.map D.int) (ns.map V.int)
 |[]=>aB.nil|n::ns=>aB.cons rfl (aB.ints ns)
theorem Rep.jZ(h:Rep K H ι .non v):v= .non:=h
theorem Rep.je{b:Bool}(h:Rep K H ι (.bl b) v):v= .bl b:=h
theorem Rep.int_inv{i:Int}(h:Rep K H ι (.int i) v):v= .int i:=h
theorem Rep.str_inv{x:List Nat}(h:Rep K H ι (.str x) v):v= .str ⟨x.toArray⟩:=h
theorem Rep.fW(h:Rep K H ι (.tup ds) v):∃a vs,v= .ref a/\cZ K H a vs/\aB K H ι ds vs:=h
theorem Rep.qZ(h:Rep K H ι (.aQ ds) v):∃a vs,v= .ref a/\lW K H a vs/\aB K H ι ds vs:=h
theorem Rep.gF(h:Rep K H ι (.ref n) v):∃a,ι[n]?=Ya a/\v= .ref a:=h
theorem Rep.non:Rep K H ι .non .non:=rfl
theorem Rep.bl{b:Bool}:Rep K H ι (.bl b) (.bl b):=rfl
theorem Rep.int{i:Int}:Rep K H ι (.int i) (.int i):=rfl
theorem Rep.str{x:List Nat}:Rep K H ι (.str x) (.str ⟨x.toArray⟩):=rfl
theorem Rep.tup{a:Yz}(s:cZ K H a vs)(r:aB K H ι ds vs):Rep K H ι (.tup ds) (.ref a):=⟨a,vs,rfl,s,r⟩
theorem Rep.ref{a:Yz}(s:ι[n]?=Ya a):Rep K H ι (.ref n) (.ref a):=⟨a,s,rfl⟩
end
def ExO(e C:Yz)(h:aY):Prop:=∃o vs,h.get? e=Ya o/\o.cls= .ref C/\o.data= .fields vs
noncomputable abbrev exH(e C:Yz):HO:=.ext (ExO e C)
noncomputable def dk:cN->Key
 | .inl i=>.inl i|.inr x=>.inr ⟨x.toArray⟩
def cD(K:Yb)(H:Hp)(ι:List Yz)(kvs:List (cN×D))(ws:List (Key×V)):Prop:=ws.map (·.1)=kvs.map (λp=>dk p.1)/\aB K H ι (kvs.map (·.2)) (ws.map (·.2))
def FsR(K:Yb)(H:Hp)(ι:List Yz)(fs:List (List Nat×D))(gs:List (aj×V)):Prop:=gs.map (·.1)=fs.map (λp=>(⟨p.1.toArray⟩:aj))/\aB K H ι (fs.map (·.2)) (gs.map (·.2))
def ClsAt(K:Yb)(c:List Nat)(C:Yz):Prop:=PySem.W.nsIn K Ys ⟨c.toArray⟩=Ya (Ya (.ref C))
noncomputable def jQ(K:Yb)(H:Hp)(ι:List Yz):MO->Yz->Prop
 | .lst xs,a=>∃vs,H a=Ya (.lst vs)/\aB K H ι xs vs|.dct kvs,a=>∃ws,H a=Ya (.dK ws)/\cD K H ι kvs ws|.cC kvs,a=>∃ws,(∃o,H a=Ya (.dB o (.dK ws)))/\cD K H ι kvs ws|.ins c fs,a=>(∃C dx gs,H a=Ya (.ins C dx gs)/\(ClsAt K c C/\c.head?≠Ya 0)/\FsR K H ι fs gs)\/∃C,H a=Ya (exH a C)/\c.head?=Ya 0/\ClsAt K c.tail C/\fs=[]
structure aP(K:Yb)(H:Hp)(ι:List Yz)(M:Store):Prop where
 len:ι.length=M.length
 nd:ι.Nodup
 obj:∀(n:Nat) o a,M[n]?=Ya o->ι[n]?=Ya a->jQ K H ι o a
def Loose(H:Hp)(p:Yz):Prop:=H p=Ye\/(∃vs,H p=Ya (.lst vs))\/(∃ws,H p=Ya (.dK ws))\/∃C dx gs,H p=Ya (.ins C dx gs)
variable{m:MO}
section
variable {K:Yb} {H H':Hp} {ι ι':List Yz} {M:Store} {p:Yz} {o:HO}
theorem Loose.ne{a:Yz}{u:HO}(l:Loose H p)(h:H a=Ya u)(h1:∀vs,u≠ .lst vs)(h2:∀ws,u≠ .dK ws)(h3:∀C dx gs,u≠ .ins C dx gs:=by exactλ_ _ _ z=>nomatch z):a≠p:=by
 rintro rfl;rcases l with l|⟨vs,l⟩|⟨ws,l⟩|⟨C,dx,gs,l⟩
 .rw[h]at l;cases l
 .rw[h]at l;exact h1 vs (Yq l)
 .rw[h]at l;exact h2 ws (Yq l)
 .rw[h]at l;exact h3 C dx gs (Yq l)
theorem Loose.tup(l:Loose H p){a:Yz}{xs:List V}(h:cZ K H a xs):cZ K (upd H p o) a xs:=by
 rcases h with(h|⟨ob,h⟩)|h
 .exact .inl (.inl (by rw[bW (l.ne h (λ_ z=>nomatch z) (λ_ z=>nomatch z))];exact h))
 .exact .inl (.inr ⟨ob,by rw[bW (l.ne h (λ_ z=>nomatch z) (λ_ z=>nomatch z))];exact h⟩)
 .exact .inr h
theorem Loose.aQ(l:Loose H p){a:Yz}{xs:List V}(h:lW K H a xs):lW K (upd H p o) a xs:=by
 rcases h with⟨ob,h⟩|h
 .exact .inl ⟨ob,by rw[bW (l.ne h (λ_ z=>nomatch z) (λ_ z=>nomatch z))];exact h⟩
 .exact .inr h
theorem Loose.dB(l:Loose H p){a:Yz}{ob:aV}{u:HO}(h:H a=Ya (.dB ob u)):upd H p o a=Ya (.dB ob u):=by rw[bW (l.ne h (λ_ z=>nomatch z) (λ_ z=>nomatch z))];exact h
theorem Loose.ext(l:Loose H p):Ext K H ι (upd H p o) ι:=⟨λ_ _ h=>l.tup h,λ_ _ h=>l.aQ h,λ_ _ h=>h,λ_ _ _ h=>l.dB h⟩
theorem Loose.Kr(l:Loose H p):Ext K H ι (upd H p o) (ι++[p]):=⟨λ_ _ h=>l.tup h,λ_ _ h=>l.aQ h,λn a h=>by rw[kZ (Yd.mp h).1];exact h,λ_ _ _ h=>l.dB h⟩
theorem jQ.mono{a:Yz}(e:Ext K H ι H' ι')(h:jQ K H ι m a)(k:H' a=H a):jQ K H' ι' m a:=by
 cases m with
 |lst xs=>obtain⟨vs,q,r⟩:=h;exact⟨vs,k.trans q,r.mono e⟩|dct kvs=>obtain⟨ws,q,r1,r2⟩:=h;exact⟨ws,k.trans q,r1,r2.mono e⟩|cC kvs=>obtain⟨ws,⟨o,q⟩,r1,r2⟩:=h;exact⟨ws,⟨o,k.trans q⟩,r1,r2.mono e⟩|ins c fs=>
  rcases h with⟨C,dx,gs,q,c,r1,r2⟩|⟨C,q,r⟩
  .exact .inl ⟨C,dx,gs,k.trans q,c,r1,r2.mono e⟩
  .exact .inr ⟨C,k.trans q,r⟩
theorem jQ.ne{a:Yz}(h:jQ K H ι m a):H a≠Ye:=by
 cases m with
 |lst xs=>obtain⟨vs,q,r⟩:=h;rw[q];simp|dct kvs=>obtain⟨ws,q,r⟩:=h;rw[q];simp|cC kvs=>obtain⟨ws,⟨o,q⟩,r⟩:=h;rw[q];simp|ins c fs=>rcases h with⟨C,dx,gs,q,r⟩|⟨C,q,r⟩<;>(rw[q];simp)
theorem aP.at(S:aP K H ι M)(h:M[n]?=Ya m):∃a,ι[n]?=Ya a/\jQ K H ι m a:=by
 have hn:n<ι.length:=by rw[S.len];exact(Yd.mp h).1
 exact⟨ι[n],by simp[hn],S.obj n m _ h (by simp[hn])⟩
theorem aP.there(S:aP K H ι M){a:Yz}(h:ι[n]?=Ya a):∃m,M[n]?=Ya m/\jQ K H ι m a:=by
 have hn:n<M.length:=by rw[←S.len];exact(Yd.mp h).1
 exact⟨M[n],by simp[hn],S.obj n _ _ (by simp[hn]) h⟩
theorem aP.fresh(S:aP K H ι M)(hp:H p=Ye):p∉ι:=λh=>by obtain⟨n,hn⟩:=Bq h;obtain⟨m,_,q⟩:=S.there hn;exact q.ne hp
theorem aP.other(S:aP K H ι M)(l:Loose H p)(hp:p∉ι):aP K (upd H p o) ι M:=⟨S.len,S.nd,λn m a h1 h2=>(S.obj n m a h1 h2).mono l.ext (by rw[bW];rintro rfl;exact hp (jo h2))⟩
theorem aP.new(S:aP K H ι M)(hp:H p=Ye)(h:jQ K (upd H p o) (ι++[p]) m p):aP K (upd H p o) (ι++[p]) (M++[m]):=by
 have hf:=S.fresh hp;refine⟨by simp[S.len],?_,λn m' a h1 h2=>?_⟩
 .exact Um.mpr ⟨S.nd,by simp,λx hx y hy=>by
   have e:y=p:=by simpa using hy
   subst e;rintro rfl;exact hf hx⟩
 .by_cases hn:n<ι.length
  .rw[kZ hn]at h2;rw[kZ (by rw[←S.len];exact hn)]at h1;refine(S.obj n m' a h1 h2).mono (Loose.Kr (.inl hp)) ?_;rw[bW];rintro rfl;exact hf (jo h2)
  .rw[tX (iH hn)]at h2;rw[tX (by rw[←S.len];exact iH hn)]at h1;have hlt:n-ι.length<1:=by
    have:=(Yd.mp h2).1;simpa using this
   have e0:n-ι.length=0:=Yt (lA 1 234922001 T1 hlt) (eV _);rw[e0]at h2;rw[←S.len,e0]at h1;simp at h1 h2;subst h1 h2;exact h
theorem aP.put(S:aP K H ι M)(l0:Loose H p)(hn:ι[n]?=Ya p)(h:jQ K (upd H p o) ι m p):aP K (upd H p o) ι (M.set n m):=by
 obtain⟨m0,hm0,q0⟩:=S.there hn;refine⟨by simp[S.len],S.nd,λk m' a h1 h2=>?_⟩;by_cases hk:k=n
 .subst hk;rw[hn]at h2;cases h2;have hlt:k<M.length:=(Yd.mp hm0).1;rw[Y2 hlt]at h1;cases h1;exact h
 .rw[jH (cU hk)]at h1;refine(S.obj k m' a h1 h2).mono (Loose.ext l0) ?_;rw[bW];rintro rfl;have hlt1:=(Yd.mp h2);have hlt2:=(Yd.mp hn);exact hk ((K_ S.nd).mp (hlt1.2.trans hlt2.2.symm))
theorem aP.lst(S:aP K H ι M)(hp:H p=Ye)(r:aB K H ι xs vs):Ext K H ι (upd H p (.lst vs)) (ι++[p])/\aP K (upd H p (.lst vs)) (ι++[p]) (M++[.lst xs])/\Rep K (upd H p (.lst vs)) (ι++[p]) (.ref M.length) (.ref p):=by have e:Ext K H ι (upd H p (.lst vs)) (ι++[p]):=Loose.Kr (.inl hp);refine⟨e,S.new hp ⟨vs,nJ,r.mono e⟩,Rep.ref ?_⟩;rw[←S.len];simp
theorem aP.vd(S:aP K H ι M)(hp:H p=Ye)(r:aB K H ι xs vs):Ext K H ι (upd H p (.tup vs)) ι/\aP K (upd H p (.tup vs)) ι M/\Rep K (upd H p (.tup vs)) ι (.tup xs) (.ref p):=by have e:Ext K H ι (upd H p (.tup vs)) ι:=Loose.ext (.inl hp);exact⟨e,S.other (.inl hp) (S.fresh hp),Rep.tup (cZ.of nJ) (r.mono e)⟩
theorem aP.Fq(S:aP K H ι M)(l0:Loose H p)(hn:ι[n]?=Ya p)(r:aB K H ι xs vs):Ext K H ι (upd H p (.lst vs)) ι/\aP K (upd H p (.lst vs)) ι (M.set n (.lst xs)):=by have e:Ext K H ι (upd H p (.lst vs)) ι:=Loose.ext l0;exact⟨e,S.put l0 hn ⟨vs,nJ,r.mono e⟩⟩
end
def cJ(K:Yb)(H:Hp)(ι:List Yz)(env:bI)(σ:St):Prop:=env.length=σ.length/\∀(i:Nat) d,env[i]?=Ya (Ya d)->∃v,σ[i]?=Ya (Ya v)/\Rep K H ι d v
variable{σ:St}{ι:List Yz}
theorem cJ.mono{H':Hp}{ι':List Yz}(r:cJ K H ι env σ)(e:Ext K H ι H' ι'):cJ K H' ι' env σ:=⟨r.1,λi d h=>let⟨v,q,z⟩:=r.2 i d h;⟨v,q,z.mono e⟩⟩
theorem cJ.set(r:cJ K H ι env σ)(i:Nat)(h:Rep K H ι d v):cJ K H ι (env.set i (Ya d)) (σ.set i (Ya v)):=by
 refine⟨by simp[r.1],λj e hj=>?_⟩;by_cases hij:j=i
 .subst hij;have hlt:j<env.length:=by
   have:=(Yd.mp hj).1;simpa using this
  rw[Y2 hlt]at hj;cases hj;exact⟨v,by rw[Y2 (by rw[←r.1];exact hlt)],h⟩
 .rw[jH (cU hij)]at hj;obtain⟨w,q,z⟩:=r.2 j e hj;exact⟨w,by rw[jH (cU hij)];exact q,z⟩
def aG(K:Yb)(H:Hp)(ι:List Yz)(Q:VK)(r:R3 D):Prop:=match r with
 | .ok d M'=>∀v H' ι',Ext K H ι H' ι'->aP K H' ι' M'->Rep K H' ι' d v->Q v H'|_=>False
inductive ZG(K:Yb)(f:E3)(σ:St)(H:Hp)(Q:VK):Prop where
 |mk (ι:List Yz) (M:Store) (env:bI) (S:aP K H ι M) (E:cJ K H ι env σ) (h:aG K H ι Q (f env M)):ZG K f σ H Q
def pF(K:Yb)(f:E3):TE:=λσ H Q=>ZG K f σ H Q
def pG(K:Yb)(H:Hp)(ι:List Yz)(Q:Bool->Hp->Prop)(r:R3 D):Prop:=match r with
 | .ok (.bl b) M'=>∀H' ι',Ext K H ι H' ι'->aP K H' ι' M'->Q b H'|_=>False
inductive ZJ(K:Yb)(f:E3)(σ:St)(H:Hp)(Q:Bool->Hp->Prop):Prop where
 |mk (ι:List Yz) (M:Store) (env:bI) (S:aP K H ι M) (E:cJ K H ι env σ) (h:pG K H ι Q (f env M)):ZJ K f σ H Q
def ZK(K:Yb)(f:E3):TT:=λσ H Q=>ZJ K f σ H Q
def zb(K:Yb)(H:Hp)(ι:List Yz)(Q:List V->Hp->Prop)(r:R3 (List D)):Prop:=match r with
 | .ok ds M'=>∀vs H' ι',Ext K H ι H' ι'->aP K H' ι' M'->aB K H' ι' ds vs->Q vs H'|_=>False
inductive ZL(K:Yb)(f:iK)(σ:St)(H:Hp)(Q:List V->Hp->Prop):Prop where
 |mk (ι:List Yz) (M:Store) (env:bI) (S:aP K H ι M) (E:cJ K H ι env σ) (h:zb K H ι Q (f env M)):ZL K f σ H Q
def PL(K:Yb)(f:iK):TA:=λσ H Q=>ZL K f σ H Q
def Dy(K:Yb)(H:Hp)(ι:List Yz)(Q:Option Int->Hp->Prop)(r:R3 (Option Int)):Prop:=match r with
 | .ok o M'=>∀H' ι',Ext K H ι H' ι'->aP K H' ι' M'->Q o H'|_=>False
def tOo(K:Yb)(f:sy):TO:=λσ H Q=>∃ι M env,aP K H ι M/\cJ K H ι env σ/\Dy K H ι Q (f env M)
def jR(K:Yb)(H:Hp)(ι:List Yz)(E:Ends)(r:O3):Prop:=match r with
 | .nx env' M'=>∀σ' H' ι',Ext K H ι H' ι'->aP K H' ι' M'->cJ K H' ι' env' σ'->E.nx σ' H'|.bk env' M'=>∀σ' H' ι',Ext K H ι H' ι'->aP K H' ι' M'->cJ K H' ι' env' σ'->E.bk σ' H'|.ct env' M'=>∀σ' H' ι',Ext K H ι H' ι'->aP K H' ι' M'->cJ K H' ι' env' σ'->E.ct σ' H'|.rt d M'=>∀v H' ι',Ext K H ι H' ι'->aP K H' ι' M'->Rep K H' ι' d v->E.rt v H'
 |_=>False
inductive ZM(K:Yb)(f:S3)(D:Ends)(σ:St)(H:Hp):Prop where
 |mk (ι:List Yz) (M:Store) (env:bI) (S:aP K H ι M) (E:cJ K H ι env σ) (h:jR K H ι D (f env M)):ZM K f D σ H
def ZP(K:Yb)(f:S3):TS:=λE σ H=>ZM K f E σ H
def C3(X:Cx)(e:Expr)(f:E3):Prop:=PE X e (pF X.K f)
def CT(X:Cx)(e:Expr)(f:E3):Prop:=PT X e (ZK X.K f)
def CA(X:Cx)(es:List Expr)(f:iK):Prop:=PA X es (PL X.K f)
def CO(X:Cx)(e:Option Expr)(f:sy):Prop:=PO X e (tOo X.K f)
def CS(X:Cx)(st:Yd1)(f:S3):Prop:=PS X st (ZP X.K f)
def pH(X:Cx)(st:List Yd1)(f:S3):Prop:=jt X st (ZP X.K f)
variable{X:Cx}{e:Expr}
theorem _root_.L2.PE.imp{t t':TE}(h:PE X e t)(i:∀σ H Q,t' σ H Q->t σ H Q):PE X e t':=λpins s σ H Q I q=>h pins s σ H Q I (i σ H Q q)
theorem _root_.L2.PT.imp{t t':TT}(h:PT X e t)(i:∀σ H Q,t' σ H Q->t σ H Q):PT X e t':=λpins s σ H Q I q=>h pins s σ H Q I (i σ H Q q)
theorem _root_.L2.PA.imp{e:List Expr}{t t':TA}(h:PA X e t)(i:∀σ H Q,t' σ H Q->t σ H Q):PA X e t':=λpos pins s σ H Q I q=>h pos pins s σ H Q I (i σ H Q q)
theorem _root_.L2.PO.imp{e:Option Expr}{t t':TO}(h:PO X e t)(i:∀σ H Q,t' σ H Q->t σ H Q):PO X e t':=λpins s σ H Q I q=>h pins s σ H Q I (i σ H Q q)
theorem _root_.L2.PS.imp{e:Yd1}{t t':TS}(h:PS X e t)(i:∀D σ H,t' D σ H->t D σ H):PS X e t':=λpins s σ H D I q=>h pins s σ H D I (i D σ H q)
theorem _root_.L2.jt.imp{e:List Yd1}{t t':TS}(h:jt X e t)(i:∀D σ H,t' D σ H->t D σ H):jt X e t':=λpins s σ H D I q=>h pins s σ H D I (i D σ H q)
theorem _root_.L2.bf.imp{f:Yg->Yg->pZ Yg}{r r':R2}(h:bf X f r)(i:∀x y H Q,r' x y H Q->r x y H Q):bf X f r':=λpins s σ H x y v u Q I rx ry q=>h pins s σ H x y v u Q I rx ry (i x y H Q q)
theorem _root_.L2.rR.imp{f:Yg->pZ Yg}{r r':V->Hp->VK->Prop}(h:rR X f r)(i:∀x H Q,r' x H Q->r x H Q):rR X f r':=λpins s σ H x v Q I rx q=>h pins s σ H x v Q I rx (i x H Q q)
theorem _root_.L2.fJ.imp{f:Yg}{r r':List V->Hp->VK->Prop}(h:fJ X f r)(i:∀x H Q,r' x H Q->r x H Q):fJ X f r':=λpins s σ H xs us Q I rx q=>h pins s σ H xs us Q I rx (i xs H Q q)
theorem _root_.L2.j_.imp{r r':R2}(h:j_ X r)(i:∀x y H Q,r' x y H Q->r x y H Q):j_ X r':=λvalue slice pins s σ H x y v u Q I rx ry q hs=>h value slice pins s σ H x y v u Q I rx ry (i x y H Q q) hs
theorem _root_.L2.ji.imp{r r':V->Option Int->Option Int->Hp->VK->Prop}(h:ji X r)(i:∀x lo hi H Q,r' x lo hi H Q->r x lo hi H Q):ji X r':=λpins s σ H x v vl vu lo hi sl Q I rx hs pl pu q=>h pins s σ H x v vl vu lo hi sl Q I rx hs pl pu (i x lo hi H Q q)
variable{Q:VK}{r:R3 D}
section
variable {K:Yb} {H H1:Hp} {ι ι1:List Yz}
theorem aG.up(e:Ext K H ι H1 ι1)(h:aG K H ι Q r):aG K H1 ι1 Q r:=by
 cases r with
 |ok d M=>exactλv H' ι' e' S r=>h v H' ι' (e.trans e') S r|exc x M=>exact h|bad=>exact h
theorem pG.up{Q:Bool->Hp->Prop}(e:Ext K H ι H1 ι1)(h:pG K H ι Q r):pG K H1 ι1 Q r:=by
 cases r with
 |ok d M=>cases d<;>first|exact h|exactλH' ι' e' S=>h H' ι' (e.trans e') S
 |exc x M=>exact h|bad=>exact h
theorem jR.up{Q:Ends}{r:O3}(e:Ext K H ι H1 ι1)(h:jR K H ι Q r):jR K H1 ι1 Q r:=by
 cases r with
 |nx d M=>exactλv H' ι' e' S r=>h v H' ι' (e.trans e') S r|bk d M=>exactλv H' ι' e' S r=>h v H' ι' (e.trans e') S r|ct d M=>exactλv H' ι' e' S r=>h v H' ι' (e.trans e') S r|rt d M=>exactλv H' ι' e' S r=>h v H' ι' (e.trans e') S r
 |exc x M=>exact h|bad=>exact h
theorem aG.ok(h:aG K H ι Q (.ok d M))(S:aP K H ι M)(r:Rep K H ι d v):Q v H:=h v H ι Ext.refl S r
theorem aG.bind{r:R3 α}{k:α->Store->R3 D}(h:aG K H ι Q (r.bind k)):∃a M,r= .ok a M/\aG K H ι Q (k a M):=by
 cases r with
 |ok a M=>exact⟨a,M,rfl,h⟩|exc x M=>exact h.elim|bad=>exact h.elim
theorem zb.bind{Q:List V->Hp->Prop}{r:R3 α}{k:α->Store->R3 (List D)}(h:zb K H ι Q (r.bind k)):∃a M,r= .ok a M/\zb K H ι Q (k a M):=by
 cases r with
 |ok a M=>exact⟨a,M,rfl,h⟩|exc x M=>exact h.elim|bad=>exact h.elim
theorem Dy.bind{Q:Option Int->Hp->Prop}{r:R3 α}{k:α->Store->R3 (Option Int)}(h:Dy K H ι Q (r.bind k)):∃a M,r= .ok a M/\Dy K H ι Q (k a M):=by
 cases r with
 |ok a M=>exact⟨a,M,rfl,h⟩|exc x M=>exact h.elim|bad=>exact h.elim
theorem pG.bind{Q:Bool->Hp->Prop}{r:R3 α}{k:α->Store->R3 D}(h:pG K H ι Q (r.bind k)):∃a M,r= .ok a M/\pG K H ι Q (k a M):=by
 cases r with
 |ok a M=>exact⟨a,M,rfl,h⟩|exc x M=>exact h.elim|bad=>exact h.elim
end
inductive ZQ(K:Yb)(op:D->D->Store->R3 D)(x y:V)(H:Hp)(Q:VK):Prop where
 |mk (ι:List Yz) (M:Store) (a b:D) (S:aP K H ι M) (ra:Rep K H ι a x) (rb:Rep K H ι b y) (h:aG K H ι Q (op a b M)):ZQ K op x y H Q
def r2(K:Yb)(op:D->D->Store->R3 D):R2:=λx y H Q=>ZQ K op x y H Q
noncomputable def r1(K:Yb)(op:D->Store->R3 D):V->Hp->VK->Prop:=λx H Q=>∃ι M a,aP K H ι M/\Rep K H ι a x/\aG K H ι Q (op a M)
inductive ZR(K:Yb)(b:List D->Store->R3 D)(xs:List V)(H:Hp)(Q:VK):Prop where
 |mk (ι:List Yz) (M:Store) (ds:List D) (S:aP K H ι M) (r:aB K H ι ds xs) (h:aG K H ι Q (b ds M)):ZR K b xs H Q
noncomputable def rB(K:Yb)(b:List D->Store->R3 D):List V->Hp->VK->Prop:=λxs H Q=>ZR K b xs H Q
noncomputable def rM(K:Yb)(m:D->List D->Store->R3 D):V->List V->Hp->VK->Prop:=λx xs H Q=>∃ι M a ds,aP K H ι M/\Rep K H ι a x/\aB K H ι ds xs/\aG K H ι Q (m a ds M)
noncomputable def rS(K:Yb):V->Option Int->Option Int->Hp->VK->Prop:=λx lo hi H Q=>∃ι M a,aP K H ι M/\Rep K H ι a x/\aG K H ι Q (yN a lo hi M)
theorem Ir{op:D->D->Store->R3 D}(σ:St)(H:Hp)(Q:VK)(h:pF K (e2 op f g) σ H Q):CQ (r2 K op) (pF K f) (pF K g) σ H Q:=by obtain⟨ι,M,env,S,E,h⟩:=h;obtain⟨a,M1,e1,h⟩:=aG.bind h;obtain⟨b,M2,e2,h⟩:=aG.bind h;refine⟨ι,M,env,S,E,?_⟩;rw[e1];intro v H1 ι1 x1 S1 r1;refine⟨ι1,M1,env,S1,E.mono x1,?_⟩;rw[e2];intro u H2 ι2 x2 S2 r2;exact⟨ι2,M2,a,b,S2,r1.mono x2,r2,(h.up x1).up x2⟩
theorem Zuf{op:D->Store->R3 D}(σ:St)(H:Hp)(Q:VK)(h:pF K (e1 op f) σ H Q):WX (r1 K op) (pF K f) σ H Q:=by obtain⟨ι,M,env,S,E,h⟩:=h;obtain⟨a,M1,e1,h⟩:=aG.bind h;refine⟨ι,M,env,S,E,?_⟩;rw[e1];intro v H1 ι1 x1 S1 r1;exact⟨ι1,M1,a,S1,r1,h.up x1⟩
variable{x:aj}
section
variable {X:Cx} {a b c e o:Expr} {es:List Expr} {pos p:bQ} {f g h:E3} {gl:iK}
theorem Zd(i:Nat)(hN:X.N[i]?=Ya x:=by rfl)(hv:G8 X.env.scope x:=by first|exact Or.inl rfl|exact Or.inr (Or.inl rfl)|exact Or.inr (Or.inr rfl))(hd:(x==("__debug__":aj))=false:=by decide)(hcd:(x==("__classdict__":aj))=false:=by decide):C3 X (.Name x pos) (Za i):=(ZtH hN hv hd hcd).imp λσ H Q ak=>by
 obtain⟨ι,M,env,S,E,h⟩:=ak;unfold Za at h;cases q:env[i]? with
 |none=>rw[q]at h;exact h.elim|some od=>
  cases od with
  |none=>rw[q]at h;exact h.elim|some d=>rw[q]at h;obtain⟨v,e1,r⟩:=E.2 i d q;exact⟨v,e1,aG.ok h S r⟩
theorem Zi{i j}:C3 X (.Constant (.int i) j pos) (eC (.int i)):=Zus.imp λσ H Q ⟨ι,M,env,S,E,h⟩=>aG.ok h S Rep.int
theorem zc{i j}:C3 X (.Constant (.bool i) j pos) (eC (.bl i)):=ZvE.imp λσ H Q ⟨ι,M,env,S,E,h⟩=>aG.ok h S Rep.bl
theorem jT{j}:C3 X (.Constant .none j pos) (eC .non):=Zt6.imp λσ H Q ⟨ι,M,env,S,E,h⟩=>aG.ok h S Rep.non
theorem bA{cs:List Nat}{j}(hx:x=⟨cs.toArray⟩:=by decide +kernel):C3 X (.Constant (.str x) j pos) (eC (.str cs)):=ZtR.imp λσ H Q ak=>by obtain⟨ι,M,env,S,E,h⟩:=ak;subst hx;exact aG.ok h S Rep.str
theorem Zw{op:Operator}{q:D->D->Store->R3 D}(ho:bf X (iI op) (r2 X.K q))(ha:C3 X a f)(hb:C3 X b g):C3 X (.BinOp a op b pos) (e2 q f g):=(ZuM ho ha hb).imp Ir
theorem zf{op:UnaryOp}{q:D->Store->R3 D}(ho:rR X (Gq op) (r1 X.K q))(ha:C3 X a f):C3 X (.UnaryOp op a pos) (e1 q f):=(ZvP ho ha).imp Zuf
theorem jD{op:CmpOp}{q:D->D->Store->R3 D}(ho:bf X (gG op) (r2 X.K q))(ha:C3 X a f)(hb:C3 X b g)(hm:Gh op b=false:=by rfl):C3 X (.Compare a [op] [b] pos) (e2 q f g):=(Zsg ho ha hb hm).imp Ir
theorem ZS{Q:Bool->Hp->Prop}(h:pG K H ι Q r):aG K H ι (λx H'=>∃k,x= .bl k/\Q k H') r:=by
 cases r with
 |ok d M=>
  cases d with
  |bl b=>exactλv H' ι' e S r=>⟨b,r.je,h H' ι' e S⟩|_=>exact h.elim
 |exc x M=>exact h.elim|bad=>exact h.elim
theorem uM(h:C3 X e f)(he:∀whole,isTrue e X.env whole=(do let v ←whole;vI e.pos;jf [v] (truthy v)):=by intro _;rfl):CT X e f:=(Zug h he).imp λσ H Q ⟨ι,M,env,S,E,h⟩=>⟨ι,M,env,S,E,ZS h⟩
theorem aW{op:CmpOp}{q:D->D->Store->R3 D}(ho:bf X (gG op) (r2 X.K q))(ha:C3 X a f)(hb:C3 X b g)(hm:Gh op b=false:=by rfl):CT X (.Compare a [op] [b] pos) (e2 q f g):=(ZrO ho ha hb hm).imp λσ H Q ⟨ι,M,env,S,E,h⟩=>Ir σ H _ ⟨ι,M,env,S,E,ZS h⟩
end
variable{st:Yd1}{q:List D->Store->R3 D}
section
variable {X:Cx} {a b c e o:Expr} {es rest:List Expr} {pos p:bQ} {f g h:E3} {gl:iK}
theorem PN{op}(h:C3 X a f):C3 X (.BoolOp op [a] pos) f:=ZtC h
theorem Iu(ha:C3 X a f)(hb:C3 X (.BoolOp .And (b::rest) pos) g):C3 X (.BoolOp .And (a::b::rest) pos) (eN f g):=(Zs3 ha hb).imp λσ H Q ak=>by
 obtain⟨ι,M,env,S,E,h⟩:=ak;obtain⟨d,M1,e1,h⟩:=aG.bind h;refine⟨ι,M,env,S,E,?_⟩;rw[e1];intro v H1 ι1 x1 S1 r1;cases d with
 |bl k=>
  refine⟨k,r1.je,?_⟩;cases k with
  |true=>rw[if_pos rfl];exact⟨ι1,M1,env,S1,E.mono x1,h.up x1⟩|false=>rw[if_neg (by decide)];exact aG.ok (h.up x1) S1 Rep.bl
 |_=>exact h.elim
def CW(X:Cx)(e:Expr)(f:E3):Prop:=PW X e (ZK X.K f)
theorem CW.ct(h:CW X e f):CT X e f:=PW.pt h
theorem PW.imp{t t':TT}(h:PW X e t)(i:∀σ H Q,t' σ H Q->t σ H Q):PW X e t':=λwh pins s σ H Q I q=>h wh pins s σ H Q I (i σ H Q q)
theorem uN(ha:CT X a f):CW X (.BoolOp .And [a] pos) f:=Zr8 ha
theorem zj(ha:CT X a f):CW X (.BoolOp .Or [a] pos) f:=ZtN ha
theorem uO(ha:CT X a f)(hb:CW X (.BoolOp .And (b::rest) pos) g):CW X (.BoolOp .And (a::b::rest) pos) (eN f g):=PW.imp (ZtM ha hb) λσ H Q ak=>by
 obtain⟨ι,M,env,S,E,h⟩:=ak;obtain⟨d,M1,e1,h⟩:=pG.bind h;refine⟨ι,M,env,S,E,?_⟩;rw[e1];cases d with
 |bl k=>
  intro H1 ι1 x1 S1;cases k with
  |true=>rw[if_pos rfl];exact⟨ι1,M1,env,S1,E.mono x1,h.up x1⟩|false=>rw[if_neg (by decide)];exact h H1 ι1 x1 S1
 |_=>exact h.elim
theorem wM(ha:CT X a f)(hb:CW X (.BoolOp .Or (b::rest) pos) g):CW X (.BoolOp .Or (a::b::rest) pos) (iM f g):=PW.imp (ZvG ha hb) λσ H Q ak=>by
 obtain⟨ι,M,env,S,E,h⟩:=ak;obtain⟨d,M1,e1,h⟩:=pG.bind h;refine⟨ι,M,env,S,E,?_⟩;rw[e1];cases d with
 |bl k=>
  intro H1 ι1 x1 S1;cases k with
  |false=>rw[if_neg (by decide)];exact⟨ι1,M1,env,S1,E.mono x1,h.up x1⟩|true=>rw[if_pos rfl];exact h H1 ι1 x1 S1
 |_=>exact h.elim
theorem Dz(ha:CT X a f):CT X (.UnaryOp .Not a pos) (e1 jj f):=(Zto ha).imp λσ H Q ak=>by
 obtain⟨ι,M,env,S,E,h⟩:=ak;obtain⟨d,M1,e1,h⟩:=pG.bind h;refine⟨ι,M,env,S,E,?_⟩;rw[e1];cases d with
 |bl k=>exactλH1 ι1 x1 S1=>h H1 ι1 x1 S1|_=>exact h.elim
theorem DG(hc:CT X c f)(ha:C3 X a g)(hb:C3 X b h):C3 X (.IfExp c a b pos) (nP f g h):=(Zqj hc ha hb).imp λσ H Q ak=>by
 obtain⟨ι,M,env,S,E,h⟩:=ak;obtain⟨d,M1,e1,h⟩:=aG.bind h;refine⟨ι,M,env,S,E,?_⟩;rw[e1];cases d with
 |bl k=>
  intro H1 ι1 x1 S1;cases k with
  |true=>rw[if_pos rfl];exact⟨ι1,M1,env,S1,E.mono x1,h.up x1⟩|false=>rw[if_neg (by decide)];exact⟨ι1,M1,env,S1,E.mono x1,h.up x1⟩
 |_=>exact h.elim
theorem Zj:CA X [] Zg:=ZtU.imp λσ H Q ⟨ι,M,env,S,E,h⟩=>h [] H ι Ext.refl S aB.nil
theorem Zc(ha:C3 X e f)(hr:CA X es gl)(hs:cF (e::es) X.env=(false,bU e X.env)::cF es X.env:=by rfl):CA X (e::es) (Zb f gl):=(Zr1 ha hr hs).imp λσ H Q ak=>by obtain⟨ι,M,env,S,E,h⟩:=ak;obtain⟨d,M1,e1,h⟩:=zb.bind h;obtain⟨ds,M2,e2,h⟩:=zb.bind h;refine⟨ι,M,env,S,E,?_⟩;rw[e1];intro v H1 ι1 x1 S1 r1;refine⟨ι1,M1,env,S1,E.mono x1,?_⟩;rw[e2];intro vs H2 ι2 x2 S2 r2;exact h (v::vs) H2 ι2 (x1.trans x2) S2 (aB.cons (r1.mono x2) r2)
theorem cQ{x1}(h:CA X es gl):C3 X (.Tuple es x1 pos) (aR gl):=(Ztm h).imp λσ H Q ak=>by
 obtain⟨ι,M,env,S,E,h⟩:=ak;obtain⟨ds,M1,e1,h⟩:=aG.bind h;refine⟨ι,M,env,S,E,?_⟩;rw[e1];intro vs H1 ι1 x1 S1 r1;by_cases hz:ds.length<=SZ
 .rw[if_pos hz]at h;refine⟨by rw[r1.length];exact Y4 hz mO,λp hp=>?_⟩;obtain⟨x2,S2,r2⟩:=S1.vd hp r1;exact h _ _ _ (x1.trans x2) S2 r2
 .rw[if_neg hz]at h;exact h.elim
theorem gO(h:CA X es gl):C3 X (.List es pos) (b8 gl):=(Zup h).imp λσ H Q ak=>by
 obtain⟨ι,M,env,S,E,h⟩:=ak;obtain⟨ds,M1,e1,h⟩:=aG.bind h;refine⟨ι,M,env,S,E,?_⟩;rw[e1];intro vs H1 ι1 x1 S1 r1;by_cases hz:ds.length<=SZ
 .rw[if_pos hz]at h;refine⟨by rw[r1.length];exact Y4 hz mO,λp hp=>?_⟩;obtain⟨x2,S2,r2⟩:=S1.lst hp r1;exact h _ _ _ (x1.trans x2) S2 r2
 .rw[if_neg hz]at h;exact h.elim
theorem ZV(σ:St)(H:Hp)(Q:VK)(h:pF K (au q gl) σ H Q):Oa (rB K q) (PL K gl) σ H Q:=by obtain⟨ι,M,env,S,E,h⟩:=h;obtain⟨ds,M1,e1,h⟩:=aG.bind h;refine⟨ι,M,env,S,E,?_⟩;rw[e1];intro vs H1 ι1 x1 S1 r1;exact⟨ι1,M1,ds,S1,r1,h.up x1⟩
theorem d_{id:String}(hc:fJ X (.builtin id) (rB X.K q))(hm:X.mg x=Ye)(hv:lg x=Ya (.builtin id))(ha:CA X (e::es) gl)(hg:Gl X x:=by rfl)(hn:x≠ "__name__":=by decide)(hdb:(x==("__debug__":aj))=false:=by decide)(he:cF (e::es) X.env=(false,bU e X.env)::cF es X.env:=by rfl)(hpl:(jq pos (cF es X.env)).any (·.1)=false:=by rfl):C3 X (.Call (.Name x p) (e::es) [] pos) (au q gl):=(Zrg hc hg hm hv ha hn hdb he hpl).imp ZV
theorem iC{T:String}(hc:fJ X (.type T) (rB X.K q))(hm:X.mg x=Ye)(hv:lg x=Ya (.type T))(ha:CA X (e::es) gl)(hg:Gl X x:=by rfl)(hn:x≠ "__name__":=by decide)(hdb:(x==("__debug__":aj))=false:=by decide)(he:cF (e::es) X.env=(false,bU e X.env)::cF es X.env:=by rfl)(hpl:(jq pos (cF es X.env)).any (·.1)=false:=by rfl):C3 X (.Call (.Name x p) (e::es) [] pos) (au q gl):=(Zpl hc hg hm hv ha hn hdb he hpl).imp ZV
theorem Zx(hr:j_ X (r2 X.K Ze))(ha:C3 X a f)(hb:C3 X b g)(hs:Xc b:=by exactλ_ _=>rfl):C3 X (.Subscript a b pos) (e2 Ze f g):=(Zvo hr ha hb hs).imp Ir
theorem gw:CO X Ye bB:=ZrU.imp λσ H Q ⟨ι,M,env,S,E,h⟩=>h H ι Ext.refl S
theorem gA(h:C3 X e f):CO X (Ya e) (bD f):=(Zr7 h).imp λσ H Q ak=>by
 obtain⟨ι,M,env,S,E,h⟩:=ak;obtain⟨d,M1,e1,h⟩:=Dy.bind h;refine⟨ι,M,env,S,E,?_⟩;rw[e1];intro v H1 ι1 x1 S1 r1;cases d with
 |int i=>exact⟨i,r1.int_inv,h H1 ι1 x1 S1⟩|_=>exact h.elim
theorem gB{lo hi:Option Expr}{ol oh:sy}{p2:bQ}(hr:ji X (rS X.K))(he:C3 X e f)(hl:CO X lo ol)(hu:CO X hi oh):C3 X (.Subscript e (.Slice lo hi Ye p2) pos) (bj f ol oh):=(Zqr hr he hl hu).imp λσ H Q ak=>by obtain⟨ι,M,env,S,E,h⟩:=ak;obtain⟨d,M1,e1,h⟩:=aG.bind h;obtain⟨l,M2,e2,h⟩:=aG.bind h;obtain⟨u,M3,e3,h⟩:=aG.bind h;refine⟨ι,M,env,S,E,?_⟩;rw[e1];intro v H1 ι1 x1 S1 r1;refine⟨ι1,M1,env,S1,E.mono x1,?_⟩;rw[e2];intro H2 ι2 x2 S2;refine⟨ι2,M2,env,S2,(E.mono x1).mono x2,?_⟩;rw[e3];intro H3 ι3 x3 S3;exact⟨ι3,M3,d,S3,(r1.mono x2).mono x3,((h.up x1).up x2).up x3⟩
theorem bL:pH X [] aK:=ZrC.imp λD σ H ⟨ι,M,env,S,E,h⟩=>h σ H ι Ext.refl S E
theorem Zo(h:CS X st u):pH X [st] u:=Zrz h
theorem Zf{sts:List Yd1}{w:S3}(h1:CS X st u)(h2:pH X sts w):pH X (st::sts) (Zu u w):=(ZpG h1 h2).imp λD σ H ak=>by
 obtain⟨ι,M,env,S,E,h⟩:=ak;refine⟨ι,M,env,S,E,?_⟩;have h':jR X.K H ι D (match u env M with| .nx env' M'=>w env' M'|o=>o):=h;cases q:u env M with
 |nx env' M'=>rw[q]at h';exactλσ' H' ι' x S' E'=>⟨ι',M',env',S',E',h'.up x⟩|_=>rw[q]at h';exact h'
theorem bH{c1:Expr}{x y:List Yd1}{w:S3}(hc:CT X c1 f)(ha:pH X x u)(hb:pH X y w):CS X (.If c1 x y pos) (aD f u w):=(ZvV hc ha hb).imp λD σ H ak=>by
 obtain⟨ι,M,env,S,E,h⟩:=ak;refine⟨ι,M,env,S,E,?_⟩;unfold aD at h;cases q:f env M with
 | ok d M1=>
  rw[q]at h;cases d with
  |bl k=>
   intro H1 ι1 x1 S1;cases k with
   |true=>rw[if_pos rfl];exact⟨ι1,M1,env,S1,E.mono x1,h.up x1⟩|false=>rw[if_neg (by decide)];exact⟨ι1,M1,env,S1,E.mono x1,h.up x1⟩
  |_=>exact h.elim
 |exc x M1=>rw[q]at h;exact h.elim|bad=>rw[q]at h;exact h.elim
theorem aX(h:C3 X e f):CS X (.Return (Ya e) pos) (aq f):=(Ztq h).imp λD σ H ak=>by
 obtain⟨ι,M,env,S,E,h⟩:=ak;refine⟨ι,M,env,S,E,?_⟩;unfold aq at h;cases q:f env M with
 |ok d M1=>rw[q]at h;exact h|exc x M1=>rw[q]at h;exact h.elim|bad=>rw[q]at h;exact h.elim
theorem DK(h:C3 X e f)(hs:uc e Ye pos.line X.env=pure false:=by rfl):CS X (.Expr e pos) (dJ f):=(Zr6 h hs).imp λD σ H ak=>by
 obtain⟨ι,M,env,S,E,h⟩:=ak;refine⟨ι,M,env,S,E,?_⟩;unfold dJ at h;cases q:f env M with
 |ok d M1=>rw[q]at h;exactλv H1 ι1 x1 S1 r1=>h σ H1 ι1 x1 S1 (E.mono x1)|exc x M1=>rw[q]at h;exact h.elim|bad=>rw[q]at h;exact h.elim
theorem bh(i:Nat){pos':bQ}(hN:X.N.Nodup)(he:C3 X e f)(hi:X.N[i]?=Ya x:=by rfl)(hx:Loc X.env.scope x:=by first|exact Or.inl rfl|exact Or.inr rfl)(hs:uc e (Ya (.Name x pos')) pos.line X.env=pure false:=by rfl)(hf:X.fn x=true\/X.env.scope.names.lookup x=Ya .local:=by first|exact .inl rfl|exact .inr rfl):CS X (.Assign [.Name x pos'] e pos) (ao i f):=(Zuq hN hi hx he hs hf).imp λD σ H ak=>by
 obtain⟨ι,M,env,S,E,h⟩:=ak;refine⟨ι,M,env,S,E,?_⟩;unfold ao at h;cases q:f env M with
 |ok d M1=>rw[q]at h;exactλv H1 ι1 x1 S1 r1=>h _ H1 ι1 x1 S1 ((E.mono x1).set i r1)|exc x M1=>rw[q]at h;exact h.elim|bad=>rw[q]at h;exact h.elim
end
noncomputable def zm(K:Yb)(n:Nat)(F:F3):Sp:=λvs H Q _=>∃ι M ds,aP K H ι M/\aB K H ι ds vs/\ds.length=n/\aG K H ι Q (F ds M)
section
variable {K:Yb} {H H':Hp} {ι ι':List Yz} {M M':Store}
mutual
theorem Rep.below:∀{d:D} {v:V},Rep K H ι d v->L3.below ι.length d=true
 | .non,_,_=>rfl|.bl _,_,_=>rfl|.int _,_,_=>rfl|.str _,_,_=>rfl
 | .tup ds,_,h=>by obtain⟨a,vs,_,_,r⟩:=h.fW;exact aB.dN (ds:=ds) r|.aQ ds,_,h=>by obtain⟨a,vs,_,_,r⟩:=h.qZ;exact aB.dN (ds:=ds) r|.ref n,_,h=>by obtain⟨a,q,_⟩:=h.gF;exact decide_eq_true (Yd.mp q).1
theorem aB.dN:∀{ds:List D} {vs:List V},aB K H ι ds vs->L3.dN ι.length ds=true
 |[],_,_=>rfl|d::ds,_,h=>by obtain⟨v,ws,_,r,q⟩:=h.cons_inv;exact vN.mpr ⟨Rep.below (d:=d) r,aB.dN (ds:=ds) q⟩
end
mutual
theorem Rep.cut{n:Nat}:∀{d:D} {v:V},L3.below n d=true->Rep K H ι d v->Rep K H (ι.take n) d v
 | .non,_,_,h=>h|.bl _,_,_,h=>h|.int _,_,_,h=>h|.str _,_,_,h=>h
 | .tup ds,_,hb,h=>by obtain⟨a,vs,rfl,s,r⟩:=h.fW;exact Rep.tup s (aB.cut (ds:=ds) hb r)|.aQ ds,_,hb,h=>by obtain⟨a,vs,rfl,s,r⟩:=h.qZ;exact⟨a,vs,rfl,s,aB.cut (ds:=ds) hb r⟩|.ref k,_,hb,h=>by obtain⟨a,q,rfl⟩:=h.gF;refine Rep.ref ?_;rw[FJ (of_decide_eq_true hb)];exact q
theorem aB.cut{n:Nat}:∀{ds:List D} {vs:List V},L3.dN n ds=true->aB K H ι ds vs->aB K H (ι.take n) ds vs
 |[],_,_,h=>h|d::ds,_,hb,h=>by obtain⟨v,ws,rfl,r,q⟩:=h.cons_inv;exact have w:=vN.mp (hb:(L3.below n d&&L3.dN n ds)=true);aB.cons (Rep.cut (d:=d) w.1 r) (aB.cut (ds:=ds) w.2 q)
end
theorem jQ.below{a:Yz}(h:jQ K H ι m a):yU ι.length m=true:=by
 cases m with
 |lst xs=>obtain⟨vs,_,r⟩:=h;exact r.dN|dct kvs=>obtain⟨ws,_,_,r⟩:=h;exact r.dN|cC kvs=>obtain⟨ws,_,_,r⟩:=h;exact r.dN|ins c fs=>
  rcases h with⟨_,_,gs,_,_,_,r⟩|⟨_,_,_,_,rfl⟩
  .exact r.dN
  .rfl
theorem jQ.cut{a:Yz}(hb:yU n m=true)(h:jQ K H ι m a):jQ K H (ι.take n) m a:=by
 cases m with
 |lst xs=>obtain⟨vs,q,r⟩:=h;exact⟨vs,q,r.cut hb⟩|dct kvs=>obtain⟨ws,q,r1,r2⟩:=h;exact⟨ws,q,r1,r2.cut hb⟩|cC kvs=>obtain⟨ws,q,r1,r2⟩:=h;exact⟨ws,q,r1,r2.cut hb⟩|ins c fs=>
  rcases h with⟨C,dx,gs,q,c,r1,r2⟩|h
  .exact .inl ⟨C,dx,gs,q,c,r1,r2.cut hb⟩
  .exact .inr h
theorem aP.cut(S:aP K H ι M)(h:(M.take n).all (yU n)=true):aP K H (ι.take n) (M.take n):=by
 refine⟨by simp[S.len],S.nd.sublist (Ul _ _),λk m a h1 h2=>?_⟩;have hk:k<n:=by have:=(Yd.mp h1).1;rw[xY]at this;exact Y9 this (q_ _ _)
 have hb:yU n m=true:=jJ.mp h m (jo h1);rw[FJ hk]at h1 h2;exact(S.obj k m a h1 h2).cut hb
theorem ZW(S:aP K H ι M)(x:Ext K H ι H' ι')(S':aP K H' ι' M')(r:Rep K H' ι' d v)(h:aG K H ι Q (gq M d M')):Q v H':=by
 unfold gq at h;split at h
 .rename_i c;simp only[Y0,ul,decide_eq_true_eq]at c;have hall:(M'.take M.length).all (yU M.length)=true:=by
   rcases c.2 with e|e
   .rw[e,jJ];intro m hm;obtain⟨n,hn⟩:=Bq hm;obtain⟨a,q,w⟩:=S.at hn;rw[←S.len];exact w.below
   .exact e
  refine h v H' (ι'.take M.length) ⟨x.tup,x.aQ,λn a q=>?_,x.dB⟩ (S'.cut hall) (r.cut c.1);rw[FJ (by rw[←S.len];exact(Yd.mp q).1)];exact x.pre n a q
 .exact h v H' ι' x S' r
end
theorem cJ.start(r:aB K H ι ds vs)(n:Nat):cJ K H ι (ds.map Ya++Yj n Ye) (vs.map Ya++Yj n Ye):=by
 refine⟨by simp[r.length],λi d h=>?_⟩;by_cases hi:i<ds.length
 .rw[kZ (by simpa using hi),Yx]at h;cases q:ds[i]? with
  |none=>rw[q]at h;simp at h|some d'=>rw[q]at h;simp at h;subst h;obtain⟨v,e,z⟩:=r.get q;refine⟨v,?_,z⟩;rw[kZ (by simpa[r.length]using hi),Yx,e];rfl
 .rw[tX (by simpa using hi),FP]at h;split at h<;>simp at h
variable{ps:List aj}
section
variable {P:cj} {w:bO} {K:Yb} {mg:aj->Option Yg} {base:aY}
theorem ZX{qual:aj}{f:Yz}{fd:mq}{N:List aj}{k:Nat}(F:uy K x qual st f fd)(S:dD N ps (Zt st))(hb:∀(cdv:Yg) (A:cG) (outer:List gH) (s:Yh) (H:Hp) (E:XK),gJ k (A.deeper (o5 qual (Zt st) s.heap.objs.size f cdv))->pH (uw o_ P w K mg base N qual (Zt st) f cdv A outer s H E).yF (cM st) body):
  o9 P w K mg base o_ (k+1) f fd ps (zm K ps.length (bR ps.length N.length body)):=by
 refine F.ok S (λvs H Q E ⟨ι,M,ds,_,r,l,_⟩=>by rw[r.length,l]) λcdv A outer s H vs Q E hr ak=>?_;obtain⟨ι,M,ds,SR,r,l,h⟩:=ak;refine⟨_,hb cdv A outer s H E hr,ι,M,ds.map Ya++Yj (N.length-ps.length) Ye,SR,?_,?_⟩
 .have e:L2.start N vs=vs.map Ya++Yj (N.length-ps.length) Ye:=by unfold L2.start;rw[r.length,l]
  rw[e];exact cJ.start r _
 .unfold bR at h;rw[if_pos l]at h;cases q:body (ds.map Ya++Yj (N.length-ps.length) Ye) M with
  |nx env' M'=>rw[q]at h;exactλσ' H' ι' x S' E'=>ZW SR x S' Rep.non h|rt d M'=>rw[q]at h;exactλv H' ι' x S' r'=>ZW SR x S' r' h|bk _ _=>rw[q]at h;exact h.elim|ct _ _=>rw[q]at h;exact h.elim
  |exc _ _=>rw[q]at h;exact h.elim|bad=>rw[q]at h;exact h.elim
def aJ(P:cj)(w:bO)(K:Yb)(mg:aj->Option Yg)(base:aY)(k:Nat)(x:aj)(ps:List aj)(F:F3):Prop:=(∀ds M,ds.length≠ps.length->F ds M= .bad)/\∃f fd,mg x=Ya (.ref f)/\Bm K (.ref f)=true/\Binds K fd ps []/\o9 P w K mg base o_ k f fd ps (zm K ps.length F)
def bC(K:Yb)(mg:aj->Option Yg)(x:aj)(st:Yd1)(ps:List aj):Prop:=∃f fd,uy K x x st f fd/\mg x=Ya (.ref f)/\Binds K fd ps []
theorem aJ.of{N:List aj}{k:Nat}(d:bC K mg x st ps)(S:dD N ps (Zt st))(hb:∀(f:Yz) (cdv:Yg) (A:cG) (outer:List gH) (s:Yh) (H:Hp) (E:XK),gJ k (A.deeper (o5 x (Zt st) s.heap.objs.size f cdv))->pH (uw o_ P w K mg base N x (Zt st) f cdv A outer s H E).yF (cM st) body):
  aJ P w K mg base (k+1) x ps (bR ps.length N.length body):=by
 obtain⟨f,fd,F,m,bi⟩:=d;exact⟨λds M h=>if_neg h,f,fd,m,F.kp,bi,ZX F S (hb f)⟩
end
section
variable {X:Cx} {e:Expr} {es:List Expr} {pos p:bQ} {gl:iK} {x:aj} {k:Nat} {ps:List aj} {F:F3}
theorem bY(G:aJ X.prog X.w X.K X.mg X.base k x ps F)(hr:gJ k X.A)(ha:CA X (e::es) gl)(hg:Gl X x:=by rfl)(hdb:(x==("__debug__":aj))=false:=by decide)(he:cF (e::es) X.env=(false,bU e X.env)::cF es X.env:=by rfl)(hpl:(jq pos (cF es X.env)).any (·.1)=false:=by rfl):C3 X (.Call (.Name x p) (e::es) [] pos) (aH F gl):=by
 obtain⟨hn,f,fd,m,kp,bi,ok⟩:=G;refine(ZrH ok hr hg m kp bi .nil ZvC ha hdb he hpl).imp λσ H Q ak=>?_;obtain⟨ι,M,env,S,E,h⟩:=ak;obtain⟨ds,M1,e1,h⟩:=aG.bind h;refine⟨ι,M,env,S,E,?_⟩;rw[e1];intro vs H1 ι1 x1 S1 r1;have hl:ds.length=ps.length:=by refine M8 λq=>?_;rw[hn ds M1 q]at h;exact h.elim
 exact⟨ι1,M1,ds,S1,by rw[Yr];exact r1,hl,h.up x1⟩
end
def tGf(K:Yb)(g:G3):TG:=λv σ H Q=>∃ι M env d env',aP K H ι M/\cJ K H ι env σ/\Rep K H ι d v/\g d env=Ya env'/\∀σ',cJ K H ι env' σ'->Q σ' H
def tGs(K:Yb)(is:List Nat):o7:=λvs σ H Q=>∃ι M env ds env',aP K H ι M/\cJ K H ι env σ/\aB K H ι ds vs/\bindAll is ds env=Ya env'/\∀σ',cJ K H ι env' σ'->Q σ' H
def CG(X:Cx)(tg:Expr)(g:G3):Prop:=PG X tg (tGf X.K g)
def DN(X:Cx)(tg:List Expr)(is:List Nat):Prop:=o8 X tg (tGs X.K is)
theorem PG.imp{t t':TG}(h:PG X e t)(i:∀v σ H Q,t' v σ H Q->t v σ H Q):PG X e t':=λpins s σ H v u Q I r q=>h pins s σ H v u Q I r (i v σ H Q q)
theorem o8.imp{e:List Expr}{t t':o7}(h:o8 X e t)(i:∀v σ H Q,t' v σ H Q->t v σ H Q):o8 X e t':=λpins s σ H v u Q I r q=>h pins s σ H v u Q I r (i v σ H Q q)
section
variable {X:Cx} {e:Expr} {es:List Expr} {pos:bQ}
theorem oE(i:Nat)(hN:X.N.Nodup)(hi:X.N[i]?=Ya x:=by rfl)(hx:Loc X.env.scope x:=by first|exact Or.inl rfl|exact Or.inr rfl)(hf:X.fn x=true\/X.env.scope.names.lookup x=Ya .local:=by first|exact .inl rfl|exact .inr rfl):CG X (.Name x pos) (dz i):=PG.imp (WK hN hi hx hf) λv σ H Q ak=>by obtain⟨ι,M,env,d,env',S,E,r,q,h⟩:=ak;cases q;exact h _ (E.set i r)
theorem wN:DN X [] []:=o8.imp WL λv σ H Q ak=>by
 obtain⟨ι,M,env,ds,env',S,E,r,q,h⟩:=ak;cases ds with
 |nil=>cases q;exact⟨r.nil_inv,h σ E⟩|cons d ds=>cases q
theorem jU(i:Nat){is:List Nat}(hN:X.N.Nodup)(ht:DN X es is)(hi:X.N[i]?=Ya x:=by rfl)(hx:Loc X.env.scope x:=by first|exact Or.inl rfl|exact Or.inr rfl)(hf:X.fn x=true\/X.env.scope.names.lookup x=Ya .local:=by first|exact .inl rfl|exact .inr rfl)(hs:(fO (.Name x pos::es) X.env).map (·.2)=iy (.Name x pos) X.env::(fO es X.env).map (·.2):=by rfl):
  DN X (.Name x pos::es) (i::is):=o8.imp (NZ (WK hN hi hx hf) ht hs) λv σ H Q ak=>by
 obtain⟨ι,M,env,ds,env',S,E,r,q,h⟩:=ak;cases ds with
 |nil=>cases q|cons d ds=>obtain⟨v,ws,rfl,r1,r2⟩:=r.cons_inv;exact⟨v,ws,rfl,ι,M,env.set i (Ya d),ds,env',S,E.set i r1,r2,q,h⟩
theorem DP{is:List Nat}{k:Nat}(hc:X.calm=true)(h:DN X es is)(hl:es.length=is.length:=by rfl)(hn:(fO es X.env).length=is.length:=by rfl)(hst:(fO es X.env).findIdx? (·.1)=Ye:=by rfl):CG X (.Tuple es k pos) (jA is):=
 PG.imp (WM (n:=is.length) hc h hn hst) λv σ H Q ak=>by
  obtain⟨ι,M,env,d,env',S,E,r,q,h⟩:=ak;cases d with
  | tup ds=>
   obtain⟨a,vs,rfl,s,r⟩:=r.fW;have hlen:∀(is:List Nat) (ds:List D) (env env':bI),bindAll is ds env=Ya env'->ds.length=is.length:=by
    intro is
    induction is with
    |nil=>intro ds env env' h;cases ds with|nil=>rfl|cons d ds=>cases h
    |cons i is ih=>intro ds env env' h;cases ds with|nil=>cases h|cons d ds=>simp[ih ds _ _ h]
   exact⟨a,vs,rfl,s,by rw[r.length];exact hlen _ _ _ _ q,ι,M,env,ds,env',S,E,r,q,h⟩
  |_=>cases q
end
def pI(K:Yb)(H:Hp)(ι:List Yz)(it:jx)(J:It):Prop:=∀(i:Nat) H2 ι2 M2,Ext K H ι H2 ι2->aP K H2 ι2 M2->locked it M2=true ->
 (∀d,it.items[i]?=Ya d->J.go i H2/\∀x H3,J.Hi i H2 x H3->H3=H2/\Rep K H2 ι2 d x)/\(i=it.items.length->J.stop i H2)
def wO(K:Yb)(H:Hp)(ι:List Yz)(R:It->Hp->Prop)(r:R3 jx):Prop:=match r with
 | .ok it M'=>∀J H' ι',Ext K H ι H' ι'->aP K H' ι' M'->pI K H' ι' it J->R J H'|_=>False
def NQ(K:Yb)(g:I3):TI:=λσ H R=>∃ι M env,aP K H ι M/\cJ K H ι env σ/\wO K H ι R (g env M)
def CI(X:Cx)(tg e:Expr)(g:I3):Prop:=PI X tg e (NQ X.K g)
theorem PI.imp{tg:Expr}{t t':TI}(h:PI X tg e t)(i:∀σ H Q,t' σ H Q->t σ H Q):PI X tg e t':=λpins s σ H Q I q=>h pins s σ H Q I (i σ H Q q)
theorem PI.or{tg:Expr}{t t':TI}(h:PI X tg e t)(h':PI X tg e t'):PI X tg e (λσ H R=>t σ H R\/t' σ H R):=λpins s σ H Q I q=>q.elim (h pins s σ H Q I) (h' pins s σ H Q I)
theorem wO.bind{Q:It->Hp->Prop}{r:R3 α}{k:α->Store->R3 jx}(h:wO K H ι Q (r.bind k)):∃a M,r= .ok a M/\wO K H ι Q (k a M):=by
 cases r with
 |ok a M=>exact⟨a,M,rfl,h⟩|exc x M=>exact h.elim|bad=>exact h.elim
section
variable {X:Cx} {tg e a b:Expr} {pos p:bQ} {f g:E3}
theorem Zuo(h:C3 X e f)(hs:PI X tg e (λσ H R=>pF X.K f σ H λx H1=>∃z:aj,x= .str z/\z.length<=SZ/\∀J,(∀ι,pI X.K H1 ι ⟨z.cps.toList.map λc=>.str [c],Ye⟩ J)->R J H1)):CI X tg e (jO f):=
 PI.imp (PI.or (ZtG h) (PI.or (Zr0 h) hs)) λσ H R ak=>by
  obtain⟨ι,M,env,S,E,h⟩:=ak;obtain⟨d,M1,e1,h⟩:=wO.bind h;cases d with
  |tup ds=>refine .inl ⟨ι,M,env,S,E,?_⟩;rw[e1];intro v H1 ι1 x1 S1 r1;obtain⟨a,vs,rfl,s,r⟩:=r1.fW;refine⟨a,rfl,⟨vs,s⟩,h _ H1 ι1 x1 S1 ?_⟩;intro i H2 ι2 M2 x S2 _;refine⟨λd hd=>?_,λhl=>⟨vs,x.tup _ _ s,by rw[r.length,hl];exact Yk _⟩⟩;obtain⟨v,hv,rv⟩:=r.get hd;refine⟨⟨vs,v,x.tup _ _ s,hv⟩,λy H3 hy=>⟨hy.1,?_⟩⟩;have e:=hy.2 vs (x.tup _ _ s);rw[hv]at e;cases e;exact rv.mono x|aQ ds=>refine .inr (.inl ⟨ι,M,env,S,E,?_⟩);rw[e1];intro v H1 ι1 x1 S1 r1;obtain⟨a,vs,rfl,s,r⟩:=r1.qZ;refine⟨a,rfl,⟨vs,s.sq⟩,h _ H1 ι1 x1 S1 ?_⟩;intro i H2 ι2 M2 x S2 _;refine⟨λd hd=>?_,λhl=>⟨vs,(x.aQ _ _ s).sq,by rw[r.length,hl];exact Yk _⟩⟩;obtain⟨v,hv,rv⟩:=r.get hd;refine⟨⟨vs,v,(x.aQ _ _ s).sq,hv⟩,λy H3 hy=>⟨hy.1,?_⟩⟩;have e:=hy.2 vs (x.aQ _ _ s).sq;rw[hv]at e;cases e;exact rv.mono x|ref n=>
   refine .inr (.inl ⟨ι,M,env,S,E,?_⟩);rw[e1];intro v H1 ι1 x1 S1 r1;cases hm:M1[n]? with
   |none=>simp only[hm]at h;exact h.elim|some o=>
    cases o with
    |dct kvs=>simp only[hm]at h;exact h.elim|cC kvs=>simp only[hm]at h;exact h.elim|ins _ _=>simp only[hm]at h;exact h.elim|lst ds=>simp only[hm]at h;obtain⟨a,ha,rfl⟩:=r1.gF;obtain⟨vs,q,r⟩:=S1.obj n _ a hm ha;refine⟨a,rfl,⟨vs,cL.of q⟩,h _ H1 ι1 x1 S1 ?_⟩;intro i H2 ι2 M2 x S2 lk;have PQ:M2[n]?=Ya (.lst ds):=of_decide_eq_true lk;obtain⟨vs2,q2,r2⟩:=S2.obj n _ a PQ (x.pre _ _ ha);refine⟨λd hd=>?_,λhl=>⟨vs2,cL.of q2,by rw[r2.length,hl];exact Yk _⟩⟩;obtain⟨v,hv,rv⟩:=r2.get hd;refine⟨⟨vs2,v,cL.of q2,hv⟩,λy H3 hy=>⟨hy.1,?_⟩⟩;have e:=hy.2 vs2 (cL.of q2);rw[hv]at e;cases e;exact rv
  | str z=>
   refine .inr (.inr ⟨ι,M,env,S,E,?_⟩);rw[e1];intro v H1 ι1 x1 S1 r1;have hv:=r1.str_inv;subst hv;by_cases hz:z.length<=SZ
   .simp only[if_pos hz]at h;refine⟨_,rfl,by simpa[p_]using hz,λJ hJ=>h J H1 ι1 x1 S1 ?_⟩;simpa using hJ ι1
   .simp only[if_neg hz]at h;exact h.elim
  |non=>exact h.elim|bl b=>exact h.elim|int i=>exact h.elim
theorem ZqJ(lo:Int)(n:Nat):pI K H ι ⟨eQ lo n,Ye⟩ (Hj lo n):=by
 intro i H2 ι2 M2 x S _;refine⟨λd hd=>?_,λhl=>?_⟩
 .unfold eQ at hd;rw[Yx]at hd;cases q:(dm n)[i]? with
  |none=>rw[q]at hd;cases hd|some k=>
   rw[q]at hd;obtain⟨hi,e⟩:=Yd.mp q;rw[Ui]at e;subst e;have hd':D.int (lo+(i:Int))=d:=by simpa using hd
   subst hd';exact⟨(by show i<n;simpa using hi),λy H3 hy=>⟨hy.1,by rw[hy.2];exact Rep.int⟩⟩
 .show n<=i;rw[hl];simp[eQ]
theorem zp(hm:X.mg "range" =Ye)(h:C3 X a f)(hg:Gl X "range":=by rfl)(hs:cF [a] X.env=[(false,bU a X.env)]:=by rfl)(hs':cF (a::[]) X.env=(false,bU a X.env)::cF [] X.env:=by rfl):CI X tg (.Call (.Name "range" p) [a] [] pos) (jP f):=
 PI.imp (Zpz hg hm (Zc h Zj hs') hs) λσ H R ak=>by
  obtain⟨ι,M,env,S,E,h⟩:=ak;obtain⟨d,M1,e1,h⟩:=wO.bind h;refine⟨ι,M,env,S,E,?_⟩;have e2:Zb f Zg env M= .ok [d] M1:=by unfold Zb;rw[e1];rfl
  rw[e2];intro vs H1 ι1 x1 S1 r1;obtain⟨v,ws,rfl,r,q⟩:=r1.cons_inv;have:=q.nil_inv;subst this;cases d with
  | int j=>
   have hv:=r.int_inv;subst hv;by_cases hj:j<=1000000/\ -1000000<=j
   .simp only[if_pos hj]at h;exact⟨j,rfl,by omega,by omega,h _ H1 ι1 x1 S1 (ZqJ 0 j.toNat)⟩
   .simp only[if_neg hj]at h;exact h.elim
  |_=>exact h.elim
theorem Iv{iter:Expr}{body:List Yd1}{i:I3}{g:G3}(sU:X.xe=λ_ _=>False)(hc:X.calm=true)(hi:CI X tg iter i)(hg:CG X tg g)(hb:pH X body u)(hs:∀x,ye iter X.env x=pure x:=by intro _;rfl):
  CS X (.For tg iter body [] pos) (sG i g u):=(WT (by rw[sU];exact Nk) hc hi hg hb hs).imp λD σ H ak=>by
 obtain⟨ι,M,env,S,E,h⟩:=ak;unfold sG at h;cases q:i env M with
 |exc x M1=>rw[q]at h;exact h.elim|bad=>rw[q]at h;exact h.elim|ok it M1=>
  rw[q]at h;refine⟨ι,M,env,S,E,?_⟩;rw[q];intro J H1 ι1 x1 S1 ok;refine⟨λi m σ2 H2=>m=it.items.length-i/\i<=it.items.length/\∃ι2 M2 iU,Ext X.K H1 ι1 H2 ι2/\aP X.K H2 ι2 M2/\cJ X.K H2 ι2 iU σ2/\jR X.K H2 ι2 D (mG it g u (it.items.drop i) iU M2),
   ⟨_,rfl,eV _,ι1,M1,env,Ext.refl,S1,E.mono x1,jR.up x1 h⟩,?_⟩
  rintro i m σ2 H2 ⟨rfl,hi,ι2,M2,iU,x2,S2,E2,h2⟩;by_cases hlt:i<it.items.length
  .have hd:it.items[i]?=Ya it.items[i]:=by simp[hlt]
   rw[Bp hlt]at h2
   first|rw[yS]at h2|rw[Dk]at h2
   by_cases lk:locked it M2=true
   .rw[if_pos lk]at h2;obtain⟨go,yl⟩:=(ok i H2 ι2 M2 x2 S2 lk).1 _ hd;cases eg:g it.items[i] iU with
    |none=>rw[eg]at h2;exact h2.elim|some vf=>
     rw[eg]at h2;refine .inr ⟨go,λσ' H'=>∃ι3 M3 nj,Ext X.K H2 ι2 H' ι3/\aP X.K H' ι3 M3/\cJ X.K H' ι3 nj σ'/\jR X.K H' ι3 D (mG it g u (it.items.drop (i+1)) nj M3),
      λσ' H' ⟨ι3,M3,nj,x3,S3,E3,h3⟩=>⟨it.items.length-(i+1),lD 2 0x30113c2012a1c0c21 T1 (Yc (lB 1 6991908881 T1 hlt)) (bZ _ _),rfl,hlt,ι3,M3,nj,x2.trans x3,S3,E3,h3⟩,λx H' hy=>?_⟩
     obtain⟨rfl,rx⟩:=yl x H' hy;refine⟨ι2,M2,iU,_,vf,S2,E2,rx,eg,λσ' E'=>⟨ι2,M2,vf,S2,E',?_⟩⟩;cases qu:u vf M2 with
     |nx e' M'=>simp only[qu]at h2;exactλσ' H' ι' x' S' E'=>⟨ι',M',e',x',S',E',h2.up x'⟩|ct e' M'=>simp only[qu]at h2;exactλσ' H' ι' x' S' E'=>⟨ι',M',e',x',S',E',h2.up x'⟩|bk e' M'=>simp only[qu]at h2;exact h2|rt d M'=>simp only[qu]at h2;exact h2
     |exc x' M'=>simp only[qu]at h2;exact h2.elim|bad=>simp only[qu]at h2;exact h2.elim
   .rw[if_neg lk]at h2;exact h2.elim
  .have e0:i=it.items.length:=Yt hi (iH hlt);subst e0;rw[Lb]at h2
   first|rw[yS]at h2|rw[Dk]at h2
   by_cases lk:locked it M2=true
   .rw[if_pos lk]at h2;exact .inl ⟨(ok _ H2 ι2 M2 x2 S2 lk).2 rfl,h2 σ2 H2 ι2 Ext.refl S2 E2⟩
   .rw[if_neg lk]at h2;exact h2.elim
theorem ZZ{c1:Expr}{body:List Yd1}(sU:X.xe=λ_ _=>False)(hc:CT X c1 f)(hb:pH X body u):CS X (.While c1 body [] pos) (Dl f u):=(Zrb (by rw[sU];exact Nk) hc hb).imp λD σ H ak=>by
 obtain⟨ι,M,env,S,E,h⟩:=ak;refine⟨λm σ2 H2=>∃ι2 M2 iU,aP X.K H2 ι2 M2/\cJ X.K H2 ι2 iU σ2/\jR X.K H2 ι2 D (mH f u m iU M2),⟨1000000,ι,M,env,S,E,h⟩,?_⟩;rintro m σ2 H2 ⟨ι2,M2,iU,S2,E2,h2⟩;cases m with
 |zero=>exact h2.elim|succ m=>
  refine⟨ι2,M2,iU,S2,E2,?_⟩;rw[ZqK]at h2;cases q:f iU M2 with
  |exc x M1=>rw[q]at h2;exact h2.elim|bad=>rw[q]at h2;exact h2.elim|ok d M1=>
   rw[q]at h2;cases d with
   | bl k=>
    cases k with
    |false=>intro H3 ι3 x3 S3;rw[if_neg (by decide)];exact h2 σ2 H3 ι3 x3 S3 (E2.mono x3)|true=>
     intro H3 ι3 x3 S3;rw[if_pos rfl];refine⟨λσ' H'=>∃ι4 M4 nj,aP X.K H' ι4 M4/\cJ X.K H' ι4 nj σ'/\jR X.K H' ι4 D (mH f u m nj M4),λσ' H' q=>⟨m,Nat.lt_succ_self _,q⟩,ι3,M1,iU,S3,E2.mono x3,?_⟩;have h3:=jR.up x3 h2;cases qu:u iU M1 with
     |nx e' M'=>simp only[qu]at h3;exactλσ' H' ι' x' S' E'=>⟨ι',M',e',S',E',h3.up x'⟩|ct e' M'=>simp only[qu]at h3;exactλσ' H' ι' x' S' E'=>⟨ι',M',e',S',E',h3.up x'⟩|bk e' M'=>simp only[qu]at h3;exact h3|rt d M'=>simp only[qu]at h3;exact h3
     |exc x' M'=>simp only[qu]at h3;exact h3.elim|bad=>simp only[qu]at h3;exact h3.elim
   |_=>exact h2.elim
end
theorem Rep.R7(r:Rep K H ι d v):decide (v=V.non)=decide (d=D.non):=by
 cases d with
 |non=>rw[r.jZ];rfl|bl b=>rw[r.je];rfl|int i=>rw[r.int_inv];rfl|str x=>rw[r.str_inv];rfl
 |tup ds=>obtain⟨a,vs,e,_⟩:=r.fW;rw[e];rfl|aQ ds=>obtain⟨a,vs,e,_⟩:=r.qZ;rw[e];rfl|ref n=>obtain⟨a,_,e⟩:=r.gF;rw[e];rfl
theorem Z0{x y:List Nat}:decide (V.str ⟨x.toArray⟩=V.str ⟨y.toArray⟩)=(x==y):=by
 by_cases h:x=y
 .subst h;simp
 .rw[decide_eq_false (λe=>h (by injection e with e1;injection e1 with e2;simpa using congrArg Ce e2))]
  exact(beq_eq_false_iff_ne.mpr h).symm
section
variable {X:Cx}
theorem ZqN:bf X (iI .Add) (λx y H Q=>∃a b ys,x= .ref a/\y= .ref b/\cZ X.K H a []/\cZ X.K H b ys/\Q (.ref b) H):=by
 intro pins s σ H x y v u Q I rx ry h;obtain⟨a,b,ys,rfl,rfl,ha,hb,q⟩:=h;cases rx;cases ry;obtain⟨its,r1,p1,_⟩:=I.tuple ha;obtain⟨its2,r2,p2,_⟩:=I.tuple hb;cases r1;obtain⟨⟨cls,dd,data,sl⟩,ho,hc,n,hd⟩:=id p1;obtain⟨⟨cls2,dd2,data2,sl2⟩,ho2,hc2,n2,hd2⟩:=id p2;simp only at hc hd hc2 hd2;subst hc hd hc2 hd2;exact Lx ⟨_,ho,rfl⟩ ⟨_,ho2,rfl⟩ Lq Ls MT MP (MN _ _)
   (tuple_addW0 a b _ its2.toArray n n2 dd dd2 sl sl2 (by simp)) ⟨ho,ho2,⟨.ref b,H,I,rfl,q⟩⟩
theorem Zss(x y:List Nat):(⟨x.toArray⟩:aj)++⟨y.toArray⟩=⟨(x++y).toArray⟩:=by show Str.append _ _=_;unfold Str.append;simp
noncomputable def Iw(o:Option D)(f:D->R3 D):R3 D:=match o with
 |some d=>f d|none=>.bad
theorem PX{o:Option D}{f:D->R3 D}(h:aG K H ι Q (Iw o f)):∃x,o=Ya x/\aG K H ι Q (f x):=by
 cases o with
 |none=>exact h.elim|some x=>exact⟨x,rfl,h⟩
noncomputable def Z1(o:Option Nat)(f:Nat->R3 D):R3 D:=match o with
 |some d=>f d|none=>.bad
theorem Zr4{o:Option Nat}{f:Nat->R3 D}(h:aG K H ι Q (Z1 o f)):∃x,o=Ya x/\aG K H ι Q (f x):=by
 cases o with
 |none=>exact h.elim|some x=>exact⟨x,rfl,h⟩
noncomputable def P0(o:Option MO)(f:List D->R3 D):R3 D:=match o with
 |some (.lst x)=>f x|_=>.bad
theorem Z2{o:Option MO}{f:List D->R3 D}(h:aG K H ι Q (P0 o f)):∃x,o=Ya (.lst x)/\aG K H ι Q (f x):=by
 cases o with
 |none=>exact h.elim|some o=>cases o with
  |lst x=>exact⟨x,rfl,h⟩|_=>exact h.elim
noncomputable def Z3(a b:Option MO)(f:List D->List D->R3 D):R3 D:=match a,b with
 |some (.lst x),Ya (.lst y)=>f x y|_,_=>.bad
theorem Zq8{a b:Option MO}{f:List D->List D->R3 D}(h:aG K H ι Q (Z3 a b f)):∃x y,a=Ya (.lst x)/\b=Ya (.lst y)/\aG K H ι Q (f x y):=by
 cases a with
 |none=>exact h.elim|some a=>cases a with
  | lst x=>cases b with
   |none=>exact h.elim|some b=>cases b with
    |lst y=>exact⟨x,y,rfl,rfl,h⟩|_=>exact h.elim
  |_=>exact h.elim
theorem wQ{c:Prop}{_:Decidable c}(h:aG K H ι Q (if c then r else .bad)):c/\aG K H ι Q r:=by
 by_cases hc:c
 .rw[if_pos hc]at h;exact⟨hc,h⟩
 .rw[if_neg hc]at h;exact h.elim
theorem Z4(r:aB K H ι ds []):ds=[]:=Bo r.length.symm
theorem bT:bf X (iI .Add) (r2 X.K aM):=bf.imp (bf.or ZtT (bf.or Znf (bf.or ZtQ (bf.or ZrN ZqN)))) λx y H Q ak=>by
 obtain⟨ι,M,a,b,S,ra,rb,h⟩:=ak;cases a with
 |int i=>cases b with
  |int j=>exact .inl ⟨i,j,ra.int_inv,rb.int_inv,aG.ok h S Rep.int⟩|_=>exact h.elim
 | str x=>cases b with
  |str y=>obtain⟨hz,h⟩:=wQ h;exact .inr (.inl ⟨_,_,ra.str_inv,rb.str_inv,Y4 hz mO,by rw[Zss];exact aG.ok h S Rep.str⟩)|_=>exact h.elim
 | tup x=>cases b with
  | tup y=>
   obtain⟨hz,h⟩:=wQ h;obtain⟨p,vs,e,s,r⟩:=ra.fW;obtain⟨q,ws,e',s',r'⟩:=rb.fW;by_cases hv:vs=[]
   .rw[hv]at r s;rw[Z4 r]at h;exact .inr (.inr (.inr (.inr ⟨p,q,ws,e,e',s,s',aG.ok h S (Rep.tup s' r')⟩)))
   .refine .inr (.inr (.inr (.inl ⟨p,q,vs,ws,e,e',s,s',hv,by rw[r.length,r'.length];exact Y4 hz mO,λhw=>?_,λhw p' hp=>?_⟩)))
    .rw[hw]at r';rw[Z4 r',Yr]at h;exact aG.ok h S (Rep.tup s r)
    .obtain⟨x2,S2,r2⟩:=S.vd hp (r.append r');exact h _ _ _ x2 S2 r2
  |_=>exact h.elim
 | ref n=>cases b with
  |ref m=>have h:aG X.K H ι Q (Z3 M[n]? M[m]? λx y=>@ite _ (x.length+y.length<=SZ) (Yp _) (alloc (.lst (x++y)) M) .bad):=h;obtain⟨x,y,hn,hm,h⟩:=Zq8 h;obtain⟨hz,h⟩:=wQ h;obtain⟨p,hp,e⟩:=ra.gF;obtain⟨q,hq,e'⟩:=rb.gF;obtain⟨vs,e1,r1⟩:=S.obj n _ p hn hp;obtain⟨ws,e2,r2⟩:=S.obj m _ q hm hq;refine .inr (.inr (.inl ⟨p,q,vs,ws,e,e',e1,e2,by rw[r1.length,r2.length];exact Y4 hz mO,λp' hp'=>?_⟩));obtain⟨x2,S2,r3⟩:=S.lst hp' (r1.append r2);exact h _ _ _ x2 S2 r3|_=>exact h.elim
 |_=>cases b<;>exact h.elim
theorem kI:bf X (iI .Sub) (r2 X.K eO):=bf.imp Ztc λx y H Q ak=>by obtain⟨ι,M,a,b,S,ra,rb,h⟩:=ak;cases a<;>cases b<;>first|exact h.elim|exact⟨_,_,ra.int_inv,rb.int_inv,aG.ok h S Rep.int⟩
theorem dH:bf X (iI .Mod) (r2 X.K aZ):=bf.imp Ztj λx y H Q ak=>by
 obtain⟨ι,M,a,b,S,ra,rb,h⟩:=ak;cases a with
 | int i=>cases b with
  | int j=>
   simp only[Xz]at h;split at h
   .rename_i hj;exact⟨i,j,ra.int_inv,rb.int_inv,hj,aG.ok h S Rep.int⟩
   .exact h.elim
  |_=>exact h.elim
 |_=>cases b<;>exact h.elim
theorem fM:bf X (iI .FloorDiv) (r2 X.K b_):=bf.imp Zsr λx y H Q ak=>by
 obtain⟨ι,M,a,b,S,ra,rb,h⟩:=ak;cases a with
 | int i=>cases b with
  | int j=>
   simp only[XC]at h;split at h
   .rename_i hj;exact⟨i,j,ra.int_inv,rb.int_inv,hj,aG.ok h S Rep.int⟩
   .exact h.elim
  |_=>exact h.elim
 |_=>cases b<;>exact h.elim
theorem Iz:bf X (iI .Pow) (r2 X.K yL):=bf.imp Zuh λx y H Q ak=>by
 obtain⟨ι,M,a,b,S,ra,rb,h⟩:=ak;cases a with
 | int i=>cases b with
  | int j=>
   simp only[Zqo]at h;split at h
   .rename_i hj;exact⟨i,j,ra.int_inv,rb.int_inv,⟨hj.1,iN [] [_] 1 0xf42405b083e83b081 T1 hj.2.1,by have:=hj.2.2;omega⟩,aG.ok h S Rep.int⟩
   .exact h.elim
  |_=>exact h.elim
 |_=>cases b<;>exact h.elim
theorem zq:rR X (Gq .USub) (r1 X.K mF):=rR.imp ZtD λx H Q ak=>by
 obtain⟨ι,M,a,S,ra,h⟩:=ak;cases a with
 |int i=>exact⟨i,ra.int_inv,aG.ok h S Rep.int⟩|_=>exact h.elim
theorem IK:bf X (gG .Lt) (r2 X.K yM):=bf.imp ZvQ λx y H Q ak=>by obtain⟨ι,M,a,b,S,ra,rb,h⟩:=ak;cases a<;>cases b<;>first|exact h.elim|exact⟨_,_,ra.int_inv,rb.int_inv,aG.ok h S Rep.bl⟩
theorem P_:bf X (gG .LtE) (r2 X.K nQ):=bf.imp ZuO λx y H Q ak=>by obtain⟨ι,M,a,b,S,ra,rb,h⟩:=ak;cases a<;>cases b<;>first|exact h.elim|exact⟨_,_,ra.int_inv,rb.int_inv,aG.ok h S Rep.bl⟩
theorem wR:bf X (gG .Gt) (r2 X.K lG):=bf.imp Zvn λx y H Q ak=>by obtain⟨ι,M,a,b,S,ra,rb,h⟩:=ak;cases a<;>cases b<;>first|exact h.elim|exact⟨_,_,ra.int_inv,rb.int_inv,aG.ok h S Rep.bl⟩
theorem Z5:bf X (gG .GtE) (r2 X.K Hy):=bf.imp Zvx λx y H Q ak=>by obtain⟨ι,M,a,b,S,ra,rb,h⟩:=ak;cases a<;>cases b<;>first|exact h.elim|exact⟨_,_,ra.int_inv,rb.int_inv,aG.ok h S Rep.bl⟩
theorem Qa:bf X (gG .Is) (r2 X.K su):=bf.imp Zs0 λx y H Q ak=>by
 obtain⟨ι,M,a,b,S,ra,rb,h⟩:=ak;cases b with
 |non=>exact⟨rb.jZ,by rw[ra.R7];exact aG.ok h S Rep.bl⟩|_=>exact h.elim
theorem zr:bf X (gG .IsNot) (r2 X.K lH):=bf.imp ZrQ λx y H Q ak=>by
 obtain⟨ι,M,a,b,S,ra,rb,h⟩:=ak;cases b with
 |non=>exact⟨rb.jZ,by rw[ra.R7];exact aG.ok h S Rep.bl⟩|_=>exact h.elim
end
theorem units_in1(A:cG):A.in1.units=A.units+1:=rfl
variable{es:List D}
section
variable {X:Cx} {pins:List (Yz×aV)} {σ:St} {H:Hp} {s:Yh} {ι:List Yz}
theorem Zlx{e:Nat->Bool}:∀{x y:List D},x.length=y.length->(∀(j:Nat) a b,x[j]?=Ya a->y[j]?=Ya b->e j=eG a b)->(dm x.length).all e=fQ x y:=by
 intro x
 induction x generalizing e with
 |nil=>intro y h _;cases y with|nil=>rfl|cons _ _=>simp at h
 | cons a x ih=>
  intro y h he;cases y with
  |nil=>simp at h|cons b y=>rw[gW,Ub,t7,List.all_map,he 0 a b rfl rfl];rw[rZ];congr 1;exact ih (e:=e ∘ Nat.succ) (by simpa using h) λj a' b' h1 h2=>he (j+1) a' b' (by simpa using h1) (by simpa using h2)
theorem Z6:∀{x y:List D},fQ x y=true->x.length=y.length
 |[],[],_=>rfl|[],_::_,h=>ft h|_::_,[],h=>ft h|a::x,b::y,h=>congrArg Nat.succ (Z6 (vN.mp (h:(eG a b&&fQ x y)=true)).2)
theorem IV(h:b7 0 d=true):gZ d=true:=by cases d<;>first|exact rfl|exact h
theorem zu(h:b7 (n+1) d=true):gZ d=true\/∃ds,d= .tup ds:=by
 cases d with
 |tup ds=>exact .inr ⟨ds,rfl⟩|aQ _=>exact ft h|ref _=>exact ft h|_=>exact .inl rfl
theorem Z7{a b:D}(fa:gZ a=true)(fb:gZ b=true)(r:Rep K H ι a v)(q:Rep K H ι b v):eG a b=true:=by
 cases a with
 |non=>have e:=r.jZ;cases b with
  |non=>rfl|bl _=>cases e.symm.trans q.je|int _=>cases e.symm.trans q.int_inv|str _=>cases e.symm.trans q.str_inv
  |_=>exact ft fb
 |bl x=>have e:=r.je;cases b with
  |non=>cases e.symm.trans q.jZ|bl _=>exact beq_iff_eq.mpr (V.bl.inj (e.symm.trans q.je))|int _=>cases e.symm.trans q.int_inv|str _=>cases e.symm.trans q.str_inv
  |_=>exact ft fb
 |int x=>have e:=r.int_inv;cases b with
  |non=>cases e.symm.trans q.jZ|bl _=>cases e.symm.trans q.je|int _=>exact beq_iff_eq.mpr (V.int.inj (e.symm.trans q.int_inv))|str _=>cases e.symm.trans q.str_inv
  |_=>exact ft fb
 |str x=>have e:=r.str_inv;cases b with
  |non=>cases e.symm.trans q.jZ|bl _=>cases e.symm.trans q.je|int _=>cases e.symm.trans q.int_inv|str _=>exact Z0.symm.trans (decide_eq_true (e.symm.trans q.str_inv))
  |_=>exact ft fb
 |_=>exact ft fa
theorem Z8{a:D}{p:Yz}(fa:gZ a=true)(r:Rep K H ι a v)(e:v= .ref p):False:=by
 cases a with
 |non=>cases e.symm.trans r.jZ|bl x=>cases e.symm.trans r.je|int x=>cases e.symm.trans r.int_inv|str x=>cases e.symm.trans r.str_inv
 |_=>exact ft fa
theorem Rep.fun1(I:Inv X pins σ H s):∀(n:Nat) (a b:D) (v:V),b7 n a=true->b7 n b=true->Rep X.K H ι a v->Rep X.K H ι b v->eG a b=true:=by
 intro n
 induction n with
 |zero=>intro a b v ha hb r q;exact Z7 (IV ha) (IV hb) r q|succ n ih=>
  intro a b v ha hb r q;rcases zu ha with fa|⟨ds,ea⟩
  .rcases zu hb with fb|⟨es,eb⟩
   .exact Z7 fa fb r q
   .rw[eb]at q;obtain⟨p,vs,e,_⟩:=q.fW;exact(Z8 fa r e).elim
  .rw [ea]at r ha ⊢;obtain⟨p,vs,e,s1,r1⟩:=r.fW;rcases zu hb with fb|⟨es,eb⟩
   .exact(Z8 fb q e).elim
   .rw[eb]at q hb ⊢;obtain⟨p',ws,e',s2,r2⟩:=q.fW;rw[←V.ref.inj (e.symm.trans e')]at s2;rw[←I.Kd s1 s2]at r2;clear s1 s2 e e' q r eb ea;rw[qw];revert ha hb r1 r2
    induction ds generalizing es vs with
    |nil=>
     intro _ r1 _ r2;cases es with
     |nil=>rfl|cons _ _=>obtain⟨_,_,e,_⟩:=r2.cons_inv;cases r1.nil_inv.symm.trans e
    | cons d ds ih2=>
     intro h1 r1 h2 r2;obtain⟨v,ws,e,q1,q2⟩:=r1.cons_inv;cases es with
     |nil=>cases r2.nil_inv.symm.trans e|cons e' es=>obtain⟨v',ws',z,q3,q4⟩:=r2.cons_inv;obtain⟨z1,z2⟩:=Nb (z.symm.trans e);rw[z1]at q3;rw[z2]at q4;have g1:=vN.mp (h1:(b7 n d&&ds.all (b7 n))=true);have g2:=vN.mp (h2:(b7 n e'&&es.all (b7 n))=true);rw[rZ,ih d e' v g1.1 g2.1 q1 q3];exact ih2 ws es g1.2 q2 g2.2 q4
theorem zx{x:V}{u:Yg}(r:Rep K H ι .non x)(e:RelV x u):u= .none:=by rw[r.jZ]at e;cases e;rfl
theorem uP{b:Bool}{x:V}{u:Yg}(r:Rep K H ι (.bl b) x)(e:RelV x u):u= .bool b:=by rw[r.je]at e;cases e;rfl
theorem uQ{i:Int}{x:V}{u:Yg}(r:Rep K H ι (.int i) x)(e:RelV x u):∃t,u= .int i t:=by rw[r.int_inv]at e;exact e
theorem uR{i:List Nat}{x:V}{u:Yg}(r:Rep K H ι (.str i) x)(e:RelV x u):∃t,u= .str ⟨i.toArray⟩ t:=by rw[r.str_inv]at e;exact e
inductive Qc(X:Cx)(H:Hp)(ι:List Yz)(T:Yz->Array Yg->Prop)(ds:List D)(x:V)(u:Yg):Prop
 |mk (p:Yz) (vs:List V) (its:List Yg):x= .ref p->u= .ref p->T p its.toArray->aB X.K H ι ds vs->Vals vs its->Qc X H ι T ds x u
theorem DQ(I:Inv X pins σ H s){x:V}{u:Yg}(r:Rep X.K H ι (.tup ds) x)(e:RelV x u):Qc X H ι s.heap.IsTuple ds x u:=by obtain⟨p,vs,ex,s1,r1⟩:=r.fW;obtain⟨its,rvs,ht,_⟩:=I.tuple s1;rw[ex]at e;exact⟨p,vs,its,ex,e,ht,r1,rvs⟩
theorem N7{i k:List Nat}:decide (i=k)=((⟨i.toArray⟩:aj)==⟨k.toArray⟩):=by
 rw[←Gr,←Z0];by_cases h:(⟨i.toArray⟩:aj)=⟨k.toArray⟩
 .rw[h,beq_self_eq_true];exact decide_eq_true rfl
 .rw[beq_eq_false_iff_ne.mpr h];exact decide_eq_false λe=>h (V.str.inj e)
theorem ZrY{i k:List Nat}:eG (.str i) (.str k)=((⟨i.toArray⟩:aj)==⟨k.toArray⟩):=Cm (show(i==k)=decide (i=k)from Gr i k) N7
theorem Z9(A:cG)(a b:D)(x y:V)(u v:Yg)(ha:gZ a=true)(hb:gZ b=true)(ra:Rep X.K H ι a x)(rb:Rep X.K H ι b y)(ru:RelV x u)(rv:RelV y v):uq A s u v (eG a b):=by
 cases a with
 |non=>rw[zx ra ru];cases b with
  |non=>rw[zx rb rv];exact Ni _|bl k=>rw[uP rb rv];exact VB _|int k=>obtain⟨t,e⟩:=uQ rb rv;rw[e];exact VG _ _|str k=>obtain⟨t,e⟩:=uR rb rv;rw[e];exact VH _ _
  |_=>exact ft hb
 |bl i=>rw[uP ra ru];cases b with
  |non=>rw[zx rb rv];exact VD _|bl k=>rw[uP rb rv];exact VF _ _|int k=>obtain⟨t,e⟩:=uQ rb rv;rw[e];exact VJ _ _ _|str k=>obtain⟨t,e⟩:=uR rb rv;rw[e];exact VL _ _ _
  |_=>exact ft hb
 |int i=>obtain⟨t0,e0⟩:=uQ ra ru;rw[e0];cases b with
  |non=>rw[zx rb rv];exact VN _ _|bl k=>rw[uP rb rv];exact VP _ _ _|int k=>obtain⟨t,e⟩:=uQ rb rv;rw[e];exact V0 _ _ _ _|str k=>obtain⟨t,e⟩:=uR rb rv;rw[e];exact Ng _ _ _ _
  |_=>exact ft hb
 |str i=>obtain⟨t0,e0⟩:=uR ra ru;rw[e0];cases b with
  |non=>rw[zx rb rv];exact VR _ _|bl k=>rw[uP rb rv];exact VV _ _ _|int k=>obtain⟨t,e⟩:=uQ rb rv;rw[e];exact Nh _ _ _ _|str k=>obtain⟨t,e⟩:=uR rb rv;rw[e,ZrY];exact V1 _ _ _ _
  |_=>exact ft hb
 |_=>exact ft ha
noncomputable def DR(ds es:List D)(j:Nat):Bool:=match ds[j]?,es[j]? with|some a,Ya b=>eG a b|_,_=>false
theorem Z_(hl:ds.length≠es.length):fQ ds es=false:=by
 cases q:fQ ds es with
 |false=>rfl|true=>exact absurd (Z6 q) hl
theorem ZoE(hn:n=ds.length)(hl:ds.length=es.length):(dm n).all (DR ds es)=fQ ds es:=by rw[hn];exact Zlx hl λj a b h1 h2=>by unfold DR;rw[h1,h2]
theorem Zon{m:Nat}(hn:n=ds.length)(hm:m=es.length):((dm (iJ n m)).all (DR ds es)&&n==m)=fQ ds es:=by
 by_cases hl:ds.length=es.length
 .have e:n=m:=hn.trans (hl.trans hm.symm);rw[←e,Nat.min_self,beq_self_eq_true,BZ];exact ZoE hn hl
 .rw[Z_ hl,beq_eq_false_iff_ne.mpr λe=>hl (hn.symm.trans (e.trans hm)),Bool.and_false]
theorem pJ{its:List Yg}(r:aB X.K H ι ds vs)(v:Vals vs its):its.toArray.size=ds.length:=Yl.trans (v.length.symm.trans r.length)
theorem Qd{A:cG}{ws:List V}{its its2:List Yg}(ih:∀(a b:D) (x y:V) (u v:Yg),b7 n a=true->b7 n b=true->Rep X.K H ι a x->Rep X.K H ι b y->RelV x u->RelV y v->uq A s u v (eG a b))(p1:ds.all (b7 n)=true)(p2:es.all (b7 n)=true)(r1:aB X.K H ι ds vs)(r2:aB X.K H ι es ws)(v1:Vals vs its)(v2:Vals ws its2)(j:Nat)(h1:j<its.toArray.size)(h2:j<its2.toArray.size):uq A s its.toArray[j] its2.toArray[j] (DR ds es j):=by
 have k1:j<ds.length:=by rw[←pJ r1 v1];exact h1
 have k2:j<es.length:=by rw[←pJ r2 v2];exact h2
 have q1:=Yi k1;have q2:=Yi k2;obtain⟨x,g1,z1⟩:=r1.get q1;obtain⟨y,g2,z2⟩:=r2.get q2;obtain⟨u,e1,l1⟩:=v1.get g1;obtain⟨v,e2,l2⟩:=v2.get g2;unfold DR;rw[q1,q2];obtain⟨_,e1⟩:=Yd.mp e1;obtain⟨_,e2⟩:=Yd.mp e2;exact ih _ _ x y _ _ (jJ.mp p1 _ (Y1 k1)) (jJ.mp p2 _ (Y1 k2)) z1 z2 (e1▸l1) (e2▸l2)
theorem ZlI(A:cG)(hu1:A.units<fX){a:D}{x:V}{u:Yg}{p:Yz}{its:Array Yg}(ha:gZ a=true)(ra:Rep X.K H ι a x)(ru:RelV x u)(it:s.heap.IsTuple p its):uq A s u (.ref p) (eG a (.tup es))/\uq A s (.ref p) u (eG (.tup es) a):=by
 cases a with
 |non=>rw[zx ra ru];exact⟨SeqAt.EqAt.none_tuple it hu1,SeqAt.EqAt.tuple_none it hu1⟩|bl k=>rw[uP ra ru];exact⟨SeqAt.EqAt.bool_tuple _ it hu1,SeqAt.EqAt.tuple_bool _ it hu1⟩|int k=>obtain⟨t,e⟩:=uQ ra ru;rw[e];exact⟨SeqAt.EqAt.int_tuple _ _ it hu1,SeqAt.EqAt.tuple_int _ _ it hu1⟩|str k=>obtain⟨t,e⟩:=uR ra ru;rw[e];exact⟨SeqAt.EqAt.str_tuple _ _ it hu1,SeqAt.EqAt.tuple_str _ _ it hu1⟩
 |_=>exact ft ha
theorem Zql(I:Inv X pins σ H s):∀(n:Nat) (A:cG) (_:A.units+n+1<fX) (a b:D) (x y:V) (u v:Yg),b7 n a=true->b7 n b=true->Rep X.K H ι a x->Rep X.K H ι b y->RelV x u->RelV y v->uq A s u v (eG a b):=by
 intro n
 induction n with
 |zero=>intro A hu a b x y u v ha hb ra rb ru rv;exact Z9 A a b x y u v (IV ha) (IV hb) ra rb ru rv|succ n ih=>
  intro A hu a b x y u v ha hb ra rb ru rv;have hu0:A.units+0+1<fX:=lC 1 0x2ae0cc12aa1c0cc11 T1 hu;have hu1:A.units<fX:=lB 1 1104257534993 T1 hu0;rcases zu ha with fa|⟨ds,ea⟩
  .rcases zu hb with fb|⟨es,eb⟩
   .exact Z9 A a b x y u v fa fb ra rb ru rv
   .rw[eb]at rb ⊢;obtain⟨p,vs,its,ex,eu,t,_⟩:=DQ I rb rv;rw[eu];exact(ZlI A hu1 fa ra ru t).1
  .rw[ea]at ra ha ⊢;obtain⟨p,vs,its,ex,eu,t,r1,v1⟩:=DQ I ra ru;rw[eu];rcases zu hb with fb|⟨es,eb⟩
   .exact(ZlI A hu1 fb rb rv t).2
   .rw[eb]at rb hb ⊢;obtain⟨q,ws,its2,ey,ev,t',r2,v2⟩:=DQ I rb rv;rw[ev];by_cases hp:p=q
    .rw[ey,←hp,←ex]at rb;rw[Rep.fun1 I (n+1) _ _ _ ha hb ra rb,hp];exact Ni _
    .refine SeqAt.EqAt.of_refs hp ?_;rw[qw,←Zon (pJ r1 v1) (pJ r2 v2)];exact V7 t t' hu1 (Qd (ih A.in1 (by rw[units_in1];exact lC 1 0x2a1a0ccc12aa1c0cc11 T1 hu)) ha hb r1 r2 v1 v2)
end
section
variable {X:Cx}
section
variable {pins:List (Yz×aV)} {σ:St} {H:Hp} {s:Yh} {ι:List Yz}
theorem ZsH(I:Inv X pins σ H s)(S:aP X.K H ι M){x:V}{u:Yg}(h:M[n]?=Ya (.lst ds))(r:Rep X.K H ι (.ref n) x)(e:RelV x u):Qc X H ι s.heap.IsList ds x u:=by obtain⟨p,hp1,ex⟩:=r.gF;obtain⟨vs,e1,r1⟩:=S.obj n _ p h hp1;obtain⟨its,rvs,pl1,_⟩:=I.list (cL.of e1);rw[ex]at e;exact⟨p,vs,its,ex,e,pl1.isList,r1,rvs⟩
inductive wU(M:Store)(a b:D)(k:Bool):Prop
 |ref {n m:Nat} (ds es:List D):a= .ref n->b= .ref m->fQ ds es=k->M[n]?=Ya (.lst ds)->M[m]?=Ya (.lst es)->ds.all (b7 DEEP)=true/\es.all (b7 DEEP)=true->wU M a b k
 |int (i j:Int):a= .int i->b= .int j->decide (i=j)=k->wU M a b k
 |str (i j:List Nat):a= .str i->b= .str j->decide (i=j)=k->wU M a b k
 |bl (i j:Bool):a= .bl i->b= .bl j->decide (i=j)=k->wU M a b k
 |tup {ds es:List D}:a= .tup ds->b= .tup es->fQ ds es=k->ds.all (b7 DEEP)=true/\es.all (b7 DEEP)=true->wU M a b k
theorem Qe{c d:Bool}{a k:α}(h:(if c&&d then Ya a else Ye)=Ya k):a=k/\c=true/\d=true:=by
 cases c with
 |false=>exact gP h|true=>cases d with
  |false=>exact gP h|true=>exact⟨Yq h,rfl,rfl⟩
noncomputable def Zwy(a b:Option MO):Option Bool:=match a,b with
 |some (.lst x),Ya (.lst y)=>if x.all (b7 DEEP)&&y.all (b7 DEEP)then Ya (fQ x y)else Ye|_,_=>Ye
theorem ZrZ{m:Nat}{k:Bool}(h:Zwy M[n]? M[m]?=Ya k):wU M (.ref n) (.ref m) k:=by
 cases e1:M[n]? with
 |none=>rw[e1]at h;exact gP h|some o=>cases o with
  | lst x=>cases e2:M[m]? with
   |none=>rw[e1,e2]at h;exact gP h|some o=>cases o with
    |lst y=>rw[e1,e2]at h;exact have w:=Qe h;.ref x y rfl rfl w.1 e1 e2 w.2|_=>rw[e1,e2]at h;exact gP h
  |_=>rw[e1]at h;exact gP h
theorem eqK{a b:D}{k:Bool}(h:kh a b M=Ya k):wU M a b k:=by
 cases a with
 |ref n=>cases b with
  |ref m=>exact ZrZ h|_=>exact gP h
 |int i=>cases b with
  |int j=>exact .int i j rfl rfl (Yq h)|_=>exact gP h
 |str i=>cases b with
  |str j=>exact .str i j rfl rfl (Yq h)|_=>exact gP h
 |bl i=>cases b with
  |bl j=>exact .bl i j rfl rfl (Yq h)|_=>exact gP h
 |tup ds=>cases b with
  |tup es=>exact have w:=Qe h;.tup rfl rfl w.1 w.2|_=>exact gP h
 |_=>cases b<;>exact gP h
theorem ZoF{a b:D}{x y:V}{u v:Yg}{k:Bool}(hu:X.A.units+80<fX)(I:Inv X pins σ H s)(S:aP X.K H ι M)(ra:Rep X.K H ι a x)(rb:Rep X.K H ι b y)(ru:RelV x u)(rv:RelV y v)(h:kh a b M=Ya k):SeqAt.RcAt X.A s u v k/\SeqAt.RcNeAt X.A s u v (!k):=by
 have hu1:X.A.units<fX:=lB 1 17666545486865 T1 hu;have hu2:X.A.in1.units+DEEP+1<fX:=by rw[units_in1];exact(show X.A.units+1+60+1<fX from lB 1 0x1a3c2ba0ccc11502b0c11 T1 hu)
 rcases eqK h with⟨ds,es,ea,eb,ek,e1,e2,p1,p2⟩|⟨i,j,ea,eb,ek⟩|⟨i,j,ea,eb,ek⟩|⟨i,j,ea,eb,ek⟩|⟨ea,eb,ek,p1,p2⟩
 .rw[ea]at ra;rw[eb]at rb;rw[←ek];obtain⟨p,vs,its,_,eu,t,r1,v1⟩:=ZsH I S e1 ra ru;obtain⟨q,ws,its2,_,ev,t',r2,v2⟩:=ZsH I S e2 rb rv;rw[eu,ev];by_cases hl:ds.length=es.length
  .rw[←ZoE (pJ r1 v1) hl];have hz:=(pJ r1 v1).trans (hl.trans (pJ r2 v2).symm);have w:=Qd (Zql I DEEP X.A.in1 hu2) p1 p2 r1 r2 v1 v2;exact⟨SeqAt.RcAt.lists t t' hz hu1 w,SeqAt.RcNeAt.lists t t' hz hu1 w⟩
  .rw[Z_ hl];have hz:(its.toArray.size !=its2.toArray.size)=true:=bne_iff_ne.mpr λe=>hl ((pJ r1 v1).symm.trans (e.trans (pJ r2 v2)));exact⟨SeqAt.RcAt.lists_lengths t t' hz hu1,SeqAt.RcNeAt.lists_lengths t t' hz hu1⟩
 .rw[ea]at ra;rw[eb]at rb;obtain⟨t,e⟩:=uQ ra ru;obtain⟨t',e'⟩:=uQ rb rv;rw[e,e',←ek,←Gr];exact⟨SeqAt.RcAt.int_int _ _ _ _,SeqAt.RcNeAt.int_int _ _ _ _⟩
 .rw[ea]at ra;rw[eb]at rb;obtain⟨t,e⟩:=uR ra ru;obtain⟨t',e'⟩:=uR rb rv;rw[e,e',←ek,N7];exact⟨SeqAt.RcAt.str_str _ _ _ _,SeqAt.RcNeAt.str_str _ _ _ _⟩
 .rw[ea]at ra;rw[eb]at rb;rw[uP ra ru,uP rb rv,←ek,←Gr];exact⟨SeqAt.RcAt.bool_bool _ _,SeqAt.RcNeAt.bool_bool _ _⟩
 .rw[ea]at ra;rw[eb]at rb;obtain⟨p,vs,its,_,eu,t,r1,v1⟩:=DQ I ra ru;obtain⟨q,ws,its2,_,ev,t',r2,v2⟩:=DQ I rb rv;rw[eu,ev,←ek,←Zon (pJ r1 v1) (pJ r2 v2)];have w:=Qd (Zql I DEEP X.A.in1 hu2) p1 p2 r1 r2 v1 v2;exact⟨V7 t t' hu1 w,SeqAt.RcNeAt.tuples t t' hu1 w⟩
end
theorem bK(hu:X.A.units+80<fX):bf X (gG .Eq) (r2 X.K aC):=by
 intro pins s σ H x y v u Q I rx ry h;obtain⟨ι,M,a,b,S,ra,rb,h⟩:=h;unfold aC at h;cases q:kh a b M with
 |none=>rw[q]at h;exact h.elim|some k=>rw[q]at h;exact(ZoF hu I S ra rb rx ry q).1 X.prog X.w X.xe _ ⟨.bl k,H,I,rfl,aG.ok h S Rep.bl⟩
theorem Qf{i:Int}(r:aB K H ι ds vs)(h:cO ds i=Ya d):∃v,v8 vs i=Ya v/\Rep K H ι d v:=by
 unfold cO at h;unfold v8;have e:yG vs.length i=kE ds.length i:=by rw[r.length];rfl
 rw[e];cases q:kE ds.length i with
 |none=>rw[q]at h;cases h|some j=>rw[q]at h;exact r.get h
theorem Zy:j_ X (r2 X.K Ze):=j_.imp Zuk λx y H Q ak=>by
 obtain⟨ι,M,a,b,S,ra,rb,h⟩:=ak;cases a with
 | tup ds=>cases b with
  |int i=>have h:aG X.K H ι Q (Iw (cO ds i) (λd=>.ok d M)):=h;obtain⟨d,q,h⟩:=PX h;obtain⟨p,vs,e',s1,r1⟩:=ra.fW;obtain⟨v,e,rv⟩:=Qf r1 q;exact .inr (.inl ⟨p,vs,i,v,e',rb.int_inv,s1,e,aG.ok h S rv⟩)|_=>exact h.elim
 | aQ ds=>cases b with
  |int i=>have h:aG X.K H ι Q (Iw (cO ds i) (λd=>.ok d M)):=h;obtain⟨d,q,h⟩:=PX h;obtain⟨p,vs,e',s1,r1⟩:=ra.qZ;obtain⟨v,e,rv⟩:=Qf r1 q;exact .inl ⟨p,vs,i,v,e',rb.int_inv,s1.sq,e,aG.ok h S rv⟩|_=>exact h.elim
 | str z=>cases b with
  |int i=>have h:aG X.K H ι Q (Z1 (cO z i) (λc=>@ite _ (z.length<=SZ) (Yp _) (.ok (.str [c]) M) .bad)):=h;obtain⟨c,q,h⟩:=Zr4 h;obtain⟨hz,h⟩:=wQ h;exact .inr (.inr ⟨_,i,c,ra.str_inv,rb.int_inv,Y4 hz mO,q,aG.ok h S Rep.str⟩)|_=>exact h.elim
 | ref n=>cases b with
  |int i=>have h:aG X.K H ι Q (P0 (M[n]?) (λds=>Iw (cO ds i) λd=>.ok d M)):=h;obtain⟨ds,hn,h⟩:=Z2 h;obtain⟨d,q,h⟩:=PX h;obtain⟨p,hp,e'⟩:=ra.gF;obtain⟨vs,e1,r1⟩:=S.obj n _ p hn hp;obtain⟨v,e,rv⟩:=Qf r1 q;exact .inl ⟨p,vs,i,v,e',rb.int_inv,cL.of e1,e,aG.ok h S rv⟩|_=>exact h.elim
 |_=>cases b<;>exact h.elim
theorem Qg(r:aB K H ι ds vs)(lo hi:Option Int):aB K H ι (cutD ds lo hi) (ux vs lo hi):=by
 have e:∀n d o,HT.aO n d o=aO n d o:=λn d o=>by cases o<;>rfl
 unfold cutD ux;rw[e,e,r.length];exact(r.drop _).take _
end
noncomputable def jE(cells:List (aj×Yz)):List (aj×NameKind)->List (aj×Yz)->List (aj×Yz)
 |[],cs=>cs|(n,k)::r,cs=>jE cells r (if k== .free then(n,(cells.lookup n).getD 0)::cs else cs)
theorem DW{cells:List (aj×Yz)}{n:aj}{k:NameKind}{r:List (aj×NameKind)}{cs:List (aj×Yz)}:jE cells ((n,k)::r) cs=jE cells r (if k== .free then(n,(cells.lookup n).getD 0)::cs else cs):=rfl
theorem Zgy{scope:Scope}{env:gH}(h:∀y∈scope.names,y.2= .free->∃c,env.cells.lookup y.1=Ya c):closureFor scope env=pure (jE env.cells scope.names []):=by
 unfold closureFor;have key:∀(names:List (aj×NameKind)) (cs:List (aj×Yz)),(∀y∈names,y.2= .free->∃c,env.cells.lookup y.1=Ya c) ->
   (forIn names cs λx r=>match x with|(name,kind)=>if(kind==NameKind.free)=true then do let c ←cellOf env name;pure (ForInStep.yield ((name,c)::r))else pure (ForInStep.yield r):pZ (List (aj×Yz)))=pure (jE env.cells names cs):=by
  intro names
  induction names with
  |nil=>intro cs _;rfl|cons y r ih=>
   intro cs hy;obtain⟨n,k⟩:=y;rw[List.forIn_cons];by_cases hk:k= .free
   .subst hk;obtain⟨c,hc⟩:=hy (n,.free) Ym rfl;have e1:cellOf env n=pure c:=by unfold cellOf;rw[hc]
    simp only[beq_self_eq_true,if_true,e1,pure_bind];rw[ih _ λz hz=>hy z (Yu _ hz)];rw[DW,hc];rfl
   .have hb:(k==NameKind.free)=false:=by simpa using hk
    simp only[hb,jr,if_false,pure_bind];rw[ih _ λz hz=>hy z (Yu _ hz)];rw[DW,hb];rfl
 have:=key scope.names [] h
 first
  |exact this
  |(simp only[bind_pure];exact this)
theorem ZoO{cells:List (aj×Yz)}{c:Yz}:∀(names:List (aj×NameKind)) (cs:List (aj×Yz)),(∀y∈names,y.2= .free->∃c,cells.lookup y.1=Ya c)->(jE cells names cs).lookup x=Ya c->cs.lookup x=Ya c\/cells.lookup x=Ya c:=by
 intro names
 induction names with
 |nil=>intro cs _ h;exact .inl h|cons y r ih=>
  intro cs hy h;obtain⟨n,k⟩:=y;rw[DW]at h;rcases ih _ (λz hz=>hy z (Yu _ hz)) h with q|q
  .by_cases hk:k= .free
   .subst hk;obtain⟨c0,hc⟩:=hy (n,.free) Ym rfl;simp only[beq_self_eq_true,if_true,hc,Option.getD_some,k_]at q;cases hx:x==n with
    |true=>
     simp only[hx]at q;cases q;have:x=n:=by simpa using hx
     subst this;exact .inr hc
    |false=>simp only[hx]at q;exact .inl q
   .have hb:(k==NameKind.free)=false:=by simpa using hk
    simp only[hb,jr,if_false]at q;exact .inl q
  .exact .inr q
theorem Znr{cells:List (aj×Yz)}:∀(names:List (aj×NameKind)) (cs:List (aj×Yz)),(cs.lookup x).isSome=true->((jE cells names cs).lookup x).isSome=true:=by
 intro names
 induction names with
 |nil=>intro cs h;exact h|cons y r ih=>
  intro cs h;obtain⟨n,k⟩:=y;rw[DW];refine ih _ ?_;split
  .rw[k_];split
   .rfl
   .exact h
  .exact h
theorem Zkh{cells:List (aj×Yz)}:∀(names:List (aj×NameKind)) (cs:List (aj×Yz)),(x,NameKind.free)∈names->((jE cells names cs).lookup x).isSome=true:=by
 intro names
 induction names with
 |nil=>intro cs h;cases h|cons y r ih=>
  intro cs h;obtain⟨n,k⟩:=y;rw[DW];rcases Y7.mp h with e|h
  .cases e
   refine Znr _ _ ?_;simp
  .exact ih _ h
noncomputable def jk(X:Cx)(scope:Scope)(N':List aj)(C:Yz)(cl:List (aj×Yz))(s:Yh)(H:Hp)(ex:List Yz):Cx:={X with N:=N',s₀:=s,H₀:=H,env:=Gp scope cl C X.env,outer:=X.stack,stack:=X.stack,ex:=ex,fn:=λ_=>false,pn:=[],xe:=λ_ _=>False}
noncomputable def Qh(N N':List aj)(scope:Scope):Bool:=(dm N.length).all λi=>match N'[i]? with
 |some x=>(scope.names.lookup x).isNone|| (decide (N[i]?=Ya x)&&decide (scope.names.lookup x=Ya .free))|none=>false
def qG(X:Cx)(ifs:List Expr)(ts:List E3):Prop:=∀(pins:List (Yz×aV)) (s:Yh) (σ:St) (H:Hp) (Q:Bool->Hp->Prop),Inv X pins σ H s ->
 (∃ι M env,aP X.K H ι M/\cJ X.K H ι env σ/\match uF ts env M with| .ok b M'=>∀H' ι',Ext X.K H ι H' ι'->aP X.K H' ι' M'->Q b H'|_=>False) ->
 aA (aN X.prog X.w) X.A (forIn ifs true λc r=>if r=true then do let ok ←isTrue c X.env (bU c X.env);pure (ForInStep.yield ok)else pure (ForInStep.yield r)) (TP X pins σ Q) X.xe s
theorem IW:qG X [] []:=λpins s σ H Q I ⟨ι,M,env,S,E,h⟩=>wpAny_tests_nil ⟨H,I,h H ι Ext.refl S⟩
theorem I_{c:Expr}(hc:CT X c f):qG X [c] [f]:=λpins s σ H Q I ak=>by
 obtain⟨ι,M,env,S,E,h⟩:=ak;refine wpAny_tests_one (hc pins s σ H Q I ⟨ι,M,env,S,E,?_⟩);rw[HY]at h;cases q:f env M with
 | ok d M1=>
  rw[q]at h;cases d with
  |bl b=>cases b with
   |true=>exact h|false=>exact h
  |_=>exact h.elim
 |exc x M1=>rw[q]at h;exact h.elim|bad=>rw[q]at h;exact h.elim
section
variable {prog:cj} {w:bO} {A:cG} {R:BW->Yh->Prop} {s:Yh}
theorem ZlB{elt target iter:Expr}{ifs:List Expr}{scope:Scope}{pos:bQ}{it acc:Yg}{env:gH}(I:Nat->Yh->Prop)(turn:∀n s,I n s->aA (aN prog w) A (pY it) (λr s₁=>match r with
   |none=>R (.ok .next) s₁|some v=>aA (aN prog w) A (Bx target it v) (λ_ s₁'=>aA (aN prog w) A (iy target env v) (λ_ s₂=>
     aA (aN prog w) A (forIn ifs true λc r=>if r=true then do let ok ←isTrue c env (bU c env);pure (ForInStep.yield ok)else pure (ForInStep.yield r)) (λok s₃=>
      if ok=true then aA (aN prog w) A (bU elt env) (λx s₄=>aA (aN prog w) A (call (.builtin "list.append") [acc,x]) (λ_ s₅=>∃m,m<n/\I m s₅) (λ_ _=>False) s₄) (λ_ _=>False) s₃
      else∃m,m<n/\I m s₃) (λ_ _=>False) s₂) (λ_ _=>False) s₁') (λ_ _=>False) s₁) (λ_ _=>False) s)(n:Nat)(h:I n s):rF (aN prog w) A (.compLoop (.ListComp elt [⟨target,iter,ifs,0⟩] scope pos) 0 it acc env) R s:=by
 refine codeAny_loop rfl I (λn s hI=>?_) n h;show aA _ A ((compTurn (.ListComp elt [⟨target,iter,ifs,0⟩] scope pos) 0 it acc env).onRaise (λx=>do noteFrame x env;theTreesLotGoes x)) _ _ s;refine wpAny_noted ?_;rw[compTurn_list];refine Yf (Gg (Yf (j8 (turn n s hI) (λr s₁ h₁=>?_) λ_ _ h'=>jL h')));cases r with
 |none=>exact Yw h₁|some v=>
  refine Yf (j8 h₁ (λ_ s₁' h₁'=>?_) λ_ _ h'=>jL h');refine Yf (j8 h₁' (λ_ s₂ h₂=>Yf (j8 h₂ (λok s₃ h₃=>?_) λ_ _ h'=>jL h')) λ_ _ h'=>jL h');cases ok with
  |false=>exact Yw ⟨rfl,h₃⟩|true=>exact Yf (Yf (j8 h₃ (λx s₄ h₄=>Yf (j8 h₄ (λ_ s₅ h₅=>Yw (Yw ⟨rfl,h₅⟩)) λ_ _ h'=>jL h')) λ_ _ h'=>jL h'))
end
theorem Qi{env:gH}{k:NameKind}:∀{names:List (aj×NameKind)},(names.map λ(n,k)=>if(k==NameKind.free&&env.scope.kind== .function&&env.kindOf n==Ya .cell)then(n,NameKind.cell)else(n,k)).lookup x=Ya k ->
  ∃k0,names.lookup x=Ya k0/\(k0=k\/(k0= .free/\k= .cell)):=by
 intro names
 induction names with
 |nil=>intro h;simp at h|cons y r ih=>
  intro h;obtain⟨n,k1⟩:=y;rw[Yy]at h;cases hx:x==n with
  | true=>
   refine⟨k1,by simp[k_,hx],?_⟩;by_cases hc:(k1==NameKind.free&&env.scope.kind== .function&&env.kindOf n==Ya .cell)=true
   .simp only[if_pos hc,k_,hx]at h;cases h;simp only[Y0,beq_iff_eq]at hc;exact .inr ⟨hc.1.1,rfl⟩
   .simp only[if_neg hc,k_,hx]at h;cases h;exact .inl rfl
  | false=>
   have h':(r.map λ(n,k)=>if(k==NameKind.free&&env.scope.kind== .function&&env.kindOf n==Ya .cell)then(n,NameKind.cell)else(n,k)).lookup x=Ya k:=by
    by_cases hc:(k1==NameKind.free&&env.scope.kind== .function&&env.kindOf n==Ya .cell)=true
    .simp only[if_pos hc,k_,hx]at h;exact h
    .simp only[if_neg hc,k_,hx]at h;exact h
   obtain⟨k0,e,q⟩:=ih h';exact⟨k0,by simp[k_,hx,e],q⟩
theorem Zlv{env:gH}:∀{names:List (aj×NameKind)},names.lookup x=Ya .free ->
  (names.map λ(n,k)=>if(k==NameKind.free&&env.scope.kind== .function&&env.kindOf n==Ya .cell)then(n,NameKind.cell)else(n,k)).lookup x=Ya .free\/
  (names.map λ(n,k)=>if(k==NameKind.free&&env.scope.kind== .function&&env.kindOf n==Ya .cell)then(n,NameKind.cell)else(n,k)).lookup x=Ya .cell:=by
 intro names
 induction names with
 |nil=>intro h;simp at h|cons y r ih=>
  intro h;obtain⟨n,k1⟩:=y;rw[Yy];cases hx:x==n with
  |true=>
   simp only[k_,hx]at h;cases h;by_cases hc:(NameKind.free==NameKind.free&&env.scope.kind== .function&&env.kindOf n==Ya .cell)=true
   .simp only[if_pos hc,k_,hx];exact .inr trivial
   .simp only[if_neg hc,k_,hx];exact .inl trivial
  |false=>
   simp only[k_,hx]at h;by_cases hc:(k1==NameKind.free&&env.scope.kind== .function&&env.kindOf n==Ya .cell)=true
   .simp only[if_pos hc,k_,hx];exact ih h
   .simp only[if_neg hc,k_,hx];exact ih h
section
variable {X:Cx} {pins:List (Yz×aV)} {σ:St} {H:Hp} {s:Yh} {scope:Scope} {N':List aj} {own:Nat} {fp:List Yz}
theorem ZpN(I:Inv X pins σ H s)(hk:scope.kind= .function)(hcell:∀y∈scope.names,y.2≠ .cell)(hfree:∀y∈scope.names,y.2= .free->X.env.kindOf y.1=Ya .cell\/X.env.kindOf y.1=Ya .free)(hN:N'.length=X.N.length+own)(hv:Qh X.N N' scope=true)(hfp:∀b∈fp,ju X pins H b)(hlt:∀b∈fp,b<s.heap.objs.size){h1:aY}{tk:Nat}(hns:h1.Ns s.heap.objs.size λ_=>Ye)(keep:∀b o,s.heap.get? b=Ya o->h1.get? b=Ya o):
  Inv (jk X scope N' s.heap.objs.size (jE X.env.cells scope.names []) s H fp) [] (σ++Yj own Ye) H {s with heap:=h1,toks:=tk}:=by
 have hc0:∀y∈scope.names,y.2= .free->∃c,X.env.cells.lookup y.1=Ya c:=λy hy e=>I.ok.has y.1 (hfree y hy e);have sub:∀x c,(jE X.env.cells scope.names []).lookup x=Ya c->X.env.cells.lookup x=Ya c:=λx c h=>by
  rcases ZoO scope.names [] hc0 h with q|q
  .simp at q
  .exact q
 have cellK:∀{c:Yz} {v:Option Yg},s.heap.IsCell c v->h1.IsCell c v:=λ⟨o,ho,hd⟩=>⟨o,keep _ o ho,hd⟩;refine⟨⟨I.ok.mod,hk,I.ok.glob,I.ok.blt,Yk _,λx y c h1 h2=>I.ok.inj x y c (sub x c h1) (sub y c h2),λx hx=>?_,λx c h=>?_,I.ok.hd,I.ok.frames,.inl rfl,λb hb=>⟨dU (hlt b hb),λx c h=>(hfp b hb).2.2.2.2.1 x c (sub x c h)⟩,
   I.bs,Y4 I.ok.rP I.sz,λb o e hb=>?_,λb hb hz=>?_,I.stack,I.R4⟩,rfl,I.bare,Un.kept keep,⟨_,hns,λi x v h1 h2 h3=>?_⟩,λx c h=>?_,I.hok.fresh (Yk _),λx c h=>I.m_ x c (sub x c h),
  λp hp=>absurd (show p∈([]:List (Yz×aV))from hp) (by simp),I.hok.kept keep,?_⟩
 .have hx':(vL scope X.env).names.lookup x=Ya .cell\/(vL scope X.env).names.lookup x=Ya .free:=hx;have:scope.names.lookup x=Ya .free:=by
   rcases hx' with hx'|hx'
   .obtain⟨k0,e,q⟩:=Qi (names:=scope.names) hx';rcases q with q|⟨q,_⟩
    .subst q;exact absurd rfl (hcell _ (rE e))
    .rw[e,q]
   .obtain⟨k0,e,q⟩:=Qi (names:=scope.names) hx';rcases q with q|⟨_,q⟩
    .rw[e,q]
    .cases q
  exact Kz.mp (Zkh scope.names [] (rE this))
 .cases h
 .obtain⟨_,_,_,q,_⟩:=hfp b hb;rcases q with q|q
  .exact I.ok.Bj b o e q
  .exact absurd (Y9 (Yv e) (Y4 I.ok.rP q)) (tU _)
 .have hz':b∈frs X.stack:=hz;obtain⟨_,q1,q2,_⟩:=hfp b hb;rcases Y7.mp (I.Km b hz')with e|e
  .exact q1 e
  .exact q2 e
 .have hi:i<σ.length:=by
   by_cases hi:i<σ.length
   .exact hi
   .rw[tX (iH hi),FP]at h2;split at h2<;>cases h2
  rw[kZ hi]at h2;have Cr:i<X.N.length:=by rw[←I.len];exact hi
  have hN':N'[i]?=Ya x:=h1;have vq:=jJ.mp hv i (pR.mpr Cr);rw[hN']at vq;have h3':(vL scope X.env).names.lookup x=Ya .local\/(vL scope X.env).names.lookup x=Ya .cell\/(vL scope X.env).names.lookup x=Ya .free:=h3;have some_of:∃k0,scope.names.lookup x=Ya k0:=by rcases h3' with q|q|q<;>(obtain⟨k0,e,_⟩:=Qi (names:=scope.names) q;exact⟨k0,e⟩)
  obtain⟨k0,ek⟩:=some_of;simp only[ek,Option.isNone_some,Gs,Y0,decide_eq_true_eq]at vq;obtain⟨vq1,vq2⟩:=vq;cases vq2;have hkind:=hfree (x,.free) (rE ek) rfl;obtain⟨m,hn,hl⟩:=I.loc;have Aa7:G8 X.env.scope x:=by
   rcases hkind with q|q
   .exact .inr (.inl q)
   .exact .inr (.inr q)
  obtain⟨u,ru,lk⟩:=hl i x v vq1 h2 Aa7;refine⟨u,ru,?_⟩;rcases lk with⟨kl,_⟩|⟨_,c,ec,ic⟩
  .rcases hkind with q|q<;>(rw[q]at kl;cases kl)
  .have hkk:(Gp scope (jE X.env.cells scope.names []) s.heap.objs.size X.env).kindOf x=Ya .cell\/(Gp scope (jE X.env.cells scope.names []) s.heap.objs.size X.env).kindOf x=Ya .free:=by
    rcases Zlv (env:=X.env) ek with q|q
    .exact .inr q
    .exact .inl q
   obtain⟨c',ec'⟩:=Kz.mp (Zkh (cells:=X.env.cells) scope.names [] (rE ek));have e2:=sub x c' ec';rw[ec]at e2;cases e2;exact .inr ⟨hkk,c,ec',cellK ic⟩
 .obtain⟨v,ic⟩:=I.cell x c (sub x c h);exact⟨v,cellK ic⟩
 .show(σ++Yj own Ye).length=N'.length;rw[Y5,Ud,I.len,hN]
theorem cJ.grow{H:Hp}{σ:St}(E:cJ K H ι env σ)(n:Nat):cJ K H ι (env++Yj n Ye) (σ++Yj n Ye):=by
 refine⟨by simp[E.1],λi d h=>?_⟩;by_cases hi:i<env.length
 .rw[kZ hi]at h;obtain⟨v,e,r⟩:=E.2 i d h;exact⟨v,by rw[kZ (by rw[←E.1];exact hi)];exact e,r⟩
 .rw[tX (iH hi),FP]at h;split at h<;>cases h
end
section
structure Cb where
 Y:Cx
 fp:List Yz
 tn:Nat->aY->Prop
 bV:jx
 H2:Hp
 ι2:List Yz
 Q:VK
 g:G3
 ts:List E3
 f:E3
 nM:Nat
 acc:Yz
inductive Qj(P:Cb)(n:Nat)(s':Yh):Prop
 | mk (k:Nat) (σ5:St) (H5:Hp) (ι5:List Yz) (M5:Store) (Ks:bI) (I5:Inv P.Y [] σ5 H5 s') (nO:P.tn k s'.heap) (rQ:∀b∈P.fp,H5 b=Ye) (hn:P.bV.items.length-k=n) (hk:k<=P.bV.items.length)
   (x5:Ext P.Y.K P.H2 P.ι2 H5 ι5) (S5:aP P.Y.K H5 ι5 M5) (E5:cJ P.Y.K H5 ι5 Ks σ5) (hι:ι5[P.nM]?=Ya P.acc) (h5:aG P.Y.K H5 ι5 P.Q (gR P.bV P.g P.ts P.f P.nM (P.bV.items.drop k) Ks M5))
def Ja(P:Cb)(n:Nat)(s':Yh):Prop:=∃m,m<n/\Qj P m s'
section
noncomputable local instance (priority:=100000) Aem (p:Prop):Decidable p:=AaY p
noncomputable def Jb(P:Cb)(k:Nat)(env:bI)(e:D)(M2:Store):R3 D:=match M2[P.nM]? with
 |some (.lst x)=>if x.length<SZ then gR P.bV P.g P.ts P.f P.nM (P.bV.items.drop (k+1)) env (M2.set P.nM (.lst (x++[e])))else .bad|_=>.bad
noncomputable def Qk(P:Cb)(k:Nat)(env:bI)(b:Bool)(M1:Store):R3 D:=if b then(P.f env M1).bind (Jb P k env)else gR P.bV P.g P.ts P.f P.nM (P.bV.items.drop (k+1)) env M1
end
def cbF(P:Cb)(n:Nat)(xv:Yg)(s:Yh):Prop:=aA (aN P.Y.prog P.Y.w) P.Y.A (call (.builtin "list.append") [.ref P.acc,xv]) (λ_ s'=>Ja P n s') P.Y.xe s
def cbO(P:Cb)(elt:Expr)(n:Nat)(ok:Bool)(s:Yh):Prop:=if ok=true then aA (aN P.Y.prog P.Y.w) P.Y.A (bU elt P.Y.env) (cbF P n) P.Y.xe s else Ja P n s
def cbS(P:Cb)(elt:Expr)(ifs:List Expr)(n:Nat)(s:Yh):Prop:=aA (aN P.Y.prog P.Y.w) P.Y.A (forIn ifs true λc r=>if r=true then do let ok ←isTrue c P.Y.env (bU c P.Y.env);pure (ForInStep.yield ok)else pure (ForInStep.yield r)) (cbO P elt n) P.Y.xe s
def cbA(P:Cb)(tg elt:Expr)(ifs:List Expr)(n:Nat)(u:Yg)(s:Yh):Prop:=aA (aN P.Y.prog P.Y.w) P.Y.A (iy tg P.Y.env u) (λ_=>cbS P elt ifs n) P.Y.xe s
def cbN(P:Cb)(tg elt:Expr)(ifs:List Expr)(it:Yz)(n:Nat)(F:Yh->Prop)(r:Option Yg)(s:Yh):Prop:=match r with
 |none=>F s|some v=>aA (aN P.Y.prog P.Y.w) P.Y.A (Bx tg (.ref it) v) (λ_=>cbA P tg elt ifs n v) P.Y.xe s
variable {P:Cb} {tg elt:Expr} {ifs:List Expr} {J:It} {it:Yz} {k:Nat} {h7:aY} {σ:St} {H H':Hp} {s:Yh} {ι:List Yz} {M M1:Store} {env:bI}
theorem Zoz(T:Turn P.Y.prog P.Y.w P.Y.K tg J P.fp it P.tn)(oF:P.tn (k+1) h7)(hlt:k<P.bV.items.length)(I':Inv P.Y ([]++ur P.fp h7) σ H s)(x:Ext P.Y.K P.H2 P.ι2 H ι)(S:aP P.Y.K H ι M)(E:cJ P.Y.K H ι env σ)(hι:ι[P.nM]?=Ya P.acc)(h:aG P.Y.K H ι P.Q (gR P.bV P.g P.ts P.f P.nM (P.bV.items.drop (k+1)) env M)):Ja P (P.bV.items.length-k) s:=⟨P.bV.items.length-(k+1),lD 2 0x30113c2012a1c0c21 T1 (Yc (lB 1 6991908881 T1 hlt)) (bZ _ _),⟨k+1,σ,H,ι,M,env,I'.Fi,T.keep _ _ _ oF λb hb o e=>(I'.pin (b,o) (nA _ (nA _ (Hl hb e)))).1,λb hb=>(T.obj _ _ oF b hb).elim λo e=>(I'.pin (b,o) (nA _ (nA _ (Hl hb e.1)))).2.1,rfl,hlt,x,S,E,hι,h⟩⟩
theorem Zvj:Qk P k env true M=(P.f env M).bind (Jb P k env):=if_pos rfl
theorem ZvW:Qk P k env false M=gR P.bV P.g P.ts P.f P.nM (P.bV.items.drop (k+1)) env M:=if_neg (by decide)
theorem aG.iff{H:Hp}{ι:List Yz}{c:Prop}{dc:Decidable c}(h:aG K H ι Q (if c then r else .bad)):c/\aG K H ι Q r:=by
 by_cases hc:c
 .rw[if_pos hc]at h;exact⟨hc,h⟩
 .rw[if_neg hc]at h;exact h.elim
theorem ZtJ{xv:Yg}(T:Turn P.Y.prog P.Y.w P.Y.K tg J P.fp it P.tn)(oF:P.tn (k+1) h7)(hlt:k<P.bV.items.length)(I':Inv P.Y ([]++ur P.fp h7) σ H s)(r:RelV v xv)(x:Ext P.Y.K P.H2 P.ι2 H ι)(S:aP P.Y.K H ι M)(E:cJ P.Y.K H ι env σ)(rd:Rep P.Y.K H ι d v)(hι:ι[P.nM]?=Ya P.acc)(hm:M[P.nM]?=Ya (.lst xs))(hz:xs.length<SZ)(h:aG P.Y.K H ι P.Q (gR P.bV P.g P.ts P.f P.nM (P.bV.items.drop (k+1)) env (M.set P.nM (.lst (xs++[d]))))):
  cbF P (P.bV.items.length-k) xv s:=by
 obtain⟨vs,ev,rvs⟩:=S.obj _ _ _ hm hι;obtain⟨x11,S11⟩:=S.Fq (.inr (.inl ⟨_,ev⟩)) hι (rvs.append (aB.cons rd aB.nil));refine a_ (Q':=λ_ s'=>Ja P (P.bV.items.length-k) s') (Xk _ s σ H (.ref P.acc) [v] (.ref P.acc) [xv] (λ_ H'=>H'=upd H P.acc (.lst (vs++[v]))) I' rfl (.cons r .nil) ⟨_,vs,v,rfl,rfl,ev,by rw[rvs.length];exact Y9 hz mO,rfl⟩) λ_ s11 ak=>?_;obtain⟨_,H11,I11,_,eH⟩:=ak;rw[eH]at I11;exact Zoz T oF hlt I11 (x.trans x11) S11 (E.mono x11) (x11.pre _ _ hι) (h.up x11)
theorem Zud(T:Turn P.Y.prog P.Y.w P.Y.K tg J P.fp it P.tn)(helt:C3 P.Y elt P.f)(oF:P.tn (k+1) h7)(hlt:k<P.bV.items.length)(I':Inv P.Y ([]++ur P.fp h7) σ H s)(x:Ext P.Y.K P.H2 P.ι2 H ι)(S:aP P.Y.K H ι M)(E:cJ P.Y.K H ι env σ)(hι:ι[P.nM]?=Ya P.acc)(h:aG P.Y.K H ι P.Q ((P.f env M).bind (Jb P k env))):
  aA (aN P.Y.prog P.Y.w) P.Y.A (bU elt P.Y.env) (cbF P (P.bV.items.length-k)) P.Y.xe s:=by
 obtain⟨d,M10,e10,h10⟩:=aG.bind h;refine a_ (Q':=cbF P (P.bV.items.length-k)) (helt _ s σ H (λv H'=>∃Jc,Ext P.Y.K H ι H' Jc/\aP P.Y.K H' Jc M10/\Rep P.Y.K H' Jc d v) I' ⟨ι,M,env,S,E,by rw[e10];exactλv H' ι' x' S' r'=>⟨ι',x',S',r'⟩⟩) λxv s10 ak=>?_;obtain⟨v,H10,I10,r10,Jc,x10,S10,rd⟩:=ak;unfold Jb at h10;cases hm:M10[P.nM]? with
 |none=>rw[hm]at h10;exact h10.elim|some o=>
  rw[hm]at h10;cases o with
  |dct _=>exact h10.elim|cC _=>exact h10.elim|ins _ _=>exact h10.elim|lst xs=>exact ZtJ T oF hlt I10 r10 (x.trans x10) S10 (E.mono x10) rd (x10.pre _ _ hι) hm (aG.iff h10).1 ((aG.iff h10).2.up x10)
theorem ZtB(T:Turn P.Y.prog P.Y.w P.Y.K tg J P.fp it P.tn)(hts:qG P.Y ifs P.ts)(helt:C3 P.Y elt P.f)(oF:P.tn (k+1) h7)(hlt:k<P.bV.items.length)(I':Inv P.Y ([]++ur P.fp h7) σ H s)(x:Ext P.Y.K P.H2 P.ι2 H ι)(S:aP P.Y.K H ι M)(E:cJ P.Y.K H ι env σ)(hι:ι[P.nM]?=Ya P.acc)(h:aG P.Y.K H ι P.Q ((uF P.ts env M).bind (Qk P k env))):
  cbS P elt ifs (P.bV.items.length-k) s:=by
 obtain⟨b,M9,e9,h9⟩:=aG.bind h;refine a_ (Q':=cbO P elt (P.bV.items.length-k)) (hts _ s σ H (λb' H'=>b'=b/\∃ι9,Ext P.Y.K H ι H' ι9/\aP P.Y.K H' ι9 M9) I' ⟨ι,M,env,S,E,by rw[e9];exactλH' ι' x' S'=>⟨rfl,ι',x',S'⟩⟩) λb' s9 ak=>?_;obtain⟨H9,I9,eb,ι9,x9,S9⟩:=ak;rw[←eb]at h9;cases b' with
 |false=>exact Zoz T oF hlt I9 (x.trans x9) S9 (E.mono x9) (x9.pre _ _ hι) (aG.up x9 (ZvW▸h9))|true=>exact Zud T helt oF hlt I9 (x.trans x9) S9 (E.mono x9) (x9.pre _ _ hι) (aG.up x9 (Zvj▸h9))
theorem ZvB(T:Turn P.Y.prog P.Y.w P.Y.K tg J P.fp it P.tn)(hc:P.Y.calm=true)(hfp:∀{H':Hp},(∀b∈P.fp,H' b=Ye)->∀b∈P.fp,ju P.Y [] H' b)(hg:CG P.Y tg P.g)(hts:qG P.Y ifs P.ts)(helt:C3 P.Y elt P.f)(hlt:k<P.bV.items.length)(I5:Inv P.Y [] σ H s)(nO:P.tn k s.heap)(rQ:∀b∈P.fp,H b=Ye)(x:Ext P.Y.K P.H2 P.ι2 H ι)(S:aP P.Y.K H ι M)(E:cJ P.Y.K H ι env σ)(hι:ι[P.nM]?=Ya P.acc)(ok:pI P.Y.K P.H2 P.ι2 P.bV J)(h:aG P.Y.K H ι P.Q (gR P.bV P.g P.ts P.f P.nM (P.bV.items[k]::P.bV.items.drop (k+1)) env M))(F:Yh->Prop):
  aA (aN P.Y.prog P.Y.w) P.Y.A (pY (.ref it)) (cbN P tg elt ifs it (P.bV.items.length-k) F) P.Y.xe s:=by
 obtain⟨lk,h⟩:=aG.iff h;obtain⟨go,yl⟩:=(ok k H ι M x S lk).1 _ (Yi hlt);cases eg:P.g P.bV.items[k] env with
 |none=>rw[eg]at h;exact h.elim|some Sh=>rw[eg]at h;refine a_ (T.item P.Y rfl rfl rfl hc k [] s σ H P.Y.xe I5 (hfp rQ) nO go) λr s6 ak=>?_;obtain⟨u,hr,h6⟩:=ak;rw[hr];refine a_ (Q':=λ_=>cbA P tg elt ifs (P.bV.items.length-k) u) h6 λ_ s7 ak=>?_;obtain⟨y,H7,I7,r7,y7,oF,fr7⟩:=ak;obtain⟨e7,rx⟩:=yl y H7 y7;rw[e7]at I7 fr7;refine a_ (Q':=λ_=>cbS P elt ifs (P.bV.items.length-k)) (hg _ s7 σ H y u (λσ' H'=>H'=H/\cJ P.Y.K H ι Sh σ') (I7.pinned (hfp fr7) (T.obj _ _ oF)) r7 ⟨ι,M,env,_,Sh,S,E,rx,eg,λσ' E'=>⟨rfl,E'⟩⟩) λ_ s8 ak=>?_;obtain⟨σ8,H8,I8,e8,E8⟩:=ak;rw[e8]at I8;exact ZtB T hts helt oF hlt I8 x S E8 hι h
theorem Zsw(T:Turn P.Y.prog P.Y.w P.Y.K tg J P.fp it P.tn)(hc:P.Y.calm=true)(hfp:∀{H':Hp},(∀b∈P.fp,H' b=Ye)->∀b∈P.fp,ju P.Y [] H' b)(I5:Inv P.Y [] σ H s)(nO:P.tn P.bV.items.length s.heap)(rQ:∀b∈P.fp,H b=Ye)(x:Ext P.Y.K P.H2 P.ι2 H ι)(S:aP P.Y.K H ι M)(hι:ι[P.nM]?=Ya P.acc)(ok:pI P.Y.K P.H2 P.ι2 P.bV J)(h:aG P.Y.K H ι P.Q (gR P.bV P.g P.ts P.f P.nM [] env M)){F:Yh->Prop}(hF:∀s6,Inv P.Y [] σ H s6->P.Q (.ref P.acc) H->F s6):
  aA (aN P.Y.prog P.Y.w) P.Y.A (pY (.ref it)) (cbN P tg elt ifs it n F) P.Y.xe s:=by
 obtain⟨lk,h⟩:=aG.iff h;refine a_ (T.done P.Y rfl rfl rfl hc _ [] s σ H P.Y.xe I5 (hfp rQ) nO ((ok _ H ι M x S lk).2 rfl)) λr s6 ak=>?_;rw[ak.1];exact hF s6 ak.2 (h _ H ι Ext.refl S (Rep.ref hι))
end
variable{E:Yg->Yh->Prop}
section
variable {X:Cx} {elt tg iter:Expr} {ifs:List Expr} {scope:Scope} {pos:bQ} {i:I3} {own:Nat} {g:G3} {ts:List E3} {f:E3} {N':List aj}
structure zy(X:Cx)(scope:Scope)(N':List aj)(own:Nat):Prop where
 kind:scope.kind= .function
 cell:∀y∈scope.names,y.2≠ .cell
 free:∀y∈scope.names,y.2= .free->X.env.kindOf y.1=Ya .cell\/X.env.kindOf y.1=Ya .free
 names:∀y∈scope.names,y.2= .local->scope.names.lookup y.1=Ya .local
 len:N'.length=X.N.length+own
 vis:Qh X.N N' scope=true
theorem Zsb{P:Cb}{J:It}{it:Yz}{s:Yh}{F:Yh->Prop}(T:Turn P.Y.prog P.Y.w P.Y.K tg J P.fp it P.tn)(hc:P.Y.calm=true)(hfp:∀{H':Hp},(∀b∈P.fp,H' b=Ye)->∀b∈P.fp,ju P.Y [] H' b)(hb:CG P.Y tg P.g/\qG P.Y ifs P.ts/\C3 P.Y elt P.f)(ok:pI P.Y.K P.H2 P.ι2 P.bV J)(z:Qj P n s)(fin:∀σ H s',Inv P.Y [] σ H s'->P.Q (.ref P.acc) H->F s'):aA (aN P.Y.prog P.Y.w) P.Y.A (pY (.ref it)) (cbN P tg elt ifs it n F) P.Y.xe s:=by
 obtain⟨k,σ5,H5,ι5,M5,Ks,I5,nO,rQ,hn,hk,x5,S5,E5,hι,h5⟩:=z;by_cases hlt:k<P.bV.items.length
 .rw[Bp hlt]at h5;exact hn▸ZvB T hc hfp hb.1 hb.2.1 hb.2.2 hlt I5 nO rQ x5 S5 E5 hι ok h5 _
 .rw[Yt hk (iH hlt)]at nO h5;rw[Lb]at h5;exact Zsw T hc hfp I5 nO rQ x5 S5 hι ok h5 λs6 I6 q=>fin σ5 H5 s6 I6 q
theorem ZmQ{pins:List (Yz×aV)}{s3:Yh}{H2 H3:Hp}{ι2 ι3:List Yz}{M3:Store}{nM:Nat}{D:Yz}{it:Yz}{fp:List Yz}{tn:Nat->aY->Prop}{J:It}{bV:jx}(O:zy X scope N' own)(hc:X.calm=true)(hb:∀C cl s H ex,CG (jk X scope N' C cl s H ex) tg g/\qG (jk X scope N' C cl s H ex) ifs ts/\C3 (jk X scope N' C cl s H ex) elt f)(T:Turn X.prog X.w X.K tg J fp it tn)(st3:tn 0 s3.heap)(Bl:∀b∈fp,b<s3.heap.objs.size)(I3:Inv X pins σ H3 s3)(vg:∀b∈fp,ju X pins H3 b)(x3:Ext X.K H2 ι2 H3 ι3)(S3:aP X.K H3 ι3 M3)(E2:cJ X.K H3 ι3 env σ)(ok:pI X.K H2 ι2 bV J)(h:aG X.K H3 ι3 Q (gR bV g ts f nM bV.items (env++Yj own Ye) M3))(hι:ι3[nM]?=Ya D)(RR:Yg->Yz->BW->Yh->Prop)(fin:∀(acc C:Yz) (s':Yh) (m:aj->Option Yg) (H':Hp),s'.heap.Ns C m->ju X pins H' C->Inv X pins σ H' s'->Q (.ref acc) H'->RR (.ref acc) C (.ok .next) s'):
  aA (aN X.prog X.w) X.A (newFunctionEnv scope X.env.globals (jE X.env.cells scope.names []) [] X.env.qual Ye .none (Ya X.env)) (λcenv s₄=>rF (aN X.prog X.w) X.A (.compStart (.ListComp elt [⟨tg,iter,ifs,0⟩] scope pos) 0 (.ref it) (.ref D) {cenv with scope:=vL scope X.env}) (RR (.ref D) cenv.locals) s₄) E s3:=by
 refine wpAny_newFunctionEnv O.cell (by intro y hy;cases hy) (λh4 hns hsb=>?_) O.kind;have R8:∀b o,s3.heap.get? b=Ya o->h4.get? b=Ya o:=λb o e=>hsb.extBut b o (dU (Yv e)) (Yo _ e);have I4:=ZpN (own:=own) (N':=N') (tk:=s3.toks+([]:List (aj×Yg)).length) I3 O.kind O.cell O.free O.len O.vis vg Bl hns R8;have st4:tn 0 h4:=T.keep _ _ _ st3 λb hb o e=>R8 b o e;have L:=ZlB (prog:=X.prog) (w:=X.w) (A:=X.A) (R:=RR (.ref D) s3.heap.objs.size) (scope:=scope) (pos:=pos) (iter:=iter) (elt:=elt) (target:=tg) (ifs:=ifs) (env:=Gp scope (jE X.env.cells scope.names []) s3.heap.objs.size X.env) (Qj ⟨jk X scope N' s3.heap.objs.size (jE X.env.cells scope.names []) s3 H3 fp,fp,tn,bV,H2,ι2,Q,g,ts,f,nM,D⟩) (λn s5 z=>Zsb (P:=⟨jk X scope N' s3.heap.objs.size (jE X.env.cells scope.names []) s3 H3 fp,fp,tn,bV,H2,ι2,Q,g,ts,f,nM,D⟩) T hc
  (λhn b hb=>⟨hn b hb,dU (Bl b hb),λhz=>I4.ok.Bk b hb hz,.inl hb,λx c hx=>(I4.ok.NP b hb).2 x c hx,λp hp=>absurd (show p∈([]:List (Yz×aV))from hp) (by simp)⟩)
  (hb _ _ _ _ _) ok z
  λσ' H' s6 I6 q=>I6.loc.elim λm6 hn6=>fin _ _ s6 m6 H' hn6.1 (I3.u_ (Yk _) I6.free) (I3.call' (ch:=fp) I6.os I6.base I6.hok I6.bare λb hb=>⟨(vg b hb).2.2.2.1,(vg b hb).2.1,(vg b hb).2.2.2.2.1,(vg b hb).2.2.2.2.2⟩) q) _
  ⟨0,_,_,_,_,_,I4,st4,λb hb=>(vg b hb).1,rfl,eV _,x3,S3,E2.grow own,hι,h⟩
 exact codeAny_compStart_list L (T.self _ 0 _ _ _ st4 L)
theorem Zi2{pins:List (Yz×aV)}{s2:Yh}{H2:Hp}{ι2:List Yz}{M2:Store}{it:Yz}{fp:List Yz}{tn:Nat->aY->Prop}{J:It}{bV:jx}(O:zy X scope N' own)(hc:X.calm=true)(hb:∀C cl s H ex,CG (jk X scope N' C cl s H ex) tg g/\qG (jk X scope N' C cl s H ex) ifs ts/\C3 (jk X scope N' C cl s H ex) elt f)(I2:Inv X pins σ H2 s2)(T:Turn X.prog X.w X.K tg J fp it tn)(st0:tn 0 s2.heap)(hfp:∀b∈fp,ju X pins H2 b)(S2:aP X.K H2 ι2 M2)(E2:cJ X.K H2 ι2 env σ)(ok:pI X.K H2 ι2 bV J)(h:aG X.K H2 ι2 Q (gR bV g ts f M2.length bV.items (env++Yj own Ye) (M2++[.lst []])))(RR:Yg->Yz->BW->Yh->Prop)(fin:∀(acc C:Yz) (s':Yh) (m:aj->Option Yg) (H':Hp),s'.heap.Ns C m->ju X pins H' C->Inv X pins σ H' s'->Q (.ref acc) H'->RR (.ref acc) C (.ok .next) s'):
  aA (aN X.prog X.w) X.A (newList []) (λacc s₃=>aA (aN X.prog X.w) X.A (newFunctionEnv scope X.env.globals (jE X.env.cells scope.names []) [] X.env.qual Ye .none (Ya X.env)) (λcenv s₄=>rF (aN X.prog X.w) X.A (.compStart (.ListComp elt [⟨tg,iter,ifs,0⟩] scope pos) 0 (.ref it) acc {cenv with scope:=vL scope X.env}) (RR acc cenv.locals) s₄) E s₃) E s2:=by
 refine vC ?_;have hD:H2 s2.heap.objs.size=Ye:=I2.hok.fresh (Yk _);obtain⟨x3,S3,r3⟩:=S2.lst hD (aB.nil (K:=X.K) (H:=H2) (ι:=ι2));have I3:Inv X pins σ (upd H2 s2.heap.objs.size (.lst [])) {s2 with heap:=s2.heap.push {cls:=.type "list",data:=.seq ([]:List Yg).toArray}}:=I2.laid (t':=s2.toks) (λb u e=>Yo _ e) (Yk _) ⟨eV _,[],0,.nil,jg _ rfl⟩;have Fl:∀b o,s2.heap.get? b=Ya o->(s2.heap.push {cls:=.type "list",data:=.seq ([]:List Yg).toArray}).get? b=Ya o:=λb o e=>Yo _ e;generalize hs3:({s2 with heap:=s2.heap.push {cls:=.type "list",data:=.seq ([]:List Yg).toArray}}:Yh)=s3 at I3 ⊢;have Fl:∀b o,s2.heap.get? b=Ya o->s3.heap.get? b=Ya o:=by rw[←hs3];exact Fl
 have lt2:∀b∈fp,b<s2.heap.objs.size:=λb hb=>(T.obj _ _ st0 b hb).elim λo e=>Yv e.1;have Bl:∀b∈fp,b<s3.heap.objs.size:=λb hb=>(T.obj _ _ st0 b hb).elim λo e=>Yv (Fl b o e.1);exact ZmQ O hc hb (T:=T) (st3:=T.keep _ _ _ st0 λb hb o e=>Fl b o e) (Bl:=Bl) (I3:=I3) (vg:=λb hb=>⟨(bW (dU (lt2 b hb))).trans (hfp b hb).1,(hfp b hb).2⟩) (x3:=x3) (S3:=S3) (E2:=E2.mono x3) (ok:=ok) (h:=h.up x3) (hι:=by rw[←S2.len];simp) RR fin
theorem Zu8(O:zy X scope N' own)(sU:X.xe=λ_ _=>False)(hc:X.calm=true)(hi:CI X tg iter i)(hb:∀C cl s H ex,CG (jk X scope N' C cl s H ex) tg g/\qG (jk X scope N' C cl s H ex) ifs ts/\C3 (jk X scope N' C cl s H ex) elt f)(hs:∀x,ye iter X.env x=pure x:=by intro _;rfl):C3 X (.ListComp elt [⟨tg,iter,ifs,0⟩] scope pos) (gh i own g ts f):=by intro pins s σ H Q I h;obtain⟨ι,M,env,S,E,h⟩:=h;obtain⟨bV,M1,e1,h⟩:=aG.bind h;have hc0:∀y∈scope.names,y.2= .free->∃c,X.env.cells.lookup y.1=Ya c:=λy hy e=>I.ok.has y.1 (O.free y hy e);rw[eval_ListComp];refine Uy (use:=Ye) rfl hs (Zgy hc0) O.kind O.names ?_;refine a_ (hi pins s σ H (λJ H'=>∃ι',Ext X.K H ι H' ι'/\aP X.K H' ι' M1/\pI X.K H' ι' bV J) I ⟨ι,M,env,S,E,by rw[e1];exactλJ H' ι' x S' o=>⟨ι',x,S',o⟩⟩) λv s1 h1=>a_ h1 λitv s2 h2=>?_;obtain⟨it,fp,tn,J,H2,rfl,I2,T,st2,f2,ι2,x2,S2,ok⟩:=h2;refine Zi2 (own:=own) (g:=g) (ts:=ts) (f:=f) O hc hb I2 T st2 f2 S2 (E.mono x2) ok (h.up x2) (λacc C=>compPost (aN X.prog X.w) X.A X.xe Ye (EP X pins σ Q) acc C) ?_;intro acc C s' m H' hn hf I' hq;obtain⟨f0,f1,f2',f3,f4,f5⟩:=hf;exact⟨m,hn,λh' sb=>⟨.ref acc,H',I'.turned (t':=s'.toks) (λb o hb e=>(sb.2 b hb).trans e) f0 f1 f3 f4 f5,rfl,hq⟩⟩
theorem zA(j:Nat){pos' spos:bQ}(O:zy X scope N' own)(sU:X.xe=λ_ _=>False)(hc:X.calm=true)(hN:X.N.Nodup)(hi:CI X tg iter i)(hb:∀C cl s H ex,CG (jk X scope N' C cl s H ex) tg g/\qG (jk X scope N' C cl s H ex) ifs ts/\C3 (jk X scope N' C cl s H ex) elt f)(hj:X.N[j]?=Ya x:=by rfl)(hx:Loc X.env.scope x:=by first|exact Or.inl rfl|exact Or.inr rfl)(hf:X.fn x=true\/X.env.scope.names.lookup x=Ya .local:=by first|exact .inl rfl|exact .inr rfl)(hsw:uc (.ListComp elt [⟨tg,iter,ifs,0⟩] scope pos) (Ya (.Name x pos')) spos.line X.env=pure true:=by rfl)(hs:∀x,ye iter X.env x=pure x:=by intro _;rfl):CS X (.Assign [.Name x pos'] (.ListComp elt [⟨tg,iter,ifs,0⟩] scope pos) spos) (ao j (gh i own g ts f)):=by
 intro pins s σ H D I h;obtain⟨ι,M,env,S,E,h⟩:=h;have h0:aG X.K H ι (λv H'=>D.nx (σ.set j (Ya v)) H') (gh i own g ts f env M):=by
  unfold ao at h;cases q:gh i own g ts f env M with
  |ok d M1=>rw[q]at h;exactλv H1 ι1 x1 S1 r1=>h _ H1 ι1 x1 S1 ((E.mono x1).set j r1)|exc _ _=>rw[q]at h;exact h.elim|bad=>rw[q]at h;exact h.elim
 obtain⟨bV,M1,e1,h1⟩:=aG.bind h0;have hc0:∀y∈scope.names,y.2= .free->∃c,X.env.cells.lookup y.1=Ya c:=λy hy e=>I.ok.has y.1 (O.free y hy e);rw[exec_Assign_Name_used _ _ _ _ hsw];refine Yf (Gg (Yf ?_));show aA _ X.A (do let _ ←comprehension (.ListComp elt [⟨tg,iter,ifs,0⟩] scope pos) scope X.env _ (newList []) false (bU iter X.env) (Ya (iy (.Name x pos') X.env))) _ _ s;refine Yf (j8 (Uy (use:=Ya (iy (.Name x pos') X.env)) (Q:=λ_ s'=>SP X pins D .next s') rfl hs (Zgy hc0) O.kind O.names ?_) (λ_ s' hq=>Yw (Yw hq)) λ_ _ e=>e);refine a_ (hi pins s σ H (λJ H'=>∃ι',Ext X.K H ι H' ι'/\aP X.K H' ι' M1/\pI X.K H' ι' bV J) I ⟨ι,M,env,S,E,by rw[e1];exactλJ H' ι' x S' o=>⟨ι',x,S',o⟩⟩) λv s1 h1'=>a_ h1' λitv s2 h2=>?_;obtain⟨it,fp,tn,J,H2,rfl,I2,T,st2,f2,ι2,x2,S2,ok⟩:=h2;refine Zi2 (own:=own) (g:=g) (ts:=ts) (f:=f) O hc hb I2 T st2 f2 S2 (E.mono x2) ok (h1.up x2) (λacc C=>compPost (aN X.prog X.w) X.A X.xe (Ya (iy (.Name x pos') X.env)) (λ_ s'=>SP X pins D .next s') acc C) ?_;intro acc C s' m H' hn hfC I' hq;obtain⟨f0,f1,f2',f3,f4,f5⟩:=hfC;show aA _ X.A (iy (.Name x pos') X.env (.ref acc)) _ _ s';refine UL (Ww I' hN hj hx (show RelV (.ref acc) (.ref acc)from rfl) (λs'' I'' ⟨a,sb,ha⟩=>?_) hf);have hCa:C≠a:=by
  rcases ha with rfl|ha
  .exact f1
  .exact cU (f4 x a ha)
 exact⟨m,hn.sameBut sb hCa,λh' sb'=>⟨_,H',I''.turned (t':=s''.toks) (λb o hb e=>(sb'.2 b hb).trans e) f0 f1 f3 f4 f5,hq⟩⟩
end
theorem d8{k:Nat}{A:cG}(r:gJ k A):A.units+80<fX:=by have:=r.un;exact lC 1 0x2502b0c12c82b110d0cc11 T1 this
noncomputable def Its(x:aj):It:=⟨λi _=>i<x.cps.size,λi H y H'=>H'=H/\∃c,x.cps[i]?=Ya c/\y= .str ⟨#[c]⟩,λi _=>i=x.cps.size⟩
theorem ZpR{P:cj}{w:bO}{tg:Expr}{it:Yz}{t:j9}{ty:String}(W:∀A':cG,A'.handled=Ye->Walks P w A' it [it] [it] x.cps.size (SignAt x) (λi h=>h.IsStrIter it ty x t i))(hs:∀(A:cG) (i:Nat) (s:Yh) (Q:Yg->Yh->Prop) (E:Yg->Yh->Prop),s.heap.IsStrIter it ty x t i->Q (.ref it) s->aA (aN P w) A (BV (.ref it)) Q E s)(hty:["enumerate","zip","dict_itemiterator","dict_reverseitemiterator","odict_iterator","itertools.zip_longest","itertools.pairwise"].contains ty=false):Turn P w K tg (Its x) [it] it (λi h=>h.IsStrIter it ty x t i)where
 mem:=by simp
 obj:=λi h st b hb=>by
  have e:b=it:=by simpa using hb
  subst e;obtain⟨o,e,c,d⟩:=st;exact⟨o,e,λv z=>by rw[d]at z;cases z⟩
 keep:=λi h h' st k=>let⟨o,e,r⟩:=st;⟨o,k it (by simp) o e,r⟩
 item:=by intro X hP hw hK hc i pins s σ H E I hf st hg;subst hP hw hK;obtain⟨f0,f1,f2,f3,f4,f5⟩:=hf it (by simp);refine(W X.A (I.ok.hd hc)).item i s _ _ hg st λv h' tk hv st' kk=>?_;obtain⟨c,u,hx,rfl⟩:=hv;have I1:Inv X pins σ H {s with heap:=h',toks:=tk}:=I.turned (λb o hb e=>kk b o (by simpa using hb) e) f0 f1 f3 f4 f5;obtain⟨o,e,cc,d⟩:=id st';exact⟨_,rfl,CP (s:={s with heap:=h',toks:=tk}) e cc d hty ⟨.str ⟨#[c]⟩,H,I1,⟨u,rfl⟩,⟨rfl,c,hx,rfl⟩,st',λb hb=>(hf b hb).1⟩⟩
 done:=by intro X hP hw hK hc i pins s σ H E I hf st hg;subst hP hw hK;obtain⟨f0,f1,f2,f3,f4,f5⟩:=hf it (by simp);have e:i=x.cps.size:=hg;subst e;exact(W X.A (I.ok.hd hc)).done s _ _ st λh' tk kk=>⟨rfl,I.turned (λb o hb e=>kk b o (by simpa using hb) e) f0 f1 f3 f4 f5⟩
 self:=hs
section
variable {X:Cx} {tg e o:Expr} {es:List Expr} {pos p apos cpos:bQ} {f:E3} {gl:iK}
theorem Zui(h:C3 X e f):PI X tg e (λσ H R=>pF X.K f σ H λx H1=>∃z:aj,x= .str z/\z.length<=SZ/\∀J,(∀ι,pI X.K H1 ι ⟨z.cps.toList.map λc=>.str [c],Ye⟩ J)->R J H1):=by
 intro pins s σ H R I hw;refine a_ (h pins s σ H _ I hw) λv s1 ak=>?_;obtain⟨x,H1,I1,r1,z,ex,hz,q⟩:=ak;subst ex;obtain⟨t,rfl⟩:=r1;have key:∀(ty:String) (o:aV),(∀A':cG,A'.handled=Ye->Walks X.prog X.w A' s1.heap.objs.size [s1.heap.objs.size] [s1.heap.objs.size] z.cps.size (SignAt z) (λi h=>h.IsStrIter s1.heap.objs.size ty z t i)) ->
   (∀(A:cG) (i:Nat) (s:Yh) (Q:Yg->Yh->Prop) (E:Yg->Yh->Prop),s.heap.IsStrIter s1.heap.objs.size ty z t i->Q (.ref s1.heap.objs.size) s->aA (aN X.prog X.w) A (BV (.ref s1.heap.objs.size)) Q E s) ->
   ["enumerate","zip","dict_itemiterator","dict_reverseitemiterator","odict_iterator","itertools.zip_longest","itertools.pairwise"].contains ty=false->(s1.heap.push o).IsStrIter s1.heap.objs.size ty z t 0 ->
   PIE X pins σ tg R (.ref s1.heap.objs.size) {s1 with heap:=s1.heap.push o}:=by
  intro ty o W hs hty st;refine⟨s1.heap.objs.size,[s1.heap.objs.size],_,_,H1,rfl,I1.kept (t':=s1.toks) λb o e=>Yo _ e,ZpR W hs hty,st,λb hb=>?_,q _ λι=>?_⟩
  .have e:b=s1.heap.objs.size:=by simpa using hb
   subst e;exact I1.u_ (Yk _) (I1.hok.fresh (Yk _))
  .intro i H2 ι2 M2 x S _;refine⟨λd hd=>?_,λhl=>?_⟩
   .rw[Yx]at hd;cases hq:z.cps.toList[i]? with
    |none=>rw[hq]at hd;cases hd|some c=>
     rw[hq]at hd;have hd':D.str [c]=d:=by simpa using hd
     subst hd';have hi:i<z.cps.size:=by have:=(Yd.mp hq).1;simpa using this
     refine⟨hi,λy H3 hy=>⟨hy.1,?_⟩⟩;obtain⟨_,c',hc',rfl⟩:=hy;have:c'=c:=by rw[←Vh,hq]at hc';exact(Yq hc').symm
     subst this;exact Rep.str
   .show i=z.cps.size;rw[hl];simp
 cases ha:z.cps.all (· <128)
 .exact wpAny_pyIter_wide ha (key "str_iterator" _ (λA' hA=>Walks.strWide hA _ z t) (λ_ _ _ _ _ st h=>wpAny_pyIter_striter_wide st h) (by decide) ⟨_,jg _ rfl,rfl,rfl⟩)
 .exact wpAny_pyIter_ascii ha (key "str_ascii_iterator" _ (λA' hA=>Walks.strAscii hA _ z t) (λ_ _ _ _ _ st h=>wpAny_pyIter_striter_ascii st h) (by decide) ⟨_,jg _ rfl,rfl,rfl⟩)
theorem DX(h:C3 X e f):CI X tg e (jO f):=Zuo h (Zui h)
theorem Ztk{T:String}{ty:D->Store->Bool}{m:D->List D->Store->R3 D}(hty:∀H ι M a x,aP K H ι M->Rep K H ι a x->ty a M=true->Hs K T x H)(σ:St)(H:Hp)(Q:VK)(h:pF K (g8 ty m f gl) σ H Q):Xi K T (rM K m) (pF K f) (PL K gl) σ H Q:=by
 obtain⟨ι,M,env,S,E,h⟩:=h;obtain⟨a,M1,e1,h⟩:=aG.bind h;refine⟨ι,M,env,S,E,?_⟩;rw[e1];intro v H1 ι1 x1 S1 r1;by_cases ht:ty a M1=true
 .rw[if_pos ht]at h;obtain⟨ds,M2,e2,h⟩:=aG.bind h;refine⟨hty _ _ _ _ _ S1 r1 ht,ι1,M1,env,S1,E.mono x1,?_⟩;rw[e2];intro vs H2 ι2 x2 S2 r2;exact⟨ι2,M2,a,ds,S2,r1.mono x2,r2,(h.up x1).up x2⟩
 .rw[if_neg ht]at h;exact h.elim
theorem Zs2(H:Hp)(ι:List Yz)(M:Store)(a:D)(x:V)(S:aP K H ι M)(r:Rep K H ι a x)(h:jz a M=true):Hs K "list" x H:=by
 cases a with
 | ref n=>
  rw[Zs8]at h;cases hn:M[n]? with
  |none=>rw[hn]at h;exact ft h|some o=>
   cases o with
   |dct _=>rw[hn]at h;exact ft h|cC _=>rw[hn]at h;exact ft h|ins _ _=>rw[hn]at h;exact ft h|lst xs=>obtain⟨p,hp,rfl⟩:=r.gF;obtain⟨vs,e,_⟩:=S.obj n _ p hn hp;exact .inl ⟨rfl,vs,cL.of e⟩
 |_=>exact ft h
theorem _root_.L2.v9.imp{id:String}{r r':V->List V->Hp->VK->Prop}(h:v9 X id r)(i:∀x xs H Q,r' x xs H Q->r x xs H Q):v9 X id r':=λpins s σ H x xs v us Q I rx rs q=>h pins s σ H x xs v us Q I rx rs (i x xs H Q q)
theorem ZqP:v9 X "list.append" (rM X.K jy):=v9.imp (r:=Xj) Xk λx xs H Q ak=>by
 obtain⟨ι,M,a,ds,S,ra,rd,h⟩:=ak;cases a with
 | ref n=>
  cases ds with
  |nil=>exact h.elim|cons d ds=>
   cases ds with
   |cons _ _=>exact h.elim|nil=>
    simp only[ZnS]at h;cases hn:M[n]? with
    |none=>simp only[hn]at h;exact h.elim|some o=>
     cases o with
     |dct _=>simp only[hn]at h;exact h.elim|cC _=>simp only[hn]at h;exact h.elim|ins _ _=>simp only[hn]at h;exact h.elim|lst z=>
      simp only[hn]at h;split at h
      .rename_i hz;obtain⟨p,hp,rfl⟩:=ra.gF;obtain⟨v,ws,rfl,r1,r2⟩:=rd.cons_inv;have:=r2.nil_inv;subst this;obtain⟨vs,e,rv⟩:=S.obj n _ p hn hp;obtain⟨x2,S2⟩:=S.Fq (.inr (.inl ⟨_,e⟩)) hp (rv.append (aB.cons r1 aB.nil));exact⟨p,vs,v,rfl,rfl,e,by rw[rv.length];exact Y9 hz mO,h _ _ _ x2 S2 Rep.non⟩
      .exact h.elim
 |_=>exact h.elim
theorem DY(ho:C3 X o f)(ha:CA X (e::es) gl)(hbase:Gi o "append" X.env (bU o X.env)=bU o X.env:=by rfl)(hfew:((jq cpos (cF (e::es) X.env)).all (λx=>!x.1)&&(Gn cpos (Gk [] X.env)).all (λx=>x.1.isSome)
   &&decide ((e::es).length+([]:List Keyword).length+(if([]:List Keyword).isEmpty then 0 else 1)<30))=true:=by rfl)(hline:(apos.endLine==cpos.line)=true:=by rfl)(hs:cF (e::es) X.env=(false,bU e X.env)::cF es X.env:=by rfl)(hplain:(jq cpos (cF es X.env)).any (·.1)=false:=by rfl):
  C3 X (.Call (.Attribute o "append" apos) (e::es) [] cpos) (g8 jz jy f gl):=
 (ZvS PySem.F.plainAttrs_list PySem.F.slot_list_append PySem.F.type_list_append ZqP ho ha hbase hfew hline hs hplain).imp (Ztk Zs2)
theorem Zvp:bf X (gG .In) (r2 X.K λa b M=>match a,b with| .str [c],.str y=>.ok (.bl (decide (c∈y))) M|_,_=>.bad):=bf.imp ZoP λx y H Q ak=>by
 obtain⟨ι,M,a,b,S,ra,rb,h⟩:=ak;cases a with
 | str z=>
  cases z with
  |nil=>cases b<;>exact h.elim|cons c z=>
   cases z with
   |cons _ _=>cases b<;>exact h.elim|nil=>
    cases b with
    |str y=>refine⟨_,_,ra.str_inv,rb.str_inv,?_⟩;have e:=StrLaws.found_one (⟨y.toArray⟩:aj) c;rw[show(⟨[c].toArray⟩:aj)=⟨#[c]⟩from rfl,e];exact aG.ok h S Rep.bl|_=>exact h.elim
 |_=>cases b<;>exact h.elim
end
section
variable {X:Cx}
theorem qH(hu:X.A.units+80<fX):bf X (gG .NotEq) (r2 X.K dw):=by
 intro pins s σ H x y v u Q I rx ry h;obtain⟨ι,M,a,b,S,ra,rb,h⟩:=h;unfold dw at h;cases q:kh a b M with
 |none=>rw[q]at h;exact h.elim|some k=>rw[q]at h;exact(ZoF hu I S ra rb rx ry q).2 X.prog X.w X.xe _ ⟨.bl (!k),H,I,rfl,aG.ok h S Rep.bl⟩
theorem Zmn(r:Rep K H ι d v)(h:gZ d=true):qp v=true:=by
 cases d with
 |non=>rw[r.jZ];rfl|bl b=>rw[r.je];rfl|int i=>rw[r.int_inv];rfl|str x=>rw[r.str_inv];rfl
 |_=>exact ft h
theorem ZrV(x y:List Nat):((⟨x.toArray⟩:aj)==⟨y.toArray⟩)=(x==y):=by rw[Ml];simp
theorem Zsz{e:D}{w:V}(r:Rep K H ι d v)(q:Rep K H ι e w)(h:gZ d=true)(h':gZ e=true):rT v w=eG d e:=by
 cases d with
 |non=>rw[r.jZ];cases e with
  |non=>rw[q.jZ];rfl|bl _=>rw[q.je];rfl|int _=>rw[q.int_inv];rfl|str _=>rw[q.str_inv];rfl
  |_=>exact ft h'
 |bl _=>rw[r.je];cases e with
  |non=>rw[q.jZ];rfl|bl _=>rw[q.je];rfl|int _=>rw[q.int_inv];rfl|str _=>rw[q.str_inv];rfl
  |_=>exact ft h'
 |int _=>rw[r.int_inv];cases e with
  |non=>rw[q.jZ];rfl|bl _=>rw[q.je];rfl|int _=>rw[q.int_inv];rfl|str _=>rw[q.str_inv];rfl
  |_=>exact ft h'
 |str _=>rw[r.str_inv];cases e with
  |non=>rw[q.jZ];rfl|bl _=>rw[q.je];rfl|int _=>rw[q.int_inv];rfl|str _=>rw[q.str_inv];exact ZrV _ _
  |_=>exact ft h'
 |_=>exact ft h
theorem Zou{K:Yb}{H:Hp}{ι:List Yz}{d:D}{v:V}(r:Rep K H ι d v)(h:gZ d=true):∀{ds:List D} {vs:List V},aB K H ι ds vs->ds.all gZ=true->vs.all qp=true/\inV v vs=ds.any λy=>eG y d
 |[],_,q,_=>by rw[q.nil_inv];exact⟨rfl,rfl⟩|e::ds,_,q,hd=>by obtain⟨w,ws,rfl,r1,r2⟩:=q.cons_inv;rw[t7,Y0]at hd;obtain⟨h1,h2⟩:=Zou r h r2 hd.2;refine⟨by rw[t7,Zmn r1 hd.1,h1];rfl,?_⟩;unfold inV at h2 ⊢;rw[mj,mj,h2,Zsz r1 r hd.1 h]
inductive InK(a b:D)(k:Bool):Prop
 |tup (ys:List D):b= .tup ys->(ys.any λy=>eG y a)=k->gZ a=true->ys.all gZ=true->InK a b k
 |str (c:Nat) (y:List Nat):a= .str [c]->b= .str y->decide (c∈y)=k->InK a b k
theorem inK{a b:D}{k:Bool}(h:inD a b=Ya k):InK a b k:=by
 cases b with
 |tup ys=>exact have w:=Qe h;.tup ys rfl w.1 w.2.1 w.2.2|str y=>
  cases a with
  | str z=>cases z with
   |nil=>exact gP h|cons c z=>cases z with
    |nil=>exact .str c y rfl rfl (Yq h)|cons _ _=>exact gP h
  |_=>exact gP h
 |_=>exact gP h
theorem Zty{a:D}{ys:List D}{x y:V}(n:Bool)(ra:Rep K H ι a x)(rb:Rep K H ι (.tup ys) y)(fa:gZ a=true)(fs:ys.all gZ=true)(q:Q (.bl (if n then !(ys.any λy=>eG y a)else ys.any λy=>eG y a)) H):Xh K n x y H Q:=by obtain⟨p,vs,e,s,r⟩:=rb.fW;obtain⟨h1,h2⟩:=Zou ra fa r fs;exact⟨p,vs,e,.inr s,Zmn ra fa,h1,by rw[h2];exact q⟩
theorem Ql(hu:X.A.units+80<fX):bf X (gG .In) (r2 X.K qC):=bf.imp (bf.or Zvp Zpo) λx y H Q ak=>by
 obtain⟨ι,M,a,b,S,ra,rb,h⟩:=ak;unfold qC at h;cases q:inD a b with
 |none=>rw[q]at h;exact h.elim|some k=>
  rw[q]at h;rcases inK q with⟨ys,eb,ek,fa,fs⟩|⟨c,z,ea,eb,ek⟩
  .rw[eb]at rb;rw[←ek]at h;exact .inr (Zty false ra rb fa fs (aG.ok h S Rep.bl))
  .rw[ea]at ra;rw[eb]at rb;rw[←ek]at h;exact .inl ⟨ι,M,_,_,S,ra,rb,h⟩
theorem Zq7(x:List Nat)(n:Nat)(a:List Nat):(Yj n x.toArray).foldl (· ++ ·) a.toArray=(a++(Yj n x).flatten).toArray:=by
 induction n generalizing a with
 |zero=>simp|succ n ih=>rw[rA,Le,rA,vp];have:=ih (a++x);simp only[List.append_toArray]at this ⊢;rw[this];simp
theorem Zuw(x:List Nat)(k:Int):Txt.mul (⟨x.toArray⟩:aj) k=⟨(Yj k.toNat x).flatten.toArray⟩:=by
 unfold Txt.mul;split
 .rename_i h;have:k.toNat=0:=Yt (oU (Int.toNat_of_nonpos (iN [] [_] 1 235446417 T1 h))) (eV _);rw[this];rfl
 .split
  .rename_i h1 h2;simp only[ul,beq_iff_eq,p_,Yl]at h2;rcases h2 with h2|h2
   .subst h2;simp
   .have:x=[]:=Bo h2;subst this;simp
  .have:=Zq7 x k.toNat [];rw[vz]at this;exact congrArg Str.mk this
theorem aB.repl(r:aB K H ι ds vs):∀k:Nat,aB K H ι (Yj k ds).flatten (Yj k vs).flatten
 |0=>aB.nil|k+1=>by rw[rA,rA,vp,vp];exact r.append (aB.repl r k)
theorem oG:bf X (iI .Mult) (r2 X.K gY):=by
 have hs:bf X (iI .Mult) (λx y H Q=>∃(z:List Nat) (k:Int),x= .str ⟨z.toArray⟩/\y= .int k/\z.length*k.toNat<=1000000/\k<1000000/\ -1000000<k/\Q (.str ⟨(Yj k.toNat z).flatten.toArray⟩) H):=by
  intro pins s σ H x y v u Q I rx ry h;obtain⟨z,k,rfl,rfl,h1,h2,h3,q⟩:=h;obtain⟨t,rfl⟩:=rx;obtain⟨t',rfl⟩:=ry;refine SB.mul ⟨?_,λh4 h5=>?_,λh4 h5=>?_⟩ λt'' tk=>?_
  .simp;omega
  .simp only[p_,Yl];simp at h4 h5;have hk:2<=k:=by
    simp only[p_,Yl]at h5;omega
   have e:(k.toNat:Int)=k:=vP (p7 (jh (iN [] [_] 1 3892452225 T1 hk))) ((rH _));have hm:(z.length:Int)*k<=1000000:=by have h1':((z.length*k.toNat:Nat):Int)<=1000000:=yu.mpr h1;rw[Mt,e]at h1';exact h1'
   have hd:(z.length:Int)<=9223372036854775807 / k:=Int.le_ediv_of_mul_le (iN [] [_] 1 3909229441 T1 hk) (by omega);show¬((z.length:Int)>(2^63-1) / k);have e3:((2:Int)^63-1)=9223372036854775807:=by decide
   rw[e3];exactλz=>iN [_] [_] 2 6599352549521 T1 z hd
  .unfold Builtin.Str.tooLong;simp only[p_,Yl,decide_eq_false_iff_not];have hsz:(1000000:Nat)<=bN:=mO;exactλz=>lB 3 0x6f42405b1010f42405b011011 T1 z hsz h1
  .rw[Zuw];exact⟨.str _,H,I.tok _,⟨_,rfl⟩,q⟩
 refine bf.imp (bf.or Zs7 (bf.or hs Ztr)) λx y H Q ak=>?_;obtain⟨ι,M,a,b,S,ra,rb,h⟩:=ak;cases a with
 | int i=>cases b with
  |int j=>obtain⟨hm,h⟩:=wQ h;refine .inl ⟨i,j,ra.int_inv,rb.int_inv,?_,aG.ok h S Rep.int⟩;simp only[fK,ul,Y0,decide_eq_true_eq]at hm;exact hm|_=>exact h.elim
 | str z=>cases b with
  |int k=>obtain⟨hz,h⟩:=wQ h;exact .inr (.inl ⟨z,k,ra.str_inv,rb.int_inv,hz.1,hz.2.1,hz.2.2,aG.ok h S Rep.str⟩)|_=>exact h.elim
 | ref n=>cases b with
  |int k=>
   have h:aG X.K H ι Q (P0 M[n]? λx=>@ite _ (x.length*k.toNat<=SZ/\k<1000000/\ -1000000<k) (Yp _) (alloc (.lst (Yj k.toNat x).flatten) M) .bad):=h;obtain⟨z,hn,h⟩:=Z2 h;obtain⟨hz,h⟩:=wQ h;obtain⟨p,hp,e'⟩:=ra.gF;obtain⟨vs,e,r⟩:=S.obj n _ p hn hp;refine .inr (.inr ⟨p,k,vs,e',rb.int_inv,e,?_,?_,by rw[r.length];exact Y4 hz.1 mO,λq hq=>?_⟩)
   .exact Int.le_trans (by decide) (Ca hz.2.2)
   .exact Vd hz.2.1 (by decide)
   obtain⟨x2,S2,r2⟩:=S.lst hq (aB.repl r k.toNat);exact h _ _ _ x2 S2 r2
  |_=>exact h.elim
 |_=>cases b<;>exact h.elim
theorem Zow(n d:Nat)(hd:d<=n)(o:Option Int):(match o with|none=>(d:Int)|some i=>max 0 (iJ (if i<0 then i+(n:Int)else i) (n:Int)))=((aO n d o:Nat):Int):=by
 cases o with
 |none=>rfl|some v=>
  show max 0 (iJ (if v<0 then v+(n:Int)else v) (n:Int))=(((if v<0 then(v+(n:Int)).toNat else iJ v.toNat n):Nat):Int);by_cases h:v<0
  .rw[if_pos h,if_pos h];exact Nr v n h
  .rw[if_neg h,if_neg h];exact Nt v n h
theorem Zh5(lo hi:Option Int)(n:Nat):GC lo hi 1 n=(dm (aO n n hi-aO n 0 lo)).map (λk=>aO n 0 lo+k):=by
 have e1:=Zow n 0 (eV _) lo;have e2:=Zow n n (Yk _) hi;have key:GC lo hi 1 n=sliceRange ((aO n 0 lo:Nat):Int) ((aO n n hi:Nat):Int) 1:=by rw[←e1,←e2];simp only[GC,show((1:Int)>0)=True from by simp,if_true];cases lo<;>cases hi<;>rfl
 rw[key];generalize aO n 0 lo=a;generalize aO n n hi=b;simp only[sliceRange,show((1:Int)>0)=True from by simp,if_true];by_cases hlt:(a:Int)<b
 .have e3:(((b:Int)-a+1-1) / 1).toNat=b-a:=by first|exact Yt (iN [_,_,_,_] [_] 3 0x230038a112c001aa1808fcf001d81 T1 (Int.mul_ediv_self_le (by decide)) (bZ _ _) (jh (iN [_,_] [_] 2 0xe8a001dcaa0818fcf91180891 T1 hlt (Vc (by decide))))) (iN [_,_,_,_] [_] 3 0x230013c2128081a001dcaa1808fcf91 T1 (Vc (by decide)) (rH _) (Yc (iN [_,_] [] 1 4296542353 T1 hlt)))|(simp;done)|(simp;omega)
  simp only[hlt,if_true,e3];refine Br λk _=>?_;exact Yt (iN [_,_,_] [] 1 0x21c002801d18c08a1 T1 (jh (iN [_,_] [] 0 103109659880 T1))) (iN [_,_,_] [] 1 0x210c0281801d08c81 T1 (rH _))
 .have:b-a=0:=Yt (oU (TV (iN [_,_] [] 1 270010577 T1 hlt))) (eV _);simp[hlt,this]
theorem Hr(n d:Nat)(hd:d<=n)(o:Option Int):aO n d o<=n:=by
 cases o with
 |none=>exact hd|some v=>simp only[aO];split <;>omega
theorem Znh(z:List Nat)(lo hi:Option Int)(l u:Option (Int×j9))(hl:l.map (·.1)=lo)(hu:u.map (·.1)=hi):
  (if((1:Int)==1&&(vH ⟨z.toArray⟩ l u Ye).length==(⟨z.toArray⟩:aj).length)=true then(⟨z.toArray⟩:aj)else⟨((vH ⟨z.toArray⟩ l u Ye).filterMap ((⟨z.toArray⟩:aj).cps[·]?)).toArray⟩)=⟨(cutD z lo hi).toArray⟩:=by
 have e0:vH ⟨z.toArray⟩ l u Ye=(dm (aO z.length z.length hi-aO z.length 0 lo)).map (λk=>aO z.length 0 lo+k):=by unfold vH;rw[hl,hu];simp only[p_,Yl];exact Zh5 lo hi z.length
 have hb:=Hr z.length z.length (Yk _) hi;rw[e0];have pick:((dm (aO z.length z.length hi-aO z.length 0 lo)).map (λk=>aO z.length 0 lo+k)).filterMap ((⟨z.toArray⟩:aj).cps[·]?)=cutD z lo hi:=by
  unfold cutD;by_cases hab:aO z.length 0 lo<=aO z.length z.length hi
  .have h:=StrLaws.picks z (aO z.length z.length hi-aO z.length 0 lo) (aO z.length 0 lo) (lD 2 82120338080600065 T1 hb (Yc hab));simpa using h
  .have:aO z.length z.length hi-aO z.length 0 lo=0:=Yt (oU (TV (lB 1 1052737 T1 hab))) (eV _);rw[this];simp
 rw[pick];split
 .rename_i hc;simp only[Yn,t6,p_,Yl,Y0,beq_iff_eq]at hc;have hc2:=hc.2;have h0:aO z.length 0 lo=0\/z.length=0:=by omega
  have:cutD z lo hi=z:=by
   unfold cutD;rcases h0 with h0|h0
   .rw[h0,Gb,tY (by exact lD 3 0x3102001e3c2011031 T1 hc2 (bZ _ _) (j4 _ _))]
   .have:z=[]:=Bo h0;subst this;simp
  rw[this]
 .rfl
theorem Zs5:ji X (λx lo hi H Q=>∃z:List Nat,x= .str ⟨z.toArray⟩/\z.length<=SZ/\Q (.str ⟨(cutD z lo hi).toArray⟩) H):=by
 intro pins s σ H x v vl vu lo hi sl Q I rx hs pl pu h;obtain⟨z,rfl,hz,q⟩:=h;obtain⟨t,rfl⟩:=rx;have part:∀{v:Yg} {o:Option Int},IsPart v o->∃p:Option (Int×j9),v=partValue p/\p.map (·.1)=o:=by
  intro v o h;cases h with
  |none=>exact⟨Ye,rfl,rfl⟩|int i t=>exact⟨Ya (i,t),rfl,rfl⟩
 obtain⟨l,rfl,hl⟩:=part pl;obtain⟨u,rfl,hu⟩:=part pu;refine⟨"str",_,PySem.F.slot_str_getitem.lookup,L_ _ _ _,?_⟩;refine wpAny_getItem_str_slice (l:=l) (u:=u) (st:=Ye) hs rfl ?_;unfold sliceMade;refine post_val_or_made (λ_=>?_) λt' k=>?_
 .show((vH ⟨z.toArray⟩ l u Ye).filterMap ((⟨z.toArray⟩:aj).cps[·]?)).toArray.size<=bN;rw[Yl];refine Y4 (FN _ _) ?_;show(GC (l.map (·.1)) (u.map (·.1)) 1 (⟨z.toArray⟩:aj).length).length<=bN;rw[Zh5];simp only[Yn,t6,p_,Yl];have:=Hr z.length z.length (Yk _) (u.map (·.1));have:=mO;omega
 .have e:=Znh z lo hi l u hl hu;have e':(if(((Ye:Option (Int×j9)).map (·.1)).getD 1==1&&(vH ⟨z.toArray⟩ l u Ye).length==(⟨z.toArray⟩:aj).length)=true then(⟨z.toArray⟩:aj)else⟨((vH ⟨z.toArray⟩ l u Ye).filterMap ((⟨z.toArray⟩:aj).cps[·]?)).toArray⟩)=⟨(cutD z lo hi).toArray⟩:=e;rw[e'];exact⟨.str _,H,I.tok _,⟨_,rfl⟩,q⟩
theorem ZgO{prog:cj}{w:bO}{A:cG}{s:Yh}{t sl:Yz}{items:Array Yg}{vl vu:Yg}{lo hi:Option Int}{Q:Yg->Yh->Prop}(ht:IsTup s.heap t items)(hs:s.heap.IsSliceOf sl vl vu .none)(pl:IsPart vl lo)(pu:IsPart vu hi)(hw:HT.aO items.size 0 lo=0/\HT.aO items.size items.size hi=items.size)(h:Q (.ref t) s):aA (aN prog w) A (pX (.ref t) (.ref sl)) Q E s:=by
 obtain⟨os,hos,hcs,hds⟩:=id hs;have hTs:s.TypeIs (.ref sl) "slice":=⟨os,hos,hcs⟩;unfold pX
 try with_reducible refine j6 ?_
 first|refine Yf (Yw ?_)|skip
 refine Yf (UV ht.typeIs (by decide) ?_);refine Yf (Bv (name:=vU "__getitem__") ht.typeIs Gw
  (yg Gw ht.typeIs Vm ?_ (Vp _ _)))
 show aA _ _ (Vr (.ref t)>>=_) _ _ s;refine Yf (tupleItemsOf_ ht ?_);refine Yf (BL hTs ?_);rw[if_pos (by decide)];refine Yf (HT.RX hs pl pu ?_);have Aa8:(((HT.aO items.size 0 lo:Nat):Int)==0&&(1:Int)==1&&(HT.aO items.size items.size hi-HT.aO items.size 0 lo)==items.size)=true:=by rw[hw.1,hw.2];simp
 show aA _ _ (if(((HT.aO items.size 0 lo:Nat):Int)==0&&(1:Int)==1&&(HT.aO items.size items.size hi-HT.aO items.size 0 lo)==items.size)=true then _ else _) _ _ s;rw[if_pos Aa8];unfold Builtin.Tuple.tupleIsExact;refine Yf (Yf (BL ht.typeIs (Yw ?_)));rw[if_pos (by decide)];exact Yf (BP (Yw ⟨_,rfl,Yw h⟩))
theorem Zsj:ji X (λx lo hi H Q=>∃a xs,x= .ref a/\cZ X.K H a xs/\(HT.aO xs.length 0 lo=0/\HT.aO xs.length xs.length hi=xs.length)/\Q (.ref a) H):=by
 intro pins s σ H x v vl vu lo hi sl Q I rx hs pl pu h;obtain⟨a,xs,rfl,hx,hw,q⟩:=h;cases rx;obtain⟨its,r,ht,hz⟩:=I.tuple hx;have hlen:its.toArray.size=xs.length:=by rw[Yl];exact r.length.symm
 refine⟨"tuple",_,PyProof.Rows.slot_tuple_getitem.lookup,ht.typeIs,?_⟩;exact ZgO ht hs pl pu (by rw[hlen];exact hw) ⟨.ref a,H,I,rfl,q⟩
theorem gC:ji X (rS X.K):=ji.imp (ji.or (ji.or Xa Zsj) (ji.or Zry Zs5)) λx lo hi H Q ak=>by
 obtain⟨ι,M,a,S,ra,h⟩:=ak;have ex:∀n d o,HT.aO n d o=aO n d o:=λn d o=>by cases o<;>rfl
 cases a with
 | tup ds=>
  simp only[lJ,lK,lM,lO]at h;obtain⟨p,vs,rfl,s,r⟩:=ra.fW;by_cases hw:aO ds.length 0 lo=0/\aO ds.length ds.length hi=ds.length
  .refine .inl (.inr ⟨p,vs,rfl,s,by rw[ex,ex,r.length];exact hw,?_⟩);have e:cutD ds lo hi=ds:=by unfold cutD;rw[hw.1,hw.2];simp
   rw[e]at h;exact aG.ok h S (Rep.tup s r)
  .refine .inl (.inl ⟨p,vs,rfl,s,by rw[ex,ex,r.length];exact hw,λq hq=>?_⟩);obtain⟨x2,S2,r2⟩:=S.vd hq (Qg r lo hi);exact h _ _ _ x2 S2 r2
 |aQ ds=>simp only[lJ,lK,lM,lO]at h;obtain⟨p,vs,rfl,s,r⟩:=ra.qZ;refine .inr (.inl ⟨p,vs,rfl,s.sq,λq hq=>?_⟩);obtain⟨x2,S2,r2⟩:=S.lst hq (Qg r lo hi);exact h _ _ _ x2 S2 r2|str z=>
  simp only[lJ,lK,lM,lO]at h;split at h
  .rename_i hz;exact .inr (.inr ⟨z,ra.str_inv,hz,aG.ok h S Rep.str⟩)
  .exact h.elim
 | ref n=>
  simp only[lJ,lK,lM,lO]at h;cases hn:M[n]? with
  |none=>simp only[hn]at h;exact h.elim|some o=>
   cases o with
   |dct _=>simp only[hn]at h;exact h.elim|cC _=>simp only[hn]at h;exact h.elim|ins _ _=>simp only[hn]at h;exact h.elim|lst ds=>simp only[hn]at h;obtain⟨p,hp,rfl⟩:=ra.gF;obtain⟨vs,e,r⟩:=S.obj n _ p hn hp;refine .inr (.inl ⟨p,vs,rfl,cL.of e,λq hq=>?_⟩);obtain⟨x2,S2,r2⟩:=S.lst hq (Qg r lo hi);exact h _ _ _ x2 S2 r2
 |_=>exact h.elim
theorem wV{xs:List V}(r:aB K H ι [d] xs):∃x,xs=[x]/\Rep K H ι d x:=by obtain⟨v,ws,rfl,r1,r2⟩:=r.cons_inv;have:=r2.nil_inv;subst this;exact⟨v,rfl,r1⟩
theorem fG:fJ X (.builtin "len") (rB X.K bw):=fJ.imp ZqW λxs H Q ak=>by
 obtain⟨ι,M,ds,S,rd,h⟩:=ak;cases ds with
 |nil=>exact h.elim|cons d ds=>
  cases ds with
  |cons _ _=>cases d<;>exact h.elim|nil=>
   obtain⟨x,rfl,r⟩:=wV rd;cases d with
   |tup z=>obtain⟨p,vs,rfl,s,r'⟩:=r.fW;exact⟨_,vs.length,rfl,.inr ⟨vs,s,rfl⟩,by rw[r'.length];exact aG.ok h S Rep.int⟩|aQ z=>obtain⟨p,vs,rfl,s,r'⟩:=r.qZ;exact⟨_,vs.length,rfl,.inl ⟨vs,s.sq,rfl⟩,by rw[r'.length];exact aG.ok h S Rep.int⟩|str z=>
    simp only[OJ,O1,O2,wu]at h;split at h
    .rename_i hz;have:=r.str_inv;subst this;refine⟨_,z.length,rfl,⟨?_,?_⟩,aG.ok h S Rep.int⟩
     .show z.toArray.size<=bN;rw[Yl];exact Y4 hz mO
     .show z.length=z.toArray.size;rw[Yl]
    .exact h.elim
   | ref n=>
    cases hn:M[n]? with
    |none=>rw[wu,hn]at h;exact h.elim|some o=>
     cases o with
     |dct _=>rw[wu,hn]at h;exact h.elim|cC _=>rw[wu,hn]at h;exact h.elim|ins _ _=>rw[wu,hn]at h;exact h.elim|lst z=>simp only[OJ,O1,O2,wu,hn]at h;obtain⟨p,hp,rfl⟩:=r.gF;obtain⟨vs,e,r'⟩:=S.obj n _ p hn hp;exact⟨_,vs.length,rfl,.inl ⟨vs,cL.of e,rfl⟩,by rw[r'.length];exact aG.ok h S Rep.int⟩
   |_=>exact h.elim
theorem mQ:fJ X (.type "tuple") (rB X.K dF):=fJ.imp ZjR λxs H Q ak=>by
 obtain⟨ι,M,ds,S,rd,h⟩:=ak;cases ds with
 |nil=>exact h.elim|cons d ds=>
  cases ds with
  |cons _ _=>cases d<;>exact h.elim|nil=>
   obtain⟨x,rfl,r⟩:=wV rd;cases d with
   |tup z=>obtain⟨p,vs,rfl,s,r'⟩:=r.fW;exact⟨p,vs,rfl,.inr ⟨s,aG.ok h S (Rep.tup s r')⟩⟩|aQ z=>obtain⟨p,vs,rfl,s,r'⟩:=r.qZ;refine⟨p,vs,rfl,.inl ⟨s.sq,λq hq=>?_⟩⟩;obtain⟨x2,S2,r2⟩:=S.vd hq r';exact h _ _ _ x2 S2 r2|ref n=>
    cases hn:M[n]? with
    |none=>rw[yO,hn]at h;exact h.elim|some o=>
     cases o with
     |dct _=>rw[yO,hn]at h;exact h.elim|cC _=>rw[yO,hn]at h;exact h.elim|ins _ _=>rw[yO,hn]at h;exact h.elim|lst z=>simp only[XM,XQ,yO,hn]at h;obtain⟨p,hp,rfl⟩:=r.gF;obtain⟨vs,e,r'⟩:=S.obj n _ p hn hp;refine⟨p,vs,rfl,.inl ⟨cL.of e,λq hq=>?_⟩⟩;obtain⟨x2,S2,r2⟩:=S.vd hq r';exact h _ _ _ x2 S2 r2
   |_=>exact h.elim
theorem D_:fJ X (.type "list") (rB X.K sE):=fJ.imp Zlw λxs H Q ak=>by
 obtain⟨ι,M,ds,S,rd,h⟩:=ak;cases ds with
 |nil=>exact h.elim|cons d ds=>
  cases ds with
  |cons _ _=>cases d<;>exact h.elim|nil=>
   obtain⟨x,rfl,r⟩:=wV rd;cases d with
   |tup z=>obtain⟨p,vs,rfl,s,r'⟩:=r.fW;refine⟨p,vs,rfl,.inr s,λq hq=>?_⟩;obtain⟨x2,S2,r2⟩:=S.lst hq r';exact h _ _ _ x2 S2 r2|aQ z=>obtain⟨p,vs,rfl,s,r'⟩:=r.qZ;refine⟨p,vs,rfl,.inl s.sq,λq hq=>?_⟩;obtain⟨x2,S2,r2⟩:=S.lst hq r';exact h _ _ _ x2 S2 r2|ref n=>
    cases hn:M[n]? with
    |none=>rw[Df,hn]at h;exact h.elim|some o=>
     cases o with
     |dct _=>rw[Df,hn]at h;exact h.elim|cC _=>rw[Df,hn]at h;exact h.elim|ins _ _=>rw[Df,hn]at h;exact h.elim|lst z=>simp only[ZpX,ZpU,Df,hn]at h;obtain⟨p,hp,rfl⟩:=r.gF;obtain⟨vs,e,r'⟩:=S.obj n _ p hn hp;refine⟨p,vs,rfl,.inl (cL.of e),λq hq=>?_⟩;obtain⟨x2,S2,r2⟩:=S.lst hq r';exact h _ _ _ x2 S2 r2
   |_=>exact h.elim
end
theorem fH:lg "len" =Ya (.builtin "len"):=by decide +kernel
theorem Qm:lg "sorted" =Ya (.builtin "sorted"):=by decide +kernel
theorem Qn:lg "int" =Ya (.type "int"):=by decide +kernel
theorem Ea:lg "list" =Ya (.type "list"):=by decide +kernel
theorem mR:lg "tuple" =Ya (.type "tuple"):=by decide +kernel
theorem Zsy:lg "dict" =Ya (.type "dict"):=by decide +kernel
noncomputable def ZsP(outer:List (aj×NameKind))(N:List aj)(scope:Scope)(N':List aj)(own:Nat):Bool:=
 (scope.names.all λy=>decide (y.2≠ .cell)&&(decide (y.2≠ .free)|| decide (outer.lookup y.1=Ya .cell)|| decide (outer.lookup y.1=Ya .free))&&(decide (y.2≠ .local)|| decide (scope.names.lookup y.1=Ya .local)))&&
  decide (N'.length=N.length+own)&&Qh N N' scope
theorem uT{scope:Scope}{N':List aj}(hk:scope.kind= .function)(h:ZsP X.env.scope.names X.N scope N' own=true):zy X scope N' own:=by
 simp only[ZsP,Y0,decide_eq_true_eq,jJ,ul]at h;obtain⟨⟨h1,h2⟩,h3⟩:=h;refine⟨hk,λy hy=>(h1 y hy).1.1,λy hy e=>?_,λy hy e=>?_,h2,h3⟩
 .rcases(h1 y hy).1.2 with(q|q)|q
  .exact absurd e q
  .exact .inl q
  .exact .inr q
 .rcases(h1 y hy).2 with q|q
  .exact absurd e q
  .exact q
theorem eE{h:aY}{mg:aj->Option Yg}(KX:K.In h)(G:h.Ns Ys mg){f:Yz}{oc:Yg}{od an:Option Yz}{osl:Array (Option Yg)}{dV kV doc pm cdv ct:Yg}(a:PySem.W.nsIn K Ys x=Ya (Ya (.ref f)))(l:K.lookup f=Ya ⟨oc,od,.func (tO x x (dg st) (cM st) (Zt st) dV kV doc pm an cdv ct),osl⟩)(c:Fv K cdv x=true)(k:Bm K (.ref f)=true)(b:Binds K (tO x x (dg st) (cM st) (Zt st) dV kV doc pm an cdv ct) ps []):bC K mg x st ps:=⟨f,_,Xo l c k,TJ KX G a,b⟩
theorem Zvs{l:PySem.W.OpenLaw}{k:Nat}{q:cj}{loose:List aj}{XP:(aj->Option Yg)->aY->Prop}{YP:bO->aY->Prop}{d:DefRec}{K:Params->Yb}(hn:l.most=Ya 63)(hdf:d.params.defaults=[])(hr:gJ k ud)(hY:∀(w:bO) (h:aY),YP w h->(K w.params).In h)(G:∀(w:bO) (mg:aj->Option Yg) (fa:Yz) (h:aY),(K w.params).In h->h.Ns Ys mg->mg d.name=Ya (.ref fa) ->
   ∃fd:mq,(∀(s:Yh) (u:Yg),yj s fd ⟨[u],[]⟩ [("script",u)])/\∀base:aY,(K w.params).In base->base.Ns Ys mg->o9 l.prog w (K w.params) mg base o_ k fa fd ["script"] (zm (K w.params) 1 F))(hF:∀ns:List Int,ns.length<=63->∃M',F [.aQ (ns.map D.int)] []= .ok (.bl true) M'):
  TF q loose XP YP l.row.toRowW d [] (λf vs=>Mf f vs):=
 L2.ZoD (n:=63) (k:=k) (x:="script") (CX:=λ_=>o_) (sp:=λw=>zm (K w.params) 1 F) hn (by decide) hdf hr hY G (λw H a ns hl hO hS=>by
  obtain⟨M',e⟩:=hF ns hl;refine⟨[],[],[.aQ (ns.map D.int)],⟨rfl,Ut,λn o a h=>by simp at h⟩,aB.cons ?_ aB.nil,rfl,?_⟩
  .refine⟨a,ns.map V.int,rfl,?_,aB.ints ns⟩;rcases hS with(h|⟨o,h⟩)|h
   .rcases hO a with z|⟨ob,xs,z⟩
    .rw[h]at z;cases z
    .rw[h]at z;cases z
   .exact .inl ⟨o,h⟩
   .exact .inr h
  .rw[e]
   exactλv H' ι' _ _ r=>r.je) λ_ _ _ _ _ z=>z
theorem Qo{a b:cN}(h:dk a=dk b):a=b:=by
 cases a with
 |inl i=>cases b with
  |inl j=>simp only[dk,Sum.inl.injEq]at h;rw[h]|inr y=>simp[dk]at h
 | inr x=>cases b with
  |inl j=>simp[dk]at h|inr y=>simp only[dk,Sum.inr.injEq,Str.mk.injEq]at h;have:=congrArg Ce h;simp at this;rw[this]
theorem Jd{b:D}{y:V}{k:cN}(h:gK b=Ya k)(r:Rep K H ι b y):y=kV (dk k):=by
 cases b with
 |int i=>cases h;exact r.int_inv|str x=>cases h;exact r.str_inv|_=>exact gP h
variable{kvs:List (cN×D)}{ws:List (Key×V)}
section
variable {K:Yb} {H H':Hp} {ι ι':List Yz} {M:Store} {p:Yz}
theorem cD.nil:cD K H ι [] []:=⟨rfl,aB.nil⟩
theorem cD.cons{k:cN}{d:D}{v:V}{kvs:List (cN×D)}{ws:List (Key×V)}(h:Rep K H ι d v)(r:cD K H ι kvs ws):cD K H ι ((k,d)::kvs) ((dk k,v)::ws):=⟨by simp[r.1],aB.cons h r.2⟩
theorem cD.cons_inv{q:cN×D}(r:cD K H ι (q::kvs) ws):∃v ws',ws=(dk q.1,v)::ws'/\Rep K H ι q.2 v/\cD K H ι kvs ws':=by
 obtain⟨h1,h2⟩:=r;cases ws with
 |nil=>simp at h1|cons w ws=>simp only[Yy,Cg]at h1;obtain⟨v,us,e,r1,r2⟩:=aB.cons_inv h2;simp only[Yy,Cg]at e;exact⟨w.2,ws,by rw[←h1.1],e.1▸r1,h1.2,e.2▸r2⟩
theorem cD.nil_inv(r:cD K H ι [] ws):ws=[]:=by simpa using r.1
theorem cD.mono(r:cD K H ι kvs ws)(e:Ext K H ι H' ι'):cD K H' ι' kvs ws:=⟨r.1,r.2.mono e⟩
theorem cD.length(r:cD K H ι kvs ws):ws.length=kvs.length:=by have:=congrArg vB r.1;simpa using this
theorem cD.val(k:cN):∀{ws:List (Key×V)},cD K H ι kvs ws->match dW kvs k with|some d=>∃v,jw ws (dk k)=Ya v/\Rep K H ι d v|none=>jw ws (dk k)=Ye:=by
 induction kvs with
 |nil=>intro ws r;rw[r.nil_inv];exact Zqk|cons q kvs ih=>
  intro ws r;obtain⟨v,ws',rfl,r1,r2⟩:=r.cons_inv;obtain⟨k',d⟩:=q;unfold dW;by_cases e:k'=k
  .rw[if_pos e];exact⟨v,Hv (by rw[e]),r1⟩
  .rw[if_neg e,Hw λz=>e (Qo z)];exact ih r2
theorem cD.append{k1 k2:List (cN×D)}{w1 w2:List (Key×V)}(a:cD K H ι k1 w1)(b:cD K H ι k2 w2):cD K H ι (k1++k2) (w1++w2):=⟨by simp[a.1,b.1],by rw[Ga,Ga];exact a.2.append b.2⟩
theorem cD.any(k:cN):∀{ws:List (Key×V)},cD K H ι kvs ws->(ws.any λkv=>decide (kv.1=dk k))=(kvs.any λq=>decide (q.1=k)):=by
 induction kvs with
 |nil=>intro ws r;rw[r.nil_inv];rfl|cons q kvs ih=>
  intro ws r;obtain⟨v,ws',rfl,r1,r2⟩:=r.cons_inv;rw[mj,mj,ih r2];congr 1;by_cases e:q.1=k
  .simp[e]
  .simp[e];exactλz=>e (Qo z)
theorem cD.put{k:cN}(r:cD K H ι kvs ws)(rd:Rep K H ι d v):cD K H ι (putD k d kvs) (putK ws (dk k) v):=by
 unfold putD putK;rw[r.any k];by_cases c:(kvs.any λq=>decide (q.1=k))=true
 .rw[if_pos c,if_pos c];clear c
  induction kvs generalizing ws with
  |nil=>rw[r.nil_inv];exact cD.nil|cons q kvs ih=>
   obtain⟨u,ws',rfl,r1,r2⟩:=r.cons_inv;rw[Yy,Yy];by_cases e:q.1=k
   .rw[if_pos e,if_pos (by rw[e])];exact cD.cons rd (ih r2)
   .rw[if_neg e,if_neg λz=>e (Qo z)];exact cD.cons r1 (ih r2)
 .rw[if_neg c,if_neg c];exact r.append (cD.cons rd cD.nil)
theorem cD.merge{l:List (cN×D)}:∀{kvs:List (cN×D)} {ws us:List (Key×V)},cD K H ι l us->cD K H ι kvs ws->cD K H ι (l.foldl (λacc p=>putD p.1 p.2 acc) kvs) (Dd ws us):=by
 induction l with
 |nil=>intro kvs ws us r r0;rw[r.nil_inv];exact r0|cons q l ih=>intro kvs ws us r r0;obtain⟨v,us',rfl,r1,r2⟩:=r.cons_inv;exact ih (ws:=putK ws (dk q.1) v) (us:=us') r2 (r0.put r1)
theorem aP.dct(S:aP K H ι M)(hp:H p=Ye)(r:cD K H ι kvs ws):Ext K H ι (upd H p (.dK ws)) (ι++[p])/\aP K (upd H p (.dK ws)) (ι++[p]) (M++[.dct kvs])/\Rep K (upd H p (.dK ws)) (ι++[p]) (.ref M.length) (.ref p):=by have e:Ext K H ι (upd H p (.dK ws)) (ι++[p]):=Loose.Kr (.inl hp);exact⟨e,S.new hp ⟨ws,nJ,r.mono e⟩,Rep.ref (by rw[←S.len];simp)⟩
theorem aP.Aa9(S:aP K H ι M)(l0:Loose H p)(hn:ι[n]?=Ya p)(r:cD K H ι kvs ws):Ext K H ι (upd H p (.dK ws)) ι/\aP K (upd H p (.dK ws)) ι (M.set n (.dct kvs)):=by have e:Ext K H ι (upd H p (.dK ws)) ι:=Loose.ext l0;exact⟨e,S.put l0 hn ⟨ws,nJ,r.mono e⟩⟩
end
section
variable {X:Cx} {a b c e o:Expr} {es:List Expr} {pos p pos' apos cpos:bQ} {f g h:E3} {gl:iK}
theorem ZqI:C3 X (.Dict [] [] pos) O5:=Zp3.imp λσ H Q ⟨ι,M,env,S,E,h⟩ p hp=>by obtain⟨x1,S1,r1⟩:=S.dct hp cD.nil;exact h _ _ _ x1 S1 r1
theorem hu1(hu:X.A.units+80<fX):X.A.units+1<fX:=lB 1 7331617893452817 T1 hu
theorem Je(S:aP K H ι M){a:Yz}(h:fZ M[n]?=Ya kvs)(ha:ι[n]?=Ya a):∃ws,Rd H a (.dK ws)/\cD K H ι kvs ws:=by
 cases hn:M[n]? with
 |none=>simp[hn]at h|some ob=>
  cases ob with
  |lst _=>simp[hn]at h|dct k=>
   have e:k=kvs:=by simpa[hn]using h
   subst e;obtain⟨ws,hw,kr⟩:=S.obj n _ a hn ha;exact⟨ws,.inl hw,kr⟩
  |cC k=>
   have e:k=kvs:=by simpa[hn]using h
   subst e;obtain⟨ws,⟨o,hw⟩,kr⟩:=S.obj n _ a hn ha;exact⟨ws,.inr ⟨o,hw⟩,kr⟩
  |ins _ _=>simp[hn]at h
theorem ZpP(hu:X.A.units+80<fX)(ha:C3 X a f)(hb:C3 X b g)(hs:Ol b:=by exactλ_ _=>rfl):C3 X (.Subscript a b pos) (e2 n6 f g):=(Zrv (hu1 hu) ha hb hs).imp λσ H Q ak=>by
 obtain⟨ι,M,env,S,E,h⟩:=ak;obtain⟨d,M1,e1,h⟩:=aG.bind h;obtain⟨k,M2,e2,h⟩:=aG.bind h;refine⟨ι,M,env,S,E,?_⟩;rw[e1];intro x H1 ι1 x1 S1 r1;refine⟨ι1,M1,env,S1,E.mono x1,?_⟩;rw[e2];intro y H2 ι2 x2 S2 r2;cases d with
 | ref n=>
  simp only[XJ]at h;cases hn:fZ M2[n]? with
  |none=>simp only[hn]at h;exact h.elim|some kvs=>
   cases hk:gK k with
   |none=>simp only[hn,hk]at h;exact h.elim|some kk=>
    simp only[hn,hk]at h;cases hv:dW kvs kk with
    |none=>simp only[hv]at h;exact h.elim|some w=>simp only[hv]at h;obtain⟨ad,ha,rfl⟩:=(r1.mono x2).gF;obtain⟨ws,hw,kr⟩:=Je S2 hn ha;have hv':=kr.val kk;rw[hv]at hv';obtain⟨v,ev,rv⟩:=hv';refine⟨ad,v,rfl,?_,h v H2 ι2 (x1.trans x2) S2 rv⟩;rw[Jd hk r2,←ev];exact .inl ⟨ws,dk kk,hw,rfl,rfl⟩
 |_=>exact h.elim
theorem Zoc{op:D->D->D->Store->R3 D}(h':aG K H ι Q (e3 op f g h env M)):
  ∃a M1 b M2 c M3,f env M= .ok a M1/\g env M1= .ok b M2/\h env M2= .ok c M3/\aG K H ι Q (op a b c M3):=by
 obtain⟨a,M1,e1,h'⟩:=aG.bind h';obtain⟨b,M2,e2,h'⟩:=aG.bind h';obtain⟨c,M3,e3,h'⟩:=aG.bind h';exact⟨a,M1,b,M2,c,M3,e1,e2,e3,h'⟩
theorem Zl6{D':Ends}(E:cJ K H ι env σ)(h':jR K H ι D' (dJ f env M)):aG K H ι (λ_ H'=>D'.nx σ H') (f env M):=by
 unfold dJ at h';cases q:f env M with
 |ok d M1=>rw[q]at h';exactλv H1 ι1 x1 S1 r1=>h' σ H1 ι1 x1 S1 (E.mono x1)|exc x M1=>rw[q]at h';exact h'.elim|bad=>rw[q]at h';exact h'.elim
theorem ZsA{i:Expr}(hu:X.A.units+80<fX)(ho:C3 X o f)(hi:C3 X i g)(hv:C3 X e h)(hs:uc e (Ya (.Subscript o i pos')) pos.line X.env=pure false:=by rfl):CS X (.Assign [.Subscript o i pos'] e pos) (HN f g h):=(ZrA (hu1 hu) ho hi hv hs).imp λD' σ H ak=>by
 obtain⟨ι,M,env,S,E,hh⟩:=ak;obtain⟨d,M1,b,M2,k,M3,e1,e2,e3,hh⟩:=Zoc (Zl6 E hh);refine⟨ι,M,env,S,E,?_⟩;rw[e1];intro v H1 ι1 x1 S1 r1;refine⟨ι1,M1,env,S1,E.mono x1,?_⟩;rw[e2];intro x H2 ι2 x2 S2 r2;refine⟨ι2,M2,env,S2,(E.mono x1).mono x2,?_⟩;rw[e3];intro y H3 ι3 x3 S3 r3;cases b with
 | ref n=>
  simp only[XS]at hh;cases hn:M3[n]? with
  |none=>simp only[hn]at hh;exact hh.elim|some ob=>
   cases ob with
   |lst _=>simp only[hn]at hh;exact hh.elim|cC _=>simp only[hn]at hh;exact hh.elim|ins _ _=>simp only[hn]at hh;exact hh.elim|dct kvs=>
    cases hk:gK k with
    |none=>simp only[hn,hk]at hh;exact hh.elim|some kk=>
     simp only[hn,hk]at hh;split at hh
     .rename_i hz;obtain⟨ad,ha,rfl⟩:=(r2.mono x3).gF;obtain⟨ws,hw,kr⟩:=S3.obj n _ ad hn ha;obtain⟨x4,S4⟩:=S3.Aa9 (.inr (.inr (.inl ⟨_,hw⟩))) ha (kr.put (k:=kk) ((r1.mono x2).mono x3));refine⟨ad,_,rfl,?_,hh .non _ _ (((x1.trans x2).trans x3).trans x4) S4 Rep.non⟩;rw[Jd hk r3];exact v_.k hw (by rw[kr.length];exact Y9 hz mO)
     .exact hh.elim
 |_=>exact hh.elim
theorem wW{i:Expr}{spos:bQ}(ho:C3 X o f)(hi:C3 X i g)(hv:C3 X e h)(ha:∀v,iy (.Subscript o i spos) X.env v=(do
   let ov ←jf [v] (bU o X.env)
   let iv ←jf [v,ov] (bU i X.env)
   vI spos
   jf [v,ov,iv] (vJ ov iv v)
   BR [v,ov,iv] []):=by intro _;rfl)(hs:BJ [.Subscript o i spos] e pos.line X.env=pure false:=by rfl)(hw:BK [.Subscript o i spos] e X.env=pure Ye:=by rfl)(h1:(fO [.Subscript o i spos] X.env).map (·.2)=[iy (.Subscript o i spos) X.env]:=by rfl):CS X (.Assign [.Subscript o i spos] e pos) (n_ f g h):=(Hh hv (WN ho hi set_list ha) hs hw h1).imp λD' σ H ak=>by
 obtain⟨ι,M,env,S,E,hh⟩:=ak;obtain⟨d,M1,b,M2,k,M3,e1,e2,e3,hh⟩:=Zoc (Zl6 E hh);refine⟨ι,M,env,S,E,?_⟩;rw[e1];intro v H1 ι1 x1 S1 r1;refine⟨ι1,M1,env,S1,E.mono x1,?_⟩;rw[e2];intro x H2 ι2 x2 S2 r2;refine⟨ι2,M2,env,S2,(E.mono x1).mono x2,?_⟩;rw[e3];intro y H3 ι3 x3 S3 r3;cases b with
 | ref n=>
  cases k with
  | int j=>
   simp only[Dg]at hh;cases hn:M3[n]? with
   |none=>simp only[hn]at hh;exact hh.elim|some ob=>
    cases ob with
    |dct _=>simp only[hn]at hh;exact hh.elim|cC _=>simp only[hn]at hh;exact hh.elim|ins _ _=>simp only[hn]at hh;exact hh.elim|lst xs=>
     simp only[hn]at hh;cases hj:kE xs.length j with
     |none=>simp only[hj]at hh;exact hh.elim|some q=>simp only[hj]at hh;obtain⟨ad,ha,rfl⟩:=(r2.mono x3).gF;obtain⟨ws,hw,kr⟩:=S3.obj n _ ad hn ha;obtain⟨x4,S4⟩:=S3.Fq (.inr (.inl ⟨_,hw⟩)) ha (kr.set q ((r1.mono x2).mono x3));exact⟨ad,ws,j,q,rfl,r3.int_inv,hw,by rw[kr.length];exact hj,hh .non _ _ (((x1.trans x2).trans x3).trans x4) S4 Rep.non⟩
  |_=>exact hh.elim
 |_=>exact hh.elim
end
open PySem PySem.W PyProof.Rows
variable{p:Array Nat}
section
noncomputable def dX{α:Type}(lt:Nat->Nat->Bool):KasT α->α
 | .ret a=>a|.ask i j k=>dX lt (k (lt i j))
theorem zB{α β:Type}(lt:Nat->Nat->Bool)(f:α->KasT β):∀t:KasT α,dX lt (t.bind f)=dX lt (f (dX lt t))
 | .ret _=>rfl|.ask i j k=>zB lt f (k (lt i j))
variable {lt:Nat->Nat->Bool}
structure jV(lt:Nat->Nat->Bool):Prop where
 xQ:∀{a b},lt a b=true->lt b a=false
 tr:∀{a b c},lt b a=false->lt c b=false->lt c a=false
theorem jV.rf(o:jV lt)(a:Nat):lt a a=false:=by
 cases h:lt a a
 .rfl
 .exact h▸o.xQ h
noncomputable abbrev at'(p:Array Nat)(i:Nat):Nat:=p.getD i 0
theorem Eb{q:Array Nat}(h:p[i]?=q[j]?):at' p i=at' q j:=by simp only[at',Cd,h]
def Up(lt:Nat->Nat->Bool)(p:Array Nat)(n:Nat):Prop:=∀i j,i<=j->j<n->lt (at' p j) (at' p i)=false
def qI(lt:Nat->Nat->Bool)(p:Array Nat)(n:Nat):Prop:=∀i j,i<=j->j<n->lt (at' p i) (at' p j)=false
theorem ZrP(o:jV lt)(h1:1<=n)(u:Up lt p n)(h:lt (at' p n) (at' p (n-1))=false):Up lt p (n+1):=by
 intro i j hij hj;by_cases e:j=n
 .subst e;by_cases e':i=j
  .subst e';exact o.rf _
  .exact o.tr (u i (j-1) (lC 2 563648976195601 T1 (iG hij e') (bZ _ _)) (lB 1 4313451553 T1 (Yc h1))) h
 .exact u i j hij ((iG (lB 1 4305567761 T1 hj) e))
theorem Jf(o:jV lt)(h1:1<=n)(u:qI lt p n)(h:lt (at' p (n-1)) (at' p n)=false):qI lt p (n+1):=by
 intro i j hij hj;by_cases e:j=n
 .subst e;by_cases e':i=j
  .subst e';exact o.rf _
  .exact o.tr h (u i (j-1) (lC 2 563648976195601 T1 (iG hij e') (bZ _ _)) (lB 1 4313451553 T1 (Yc h1)))
 .exact u i j hij ((iG (lB 1 4305567761 T1 hj) e))
theorem Qp(o:jV lt){p:Array Nat}:∀(f n:Nat),1<=n->Up lt p n->n<=dX lt (kas_asc p f n)/\dX lt (kas_asc p f n)<=n+f/\Up lt p (dX lt (kas_asc p f n))/\
  (dX lt (kas_asc p f n)=n+f\/lt (at' p (dX lt (kas_asc p f n))) (at' p (dX lt (kas_asc p f n)-1))=true)
 |0,n,h1,u=>⟨Yk _,Yk _,u,.inl rfl⟩|f+1,n,h1,u=>by
  have e:dX lt (kas_asc p (f+1) n)=dX lt (if lt (at' p n) (at' p (n-1))=true then KasT.ret n else kas_asc p f (n+1)):=rfl;rw[e];cases c:lt (at' p n) (at' p (n-1))with
  |true=>exact⟨Yk _,by simp only[if_true,dX];exact Y6 _ _,u,.inr c⟩|false=>simp only[jr,if_false];obtain⟨a,b,d,e⟩:=Qp o f (n+1) (KQ _ _) (ZrP o h1 u c);exact⟨lB 1 4296674305 T1 a,lC 1 0xa2c1c002a1cc001 T1 b,d,e.elim (λz=>.inl (Yt (lC 1 0xa2c1c002a1cc021 T1 z) (lC 1 0xa2c1c02a1cc031 T1 z))) .inr⟩
theorem uU(hj:j<=p.size)(k:Nat):at' (kas_rev p i j) k=if i<=k/\k<j then at' p (i+j-1-k)else at' p k:=by
 have e:=getElem?_mirror_all (xs:=p) (i:=i) hj k;unfold kas_rev;split
 .rename_i h;rw[if_pos h]at e;exact Eb e
 .rename_i h;rw[if_neg h]at e;exact Eb e
theorem sV(p:Array Nat)(i j:Nat):(kas_rev p i j).Perm p:=mirror_perm _ _ _ _
theorem wX(p:Array Nat)(i j:Nat):(kas_rev p i j).size=p.size:=mirror_size _ _ _ _
def Alike(lt:Nat->Nat->Bool)(p:Array Nat)(n q:Nat):Prop:=∀i j,n-(q+1)<=i->i<n->n-(q+1)<=j->j<n->lt (at' p i) (at' p j)=false
theorem Zkv(o:jV lt){q:Nat}(hn:n<=p.size)(hq:q+1<=n)(d:qI lt p n)(a:Alike lt p n q):qI lt (kas_rev p (n-(q+1)) n) n:=by
 intro i j hij hj;rw[uU hn,uU hn];by_cases h1:n-(q+1)<=i
 .rw[if_pos ⟨h1,xT hij hj⟩,if_pos ⟨Y4 h1 hij,hj⟩];exact a _ _ (lF 4 0x53025c401a4c13c0102011011 T1 hj hij (bZ _ _) (bZ _ _)) (lE 3 0x341214c2130ca2c211001 T1 h1 (Yc (lC 1 5043654673 T1 hj)) (Yc (lE 3 0x420a4c13c0102011011 T1 hj hij (bZ _ _)))) (lE 3 0x42004c301a3c12c011011 T1 hj (bZ _ _) (bZ _ _)) (lF 4 0x451325c2140ca3c2121011001 T1 h1 hij (Yc (lC 1 5043654673 T1 hj)) (Yc (lD 2 0x300a3c12c011011 T1 hj (bZ _ _))))
 .rw[if_neg (λz=>lB 2 26042503169 T1 z.1 h1)];by_cases h2:n-(q+1)<=j
  .rw[if_pos ⟨h2,hj⟩];exact d _ _ (lF 4 0x51025c401a4c30c0132111041 T1 h1 hj (bZ _ _) (bZ _ _)) (lE 3 0x341214c2130ca2c211001 T1 h2 (Yc (lC 1 8801751105 T1 h1)) (Yc (lD 2 0x300a3c12c011011 T1 hj (bZ _ _))))
  .rw[if_neg (λz=>lB 2 26042503169 T1 z.1 h2)];exact d _ _ hij hj
theorem Jg(o:jV lt):∀(f:Nat) (p:Array Nat) (n q:Nat),q+1<=n->n+f<=p.size->qI lt p n->Alike lt p n q ->
  let r:=dX lt (kas_desc f p n q);r.1.Perm p/\r.1.size=p.size/\n<=r.2.1/\r.2.1<=n+f/\r.2.2+1<=r.2.1/\qI lt r.1 r.2.1/\Alike lt r.1 r.2.1 r.2.2
 |0,p,n,q,hq,hs,d,a=>⟨Ci _,rfl,Yk _,Yk _,hq,d,a⟩|f +1,p,n,q,hq,hs,d,a=>by
  have one:∀(p':Array Nat),Alike lt p' (n+1) 0:=λp' i j h1 h2 h3 h4=>by have:i=j:=Yt (lD 3 0x120aec0ca3c01a3c2111001 T1 h3 h2 (bZ _ _)) (lD 3 0x300aec2ca1c013201a1c011 T1 h4 h1 (bZ _ _));subst this;exact o.rf _
  unfold kas_desc;simp only[dX];cases c:lt (p.getD n 0) (p.getD (n-1) 0)with
  | true=>
   simp only[if_true];by_cases hq0:q>0
   .rw[if_pos hq0];have hl:lt (at' (kas_rev p (n-(q+1)) n) (n-1)) (at' (kas_rev p (n-(q+1)) n) n)=false:=by
     rw[uU (by exact lC 1 2199729736705 T1 hs),uU (by exact lC 1 2199729736705 T1 hs),if_pos ⟨lD 2 0x300a3c2012a1c0c21 T1 (Yc hq) (bZ _ _),lB 1 4313451553 T1 (Yc (lB 1 6981028865 T1 hq))⟩,if_neg (λz=>lA 1 393233 T1 z.2)];exact o.tr (o.xQ c) (a _ _ (lE 3 0x40034c2011a3c21a2c10c01 T1 (bZ _ _) (Yc (lB 1 6981028865 T1 hq)) (bZ _ _)) (lF 4 0x251345c21a4c20120ca3c212a1c0c21 T1 (Yc hq) (Yc (lC 1 1291176250369 T1 hq)) (bZ _ _) (Yc (lD 2 0x2301a3c21a2c10c01 T1 (bZ _ _) (Yc (lB 1 6981028865 T1 hq))))) (lD 2 0x300a3c2012a1c0c21 T1 (Yc hq) (bZ _ _)) (lB 1 4313451553 T1 (Yc (lB 1 6981028865 T1 hq))))
    obtain⟨h1,h2,h3,h4,h5,h6,h7⟩:=Jg o f (kas_rev p (n-(q+1)) n) (n+1) 0 (lA 0 168603328 T1) (by rw[wX];exact lC 1 0x21a0cc02a1c0c01 T1 hs) (Jf o (lB 1 6981028865 T1 hq) (Zkv o (lC 1 2199729736705 T1 hs) hq d a) hl) (one _);exact⟨h1.trans (sV _ _ _),h2.trans (wX _ _ _),lB 1 4296674305 T1 h3,lC 1 0xa2c1c002a1cc001 T1 h4,h5,h6,h7⟩
   .rw[if_neg hq0];obtain⟨h1,h2,h3,h4,h5,h6,h7⟩:=Jg o f p (n+1) 0 (lA 0 168603328 T1) (lC 1 0x21a0cc02a1c0c01 T1 hs) (Jf o (lB 1 6981028865 T1 hq) d (o.xQ c)) (one _);exact⟨h1,h2,lB 1 4296674305 T1 h3,lC 1 0xa2c1c002a1cc001 T1 h4,h5,h6,h7⟩
  | false=>
   simp only[jr,if_false,dX];cases c2:lt (p.getD (n-1) 0) (p.getD n 0)with
   |true=>exact⟨Ci _,rfl,Yk _,by simp only[if_true,dX];exact Y6 _ _,hq,d,a⟩|false=>
    simp only[jr,if_false];have al:Alike lt p (n+1) (q+1):=λi j h1 h2 h3 h4=>by
     have z:∀k,n+1-(q+1+1)<=k->k<n+1->lt (at' p k) (at' p n)=false/\lt (at' p n) (at' p k)=false:=λk k1 k2=>by
      by_cases e:k=n
      .subst e;exact⟨o.rf _,o.rf _⟩
      .exact⟨o.tr c2 (a k (n-1) (lE 3 0x120aa3cc0ca4c014a3c2c211001 T1 k1 (Yc hq) (bZ _ _)) ((iG (lB 1 4305567761 T1 k2) e)) (lD 2 0x300a3c2012a1c0c21 T1 (Yc hq) (bZ _ _)) (lB 1 4313451553 T1 (Yc (lB 1 6981028865 T1 hq)))),o.tr (a (n-1) k (lD 2 0x300a3c2012a1c0c21 T1 (Yc hq) (bZ _ _)) (lB 1 4313451553 T1 (Yc (lB 1 6981028865 T1 hq))) (lE 3 0x120aa3cc0ca4c014a3c2c211001 T1 k1 (Yc hq) (bZ _ _)) ((iG (lB 1 4305567761 T1 k2) e))) c⟩
     exact o.tr (z j h3 h4).2 (z i h1 h2).1
    obtain⟨h1,h2,h3,h4,h5,h6,h7⟩:=Jg o f p (n+1) (q+1) (lB 1 0xa1caa0cc01a0c01 T1 hq) (lC 1 0x21a0cc02a1c0c01 T1 hs) (Jf o (lB 1 6981028865 T1 hq) d c2) al;exact⟨h1,h2,lB 1 4296674305 T1 h3,lC 1 0xa2c1c002a1cc001 T1 h4,h5,h6,h7⟩
theorem Zna(hn:n<=p.size)(d:qI lt p n):Up lt (kas_rev p 0 n) n:=by intro i j hij hj;rw[uU hn,uU hn,if_pos ⟨eV _,hj⟩,if_pos ⟨eV _,xT hij hj⟩];exact d _ _ (lE 3 0x340214c2103c2011001 T1 hij (bZ _ _) (Yc (lC 2 0x200a2c1ec011011 T1 hj (bZ _ _)))) (lC 2 81348472104160289 T1 (Yc (lB 1 8264880145 T1 hj)) (j4 _ _))
theorem ZlW(o:jV lt){nrem:Nat}(h1:1<=n)(hn:n<=nrem)(hs:nrem<=p.size)(d:qI lt p n):
  let r:=dX lt (kas_tail3 n nrem p);r.2.Perm p/\r.2.size=p.size/\1<=r.1/\r.1<=nrem/\Up lt r.2 r.1:=by
 unfold kas_tail3;rw[zB];obtain⟨a,b,c,_⟩:=Qp o (p:=kas_rev p 0 n) (nrem-n) n h1 (Zna (Y4 hn hs) d);exact⟨sV _ _ _,wX _ _ _,Y4 h1 a,Y4 b (lC 1 2206541614113 T1 (Yc hn)),c⟩
theorem Zii(o:jV lt){nrem:Nat}(h1:1<=n)(hn:n+1<=nrem)(hs:nrem<=p.size)(d:qI lt p (n+1)):
  let r:=dX lt (kas_descPart n nrem p);r.2.Perm p/\r.2.size=p.size/\1<=r.1/\r.1<=nrem/\Up lt r.2 r.1:=by
 unfold kas_descPart;rw[zB];have one:Alike lt p (n+1) 0:=λi j h1 h2 h3 h4=>by have:i=j:=Yt (lD 3 0x120aec0ca3c01a3c2111001 T1 h3 h2 (bZ _ _)) (lD 3 0x300aec2ca1c013201a1c011 T1 h4 h1 (bZ _ _));subst this;exact o.rf _
 obtain⟨a1,a2,a3,a4,a5,a6,a7⟩:=Jg o (nrem-(n+1)) p (n+1) 0 (lA 0 168603328 T1) (lD 2 0x12a3cc00a3c2c211001 T1 hs (Yc hn)) d one;generalize dX lt (kas_desc (nrem-(n+1)) p (n+1) 0)=r at *;dsimp only;by_cases hq:r.2.2>0
 .rw[if_pos hq];obtain⟨b1,b2,b3,b4,b5⟩:=ZlW o (p:=kas_rev r.1 (r.2.1-(r.2.2+1)) r.2.1) (n:=r.2.1) (nrem:=nrem) (lB 1 6981028865 T1 a5) (lD 2 0x3003a1c2c212a1cc001 T1 a4 (Yc hn)) (by rw[wX];exact lC 2 137741013041 T1 a2 hs) (Zkv o (lF 4 0x3005a1c2c21450143312a1cc001 T1 a4 a2 hs (Yc hn)) a5 a6 a7);exact⟨(b1.trans (sV _ _ _)).trans a1,(b2.trans (wX _ _ _)).trans a2,b3,b4,b5⟩
 .rw[if_neg hq];obtain⟨b1,b2,b3,b4,b5⟩:=ZlW o (p:=r.1) (n:=r.2.1) (nrem:=nrem) (lB 1 6981028865 T1 a5) (lD 2 0x3003a1c2c212a1cc001 T1 a4 (Yc hn)) (lC 2 137741013041 T1 a2 hs) a6;exact⟨b1.trans a1,b2.trans a2,b3,b4,b5⟩
theorem ZpL(o:jV lt){nrem:Nat}(h1:1<=nrem)(hs:nrem<=p.size):let r:=dX lt (kas_count nrem p);r.2.Perm p/\r.2.size=p.size/\1<=r.1/\r.1<=nrem/\Up lt r.2 r.1:=by
 unfold kas_count;rw[zB];have u1:Up lt p 1:=λi j hij hj=>by have:i=j:=Yt hij (lB 1 16818193 T1 hj);subst this;exact o.rf _
 obtain⟨a,b,c,d⟩:=Qp o (p:=p) (nrem-1) 1 (Yk _) u1;generalize dX lt (kas_asc p (nrem-1) 1)=n at *;dsimp only;by_cases e:(n==nrem)=true
 .rw[if_pos e];exact⟨Ci _,rfl,a,by show n<=nrem;exact lC 2 0x2002a1c211ac001 T1 b (Yc h1),c⟩
 .rw [if_neg e];have hne:n≠nrem:=by simpa using e
  have hlt:lt (at' p n) (at' p (n-1))=true:=d.resolve_left (λz=>lB 2 25787699217 T1 (iG (lC 2 0x2002a1c211ac021 T1 z (Yc h1)) hne) (iG (lC 2 9185053868998705 T1 z (bZ _ _)) (cU hne)));by_cases hn:n>1
  .rw [if_pos hn];simp only[dX];cases c0:lt (p.getD 0 0) (p.getD (n-1) 0)with
   |true=>exact⟨Ci _,rfl,a,by show n<=nrem;exact tW (iG (lC 2 0x2002a1c211ac001 T1 b (Yc h1)) hne),c⟩|false=>
    simp only[jr,if_false];have dn:qI lt (kas_rev p 0 n) (n+1):=by
     have al:∀i j,i<n->j<n->lt (at' p i) (at' p j)=false:=λi j hi hj=>o.tr (o.tr (c j (n-1) (lC 2 563648976195601 T1 hj (bZ _ _)) (lB 1 4313451553 T1 (Yc (lB 1 27267089 T1 hj)))) c0) (c 0 i (eV _) (hi));intro i j hij hj;rw[uU (by exact lC 2 1236985253889 T1 hs (iG (lC 2 0x2002a1c211ac001 T1 b (Yc h1)) hne)),uU (by exact lC 2 1236985253889 T1 hs (iG (lC 2 0x2002a1c211ac001 T1 b (Yc h1)) hne))];by_cases ej:j<n
     .rw[if_pos ⟨eV _,xT hij ej⟩,if_pos ⟨eV _,ej⟩];exact al _ _ (lC 2 81348472104160289 T1 (Yc (lB 1 8264880145 T1 ej)) (j4 _ _)) (lC 2 81348472104160289 T1 (Yc (lB 1 8264880145 T1 ej)) (j4 _ _))
     .have:j=n:=Yt (lB 1 4305567761 T1 hj) (iH ej);subst this;by_cases ei:i<j
      .rw[if_pos ⟨eV _,ei⟩,if_neg (λz=>lA 1 393233 T1 z.2)];exact o.tr (o.xQ hlt) (al _ _ (lC 2 81348472104160289 T1 (Yc (lB 1 8264880145 T1 ei)) (j4 _ _)) (lB 1 4313451553 T1 (Yc (lB 1 27267089 T1 ei))))
      .have:i=j:=Yt hij (iH ei);subst this;rw[if_neg (λz=>lA 1 393233 T1 z.2)];exact o.rf _
    obtain⟨b1,b2,b3,b4,b5⟩:=Zii o (p:=kas_rev p 0 n) (n:=n) (nrem:=nrem) a (lB 1 6991908881 T1 (iG (lC 2 0x2002a1c211ac001 T1 b (Yc h1)) hne)) (by rw[wX];exact hs) dn;exact⟨b1.trans (sV _ _ _),b2.trans (wX _ _ _),b3,b4,b5⟩
  .rw[if_neg hn];have:n=1:=Yt (iH hn) a;subst this;exact Zii o (Yk _) (lA 1 2864712209 T1 (iG h1 hne)) hs (Jf o (Yk _) (λi j hij hj=>by have:i=j:=Yt hij (lB 1 16818193 T1 hj);subst this;exact o.rf _) (o.xQ hlt))
theorem Qq(o:jV lt){p:Array Nat}{k:Nat}(u:Up lt p k):∀(f l r:Nat),l<=r->r<=k->r<=l+f->(∀i,i<l->lt (at' p k) (at' p i)=false)->(∀i,r<=i->i<k->lt (at' p k) (at' p i)=true) ->
  let m:=dX lt (kas_place p k f l r);m<=k/\(∀i,i<m->lt (at' p k) (at' p i)=false)/\(∀i,m<=i->i<k->lt (at' p k) (at' p i)=true)
 |0,l,r,h1,h2,h3,hl,hr=>⟨by show l<=k;exact Y4 h1 h2,hl,λi hi hk=>hr i (by have:l<=i:=hi;exact lC 2 317624676323329 T1 this h3) hk⟩|f +1,l,r,h1,h2,h3,hl,hr=>by
  unfold kas_place;by_cases c:l>=r
  .rw[if_pos c];exact⟨by show l<=k;exact Y4 h1 h2,hl,λi hi hk=>hr i (by have:l<=i:=hi;exact Y4 c this) hk⟩
  .rw[if_neg c];simp only[dX];cases q:lt (p.getD k 0) (p.getD ((l+r) / 2) 0)with
   | true=>
    simp only[if_true];refine Qq o u f l ((l+r) / 2) (iH λz=>lC 3 0x6a0c02d21c1112411012 T1 z c (T3 _ (by decide))) (iH λz=>lD 4 0x623c102d01020232411012 T1 z c h2 (Fw _ _)) (iH λz=>lD 3 0x630c202d01a1c0c301210c12 T1 z h3 (Fw _ _)) hl λi hi hk=>?_;cases z:lt (at' p k) (at' p i)with
    |true=>rfl|false=>have:=o.tr (u ((l+r) / 2) i hi hk) z;rw[q]at this;cases this
   |false=>simp only[jr,if_false];exact Qq o u f ((l+r) / 2+1) r (iH λz=>lC 3 0x602c102d012041a1c012 T1 z c (Fw _ _)) h2 (iH λz=>lD 3 0x6a0c02d23c11a1c3c20121a0cc12 T1 z h3 (T3 _ (by decide))) (λi hi=>o.tr (u i ((l+r) / 2) (lB 1 4305567761 T1 hi) (T4 λz=>lD 4 0x623c102d01020232411002 T1 z c h2 (Fw _ _))) q) hr
theorem Zkr{k d:Nat}(hk:k<p.size)(hd:d<=k)(i:Nat):at' (bubble p k d) i=if i=k-d then at' p k else if k-d<i/\i<=k then at' p (i-1)else at' p i:=by
 have e:=getElem?_bubble (xs:=p) hk d hd i;by_cases h1:i=k-d
 .rw[if_pos h1]at e ⊢;exact Eb e
 .rw[if_neg h1]at e ⊢;by_cases h2:k-d<i/\i<=k
  .rw[if_pos h2]at e ⊢;exact Eb e
  .rw[if_neg h2]at e ⊢;exact Eb e
theorem ZqA(o:jV lt):∀(f:Nat) (p:Array Nat) (k:Nat),k+f=p.size->Up lt p k->(dX lt (kas_bin f p k)).Perm p/\Up lt (dX lt (kas_bin f p k)) p.size
 |0,p,k,h,u=>⟨Ci _,by rw[←h];exact u⟩|f +1,p,k,h,u=>by
  unfold kas_bin;rw[zB];obtain⟨a,b,c⟩:=Qq o u k 0 k (eV _) (Yk _) (KQ _ _) (λi hi=>(lA 1 450577 T1 hi).elim) (λi h1 h2=>(lB 2 25786650641 T1 h2 h1).elim);generalize dX lt (kas_place p k k 0 k)=m at *;have sz:=bubble_size p k (k-m);have up:Up lt (bubble p k (k-m)) (k+1):=by
   intro i j hij hj;have e:k-(k-m)=m:=Yt (lD 2 0x230013c2121c001 T1 (bZ _ _) (Yc ((j4 _ _)))) (lD 2 0x31003c201210c21 T1 (Yc a) (bZ _ _));rw[Zkr (by exact lC 1 2204024704033 T1 h) ((j4 _ _)),Zkr (by exact lC 1 2204024704033 T1 h) ((j4 _ _)),e];by_cases e1:i=m
   .rw[if_pos e1];by_cases e2:j=m
    .rw[if_pos e2];exact o.rf _
    .rw[if_neg e2,if_pos ⟨(iG (lC 2 2268279672881 T1 e1 hij) (cU e2)),lB 1 4305567761 T1 hj⟩];exact o.xQ (c _ (lC 2 563648976195601 T1 (iG (lC 2 2268279672881 T1 e1 hij) (cU e2)) (bZ _ _)) (lC 2 81357452928466961 T1 hj (Yc (lB 1 27267089 T1 (iG (lC 2 2268279672881 T1 e1 hij) (cU e2))))))
   .rw[if_neg e1];by_cases e2:j=m
    .rw[if_pos e2,if_neg (λz=>lC 3 0x6210102211011 T1 z.1 e2 hij)];exact b _ ((iG (lC 2 1236984205345 T1 e2 hij) e1))
    .rw[if_neg e2];by_cases e3:m<i
     .rw[if_pos (show m<i/\i<=k from⟨e3,lC 2 316667966111761 T1 hj hij⟩),if_pos (show m<j/\j<=k from⟨Y9 e3 hij,lB 1 4305567761 T1 hj⟩)];exact u _ _ (lD 3 0x320a3c1010a2c211001 T1 hij (Yc (lB 1 27267089 T1 e3)) (bZ _ _)) (lC 2 81357452928466961 T1 hj (Yc (lC 2 2886771740689 T1 e3 hij)))
     .rw[if_neg (show¬(m<i/\i<=k)fromλz=>e3 z.1)];by_cases e4:m<j
      .rw[if_pos (show m<j/\j<=k from⟨e4,lB 1 4305567761 T1 hj⟩)];exact u _ _ (lD 3 0x320a3c10120511011 T1 e4 e3 (bZ _ _)) (lC 2 81357452928466961 T1 hj (Yc (lB 1 27267089 T1 e4)))
      .rw[if_neg (show¬(m<j/\j<=k)fromλz=>e4 z.1)];exact u _ _ (hij) (Y9 (iG (iH e4) e2) a)
  obtain⟨h1,h2⟩:=ZqA o f (bubble p k (k-m)) (k+1) (by rw[sz];exact Yt (lC 1 0x21a0cc02a1c0c21 T1 h) (lC 1 0x1a0cc202a1c0c31 T1 h)) up;exact⟨h1.trans (bubble_perm _ _ _),by rw[sz]at h2;exact h2⟩
theorem Zst(o:jV lt)(h1:1<=n):(dX lt (kas_sort n)).Perm (Bt (dm n))/\Up lt (dX lt (kas_sort n)) n:=by
 unfold kas_sort;rw[zB];obtain⟨a1,a2,a3,a4,a5⟩:=ZpL o (p:=Bt (dm n)) h1 (by simp);generalize dX lt (kas_count n (Bt (dm n)))=r at *;have sz:r.2.size=n:=by rw[a2];simp
 by_cases c:r.1<n
 .rw[if_pos c];have hm:max r.1 1=r.1:=by omega
  rw[hm];obtain⟨b1,b2⟩:=ZqA o (n-r.1) r.2 r.1 (Yt (lD 2 0x23c0132c211031 T1 sz (Yc (tW c))) (lD 2 0x23c0032c1011021 T1 sz (bZ _ _))) a5;exact⟨b1.trans a1,by rw[sz]at b2;exact b2⟩
 .rw[if_neg c];have:r.1=n:=Yt a4 (iH c);exact⟨a1,by rw[←this];exact a5⟩
end
end L3
namespace L3
open PySem PySem.W PyProof.Rows
variable{p:Array Nat}
section
noncomputable def jb{α:Type}(n:Nat)(R:α->Prop):KasT α->Prop
 | .ret a=>R a|.ask i j k=>i<n/\j<n/\∀b,jb n R (k b)
theorem jb.bind{α β:Type}{n:Nat}{R:α->Prop}{R':β->Prop}{f:α->KasT β}(hf:∀a,R a->jb n R' (f a)):∀{t:KasT α},jb n R t->jb n R' (t.bind f)
 | .ret a,h=>hf a h|.ask _ _ _,⟨h1,h2,h3⟩=>⟨h1,h2,λb=>(h3 b).bind hf⟩
theorem Zmf{α:Type}{n:Nat}{lt:Nat->Nat->Bool}{cmp:Nat->Nat->(Bool->Yh->Prop)->Yh->Prop}{G:Yh->Prop}{R:α->Prop}(hc:∀i j (C:Bool->Yh->Prop) s,i<n->j<n->G s->(∀s',G s'->C (lt i j) s')->cmp i j C s){Q:α->Yh->Prop}:
  ∀(t:KasT α),jb n R t->∀(s:Yh),G s->(∀s',G s'->Q (dX lt t) s')->t.kasWp cmp Q s
 | .ret _,_,s,g,h=>h s g|.ask i j k,⟨h1,h2,h3⟩,s,g,h=>hc i j _ s h1 h2 g λs' g'=>Zmf hc (k (lt i j)) (h3 _) s' g' h
variable {n:Nat}
def Low(n:Nat)(p:Array Nat):Prop:=∀i,at' p i<n
theorem Low.perm{q:Array Nat}(h0:0<n)(l:Low n p)(e:q.Perm p):Low n q:=by
 intro i;unfold at';rw[Cd];cases h:q[i]? with
 |none=>simpa using h0|some x=>have hx:x∈p:=e.mem_iff.mp (Vi h);obtain⟨j,hj,e2⟩:=Array.mem_iff_getElem.mp hx;have:=l j;unfold at' at this;rw[Cd,Array.getElem?_eq_getElem hj,e2]at this;simpa using this
theorem Qs{p:Array Nat}(l:Low n p):∀(f m:Nat),jb n (λ_=>True) (kas_asc p f m)
 |0,_=>trivial|f+1,m=>⟨l _,l _,λb=>by
  cases b with
  |true=>exact trivial|false=>exact Qs l f (m+1)⟩
theorem Jh(h0:0<n):∀(f:Nat) (p:Array Nat) (m q:Nat),Low n p->jb n (λr=>Low n r.1) (kas_desc f p m q)
 |0,p,_,_,l=>l|f+1,p,m,q,l=>by
  unfold kas_desc;refine⟨l _,l _,λb=>?_⟩;cases b with
  |true=>
   simp only[if_true];split
   .exact Jh h0 f _ _ _ (l.perm h0 (sV _ _ _))
   .exact Jh h0 f _ _ _ l
  |false=>
   simp only[jr,if_false];refine⟨l _,l _,λc=>?_⟩;cases c with
   |true=>exact l|false=>exact Jh h0 f _ _ _ l
theorem Zke(h0:0<n){m nrem:Nat}(l:Low n p):jb n (λr=>Low n r.2) (kas_tail3 m nrem p):=jb.bind (R:=λ_=>True) (R':=λr=>Low n r.2) (f:=λm'=>KasT.ret (m',kas_rev p 0 m)) (λ_ _=>l.perm h0 (sV p 0 m)) (Qs (l.perm h0 (sV _ _ _)) _ _)
theorem Zhj(h0:0<n){m nrem:Nat}(l:Low n p):jb n (λr=>Low n r.2) (kas_descPart m nrem p):=by
 refine jb.bind (λr hr=>?_) (Jh h0 _ _ _ _ l);split
 .exact Zke h0 (Low.perm h0 hr (sV _ _ _))
 .exact Zke h0 hr
theorem ZoQ(h0:0<n){nrem:Nat}(l:Low n p):jb n (λr=>Low n r.2) (kas_count nrem p):=by
 refine jb.bind (λm _=>?_) (Qs l _ _);split
 .exact l
 .split
  .refine⟨l _,l _,λb=>?_⟩;cases b with
   |true=>exact l|false=>exact Zhj h0 (l.perm h0 (sV _ _ _))
  .exact Zhj h0 l
theorem Qt{p:Array Nat}{k:Nat}(l:Low n p):∀(f a b:Nat),jb n (λ_=>True) (kas_place p k f a b)
 |0,_,_=>trivial|f+1,a,b=>by
  unfold kas_place;split
  .exact trivial
  .refine⟨l _,l _,λc=>?_⟩;cases c with
   |true=>exact Qt l f _ _|false=>exact Qt l f _ _
theorem Zn8(h0:0<n):∀(f:Nat) (p:Array Nat) (k:Nat),Low n p->jb n (λ_=>True) (kas_bin f p k)
 |0,_,_,_=>trivial|f+1,p,k,l=>jb.bind (λ_ _=>Zn8 h0 f _ _ (l.perm h0 (bubble_perm _ _ _))) (Qt l _ _ _)
theorem ZpW(h0:0<n):jb n (λ_=>True) (kas_sort n):=by
 have l:Low n (Bt (dm n)):=λi=>by
  unfold at';rw[Cd];cases h:(Bt (dm n))[i]? with
  |none=>simpa using h0|some x=>have:=Vi h;simpa using this
 refine jb.bind (λr hr=>?_) (ZoQ h0 l);split
 .exact Zn8 h0 _ _ _ hr
 .exact trivial
end
variable{vs:List Yg}
section
variable {prog:cj} {w:bO} {A:cG} {E:Yg->Yh->Prop} {s:Yh}
noncomputable def oH(h:aY)(a:Yz)(vs:List Yg):aY:=((h.update a (qd λ_=>#[])).push (mC "tuple" vs.toArray 0)).push (mC "list" #[] 0)
def qJ(s s':Yh):Prop:=∃t,s'={s with toks:=t}
theorem ZqO{h:aY}{a b:Yz}(hb:b≠a)(hlt:b<h.objs.size):(oH h a vs).get? b=h.get? b:=by unfold oH;rw[yp _ _ _ (by rw[Gy,BX];exact dU (q9 hlt)),yp _ _ _ (by rw[BX];exact dU hlt),U9 _ _ _ _ hb]
theorem ZpF{a:Yz}{n:Nat}{lt:Nat->Nat->Bool}{κ:Gz}{P:PySem.Fin->Yh->Prop}(o:jV lt)(ho:s.heap.get? a=Ya (mC "list" vs.toArray n))(h64:vs.length<64)(hk:2<=vs.length->∀(Q:Gz->Yh->Prop) s',qJ {s with heap:=oH s.heap a vs} s'->(∀s'',qJ {s with heap:=oH s.heap a vs} s''->Q κ s'')->aA (aN prog w) A (keyKind' vs.toArray) Q E s')(hc:2<=vs.length->∀i j (C:Bool->Yh->Prop) s',i<vs.length->j<vs.length->qJ {s with heap:=oH s.heap a vs} s'->(∀s'',qJ {s with heap:=oH s.heap a vs} s''->C (lt i j) s'')->kas_ask prog w A κ vs i j C s')(h:∀(out:List Yg) (p:List Nat) t,p.Perm (dm vs.length)->(∀(i j x y:Nat),i<=j->p[i]?=Ya x->p[j]?=Ya y->lt y x=false)->out=p.map (λi=>vs.getD i Value.none)->P (.done (.ret .none)) {s with heap:=sortedHeap s.heap a vs out.toArray,toks:=t}):
  aA (aN prog w) A (Builtin.«list.sort» ⟨[.ref a],[]⟩) P E s:=by
 have ha:a<s.heap.objs.size:=Yv ho;obtain⟨e1,g1⟩:∃e1,(s.heap.update a (qd λ_=>(#[]:Array Yg))).get? a=Ya (mC "list" #[] e1):=⟨_,get?_update_seq ho _⟩;have g6:(oH s.heap a vs).get? a=Ya (mC "list" #[] e1):=by unfold oH;rw[yp _ _ _ (by rw[Gy,BX];exact dU (q9 ha)),yp _ _ _ (by rw[BX];exact dU ha)];exact g1
 rw[list_sort_plain];refine Yf (listItems_at ho rfl (Yf (Mz ho rfl ?_ (by rw[Yl,j7];exact lA 1 0x10000007b00402b011 T1 h64) (eV _))));refine Yf (MF g1 rfl (Yf (wpAny_newTuple ?_ (by show vs.length<=_;rw[j7];exact lA 1 0x10000007b00402b011 T1 h64))));refine Yf (wpAny_newList ?_ (eV _));refine j6 ?_;show aA (aN prog w) A _ P E {s with heap:=oH s.heap a vs};dsimp only;by_cases h2:vs.length<2
 .have q2:vs.toArray.size<2:=by rw[Yl];exact h2
  rw[if_pos q2,if_pos q2];refine Yf (Yw ?_);rw[StateT.run_pure];refine Yf (Yw ?_);dsimp only;refine Yf (MF g6 rfl (Yf (Mz g6 rfl ?_ (eV _) ?_)))
  .have es:(arrOf (SortSt.mk' general' (vs.toArray.zip vs.toArray) #[] 7 Ye)).map (·.2)=vs.toArray:=by
    show(vs.toArray.zip vs.toArray).map (·.2)=_;apply Vj.mp;simp[List.map_snd_zip]
   rw[es];simp only[bne_self_eq_false,jr,if_false];refine Yw (h vs (dm vs.length) s.toks (List.Perm.refl _) (λi j x y hij hx hy=>?_) ?_)
   .have:=(Yd.mp hx).1;have:=(Yd.mp hy).1;simp only[t6]at *;have:i=j:=Yt hij (lC 2 563094658027537 T1 this h2);subst this;rw[hx]at hy;cases hy;exact o.rf _
   .apply rC;intro i;rw[Yx];by_cases hi:i<vs.length
    .simp[hi]
    .simp[hi]
  .refine Y4 (oU (Array.size_map ..)) ?_;show(vs.toArray.zip vs.toArray).size<=_;rw[Array.size_zip,Yl,j7];exact lB 2 0xa10000007bc10010121b011 T1 h2 (q_ _ _)
 .have q2:¬vs.toArray.size<2:=by rw[Yl];exact h2
  have h2':2<=vs.length:=iH h2;rw[if_neg q2,if_neg q2];refine Yf (hk h2' _ _ ⟨s.toks,rfl⟩ λs' hs'=>?_);refine Yf (j8 (kat_run (Q:=λst' s''=>qJ {s with heap:=oH s.heap a vs} s''/\failedOf st'=Ye/\arrOf st'=(dX lt (kas_sort vs.length)).map (kas_item (vs.toArray.zip vs.toArray))) (G:=λp s''=>qJ {s with heap:=oH s.heap a vs} s''/\p=dX lt (kas_sort vs.length)) rfl h2' h64
   (λp st' s'' _ a2 a3 ⟨a4,a5⟩=>⟨a4,a3,by rw[a2,a5]⟩) (Zmf (n:=vs.length) (hc h2') _ (ZpW (lA 1 3775011585 T1 h2')) s' hs' λs'' g=>⟨g,rfl⟩)) ?_ λ_ _ e=>e)
  rintro⟨⟨⟩,st'⟩ s'' ⟨⟨t,rfl⟩,hf,har⟩;dsimp only;obtain⟨pp,pu⟩:=Zst o (n:=vs.length) (lA 1 2684492545 T1 h2');generalize dX lt (kas_sort vs.length)=p at pp pu har;have hout:=kat_snds (vs:=vs) (ks:=vs) rfl har;rw[hout];have hlen:p.toList.length=vs.length:=by have:=pp.size_eq;simpa using this
  refine Yf (MF g6 rfl (Yf (Mz g6 rfl ?_ (eV _) (by rw[Yl,Yn,hlen,j7];exact lA 1 0xa10000007bc00402b011 T1 h64))));rw[hf];simp only[bne_self_eq_false,jr,if_false];refine Yw (h _ p.toList t ?_ (λi j x y hij hx hy=>?_) rfl)
  .have:=Array.perm_iff_toList_perm.mp pp;simpa using this
  .have hj:=(Yd.mp hy).1;have u:=pu i j hij (by rw[hlen]at hj;exact hj);have cv:∀(k z:Nat),p.toList[k]?=Ya z->at' p k=z:=λk z hz=>by
    rw[at',Cd,←Vh,hz];rfl
   rw[cv i x hx,cv j y hy]at u;exact u
theorem Zmt{l:Yz}{lt:Nat->Nat->Bool}{κ:Gz}{Q:Yg->Yh->Prop}(o:jV lt)(hl:s.heap.IsList l vs.toArray)(h64:vs.length<64)(hk:2<=vs.length->∀(h':aY) (Q:Gz->Yh->Prop) s',(∀b u,s.heap.get? b=Ya u->h'.get? b=Ya u)->qJ {s with heap:=h'} s'->(∀s'',qJ {s with heap:=h'} s''->Q κ s'')->aA (aN prog w) A.in1.in1 (keyKind' vs.toArray) Q (λ_ _=>False) s')(hc:2<=vs.length->∀(h':aY) i j (C:Bool->Yh->Prop) s',(∀b u,s.heap.get? b=Ya u->h'.get? b=Ya u)->i<vs.length->j<vs.length->qJ {s with heap:=h'} s'->(∀s'',qJ {s with heap:=h'} s''->C (lt i j) s'')->kas_ask prog w A.in1.in1 κ vs i j C s')(h:∀(out:List Yg) (p:List Nat) t h' a,p.Perm (dm vs.length)->(∀(i j x y:Nat),i<=j->p[i]?=Ya x->p[j]?=Ya y->lt y x=false)->out=p.map (λi=>vs.getD i Value.none) ->
   (∀b u,s.heap.get? b=Ya u->h'.get? b=Ya u)->s.heap.objs.size<=a->(∃e,h'.get? a=Ya (mC "list" out.toArray e))->Q (.ref a) {s with heap:=h',toks:=t}):
  aA (aN prog w) A (call (.builtin "sorted") [.ref l]) Q E s:=by
 refine Calls.call_function_entry kind_sorted plain_sorted entry_sorted (args_sorted1 _) ?_;unfold Builtin.«sorted»;refine Yf (m:=checkCount "sorted" 1 1 _) (Yw (Yf (collect_list hl ?_ (by rw[j7];exact lA 1 0x10000007b00402b011 T1 h64))));refine Yf (wpAny_newList ?_ (by rw[j7];exact lA 1 0x10000007b00402b011 T1 h64));have hsz:((s.heap.push (mC "list" #[] 0)).update s.heap.objs.size (qd (· ++vs.toArray))).objs.size=s.heap.objs.size+1:=(BX ..).trans (Gy ..);obtain⟨h3,e3⟩:∃h3,((s.heap.push (mC "list" #[] 0)).update s.heap.objs.size (qd (· ++vs.toArray))).push (mC "list" vs.toArray 0)=h3:=⟨_,rfl⟩;have g3:h3.get? (s.heap.objs.size+1)=Ya (mC "list" vs.toArray 0):=by rw[←e3,←hsz];exact jg _ rfl
 have k3:∀b u,s.heap.get? b=Ya u->h3.get? b=Ya u:=λb u q=>by have hlt:b<s.heap.objs.size:=Yv q;rw[←e3,yp _ _ _ (by rw[hsz];exact dU (q9 hlt)),U9 _ _ _ _ (dU hlt),yp _ _ _ (dU hlt)];exact q
 have z3:h3.objs.size=s.heap.objs.size+2:=by rw[←e3,Gy,hsz]
 show aA _ _ _ _ _ {s with heap:=((s.heap.push (mC "list" #[] 0)).update s.heap.objs.size (qd (· ++vs.toArray))).push (mC "list" vs.toArray 0)};rw[hsz,e3];have km:∀b u,s.heap.get? b=Ya u->(oH h3 (s.heap.objs.size+1) vs).get? b=Ya u:=λb u q=>by have hlt:b<s.heap.objs.size:=Yv q;rw[ZqO (dU (q9 hlt)) (by rw[z3];exact q9 (q9 hlt))];exact k3 b u q
 refine Yf (j6 (yg slot_list_sort ⟨_,g3,rfl⟩ entry_list_sort ?body (args_list_sort _)))
 case body=>
  refine ZpF (s:={s with heap:=h3}) (κ:=κ) o g3 h64 (λh2 Q' s' hs' hq=>j8 (hk h2 _ Q' s' km hs' hq) (λ_ _ q=>q) λ_ _ z=>z.elim) (λh2 i j C s' hi hj hs' hq=>hc h2 _ i j C s' km hi hj hs' hq) λout p t hp hu ho=>⟨_,rfl,Yw ⟨_,rfl,?_⟩⟩;refine h out p t (sortedHeap h3 (s.heap.objs.size+1) vs out.toArray) (s.heap.objs.size+1) hp hu ho (λb u q=>?_) (Y6 _ _) ?_
  .have hlt:b<s.heap.objs.size:=Yv q;rw[sortedHeap_old (dU (q9 hlt)) (by rw[z3];exact q9 (q9 hlt))];exact k3 b u q
  .exact sortedHeap_at g3
end
end L3
namespace L3
open PySem PySem.W PySem.Spec PyProof.Rows L2
section
variable {prog:cj} {w:bO} {A:cG} {K:Yb} {H:Hp} {ι:List Yz}
theorem Qu{s:Yh}{C:Bool->Yh->Prop}{r:Bool}(hC:C r s):∀(x y:List D) (xs ys:List V) (us ws:List Yg) (k:Nat) (fin:Bool),aB K H ι x xs->aB K H ι y ys->Vals xs us->Vals ys ws->fin=decide (x.length<y.length) ->
  (k=0->(∀d,x.head?=Ya d->Dj d=true))->iZ x y=Ya r->KatLex prog w A true fin C (us.zip ws) k s
 |[],[],xs,ys,us,ws,k,fin,rx,ry,vx,vy,hf,_,h=>by have e1:=rx.nil_inv;have e2:=ry.nil_inv;subst e1 e2;cases vx;cases vy;refine kat_nil ?_;rw[←Yq h]at hC;rw[hf];exact hC|[],d::y,xs,ys,us,ws,k,fin,rx,ry,vx,vy,hf,_,h=>by have e1:=rx.nil_inv;subst e1;cases vx;refine kat_nil ?_;rw[←Yq h]at hC;rw[hf];exact hC|d::x,[],xs,ys,us,ws,k,fin,rx,ry,vx,vy,hf,_,h=>by have e1:=ry.nil_inv;subst e1;cases vy;rw[List.zip_nil_right];refine kat_nil ?_;rw[←Yq h]at hC;rw[hf];exact hC|d ::x,e::y,xs,ys,us,ws,k,fin,rx,ry,vx,vy,hf,h0,h=>by
  obtain⟨v,xs',rfl,r1,r2⟩:=rx.cons_inv;obtain⟨v',ys',rfl,r1',r2'⟩:=ry.cons_inv;cases vx with
  | @cons _ u _ us' ru rus=>
  cases vy with
  | @cons _ u' _ ws' ru' Sq=>
  rw[List.zip_cons_cons];have hfin:fin=decide (x.length<y.length):=by rw[hf];simp
  rcases yV h with⟨i,j,rfl,rfl⟩|⟨i,j,rfl,rfl⟩
  .have ev:=r1.int_inv;have ev':=r1'.int_inv;subst ev ev';obtain⟨t,rfl⟩:=ru;obtain⟨t',rfl⟩:=ru';refine kat_cons (U0 ?_);rw[sH]at h;by_cases e:i=j
   .subst e;rw[if_pos rfl]at h;rw[beq_self_eq_true];exact kat_yes (Qu hC x y xs' ys' us' ws' (k+1) fin r2 r2' rus Sq hfin (λz=>(lA 1 116001825 T1 z).elim) h)
   .rw[if_neg e]at h;have hb:(i==j)=false:=by simpa using e
    rw[hb];refine kat_no ?_;have hr:decide (i<j)=r:=Yq h;cases hk:(true&&k==0)with
    |true=>exact oneLt_int (by rw[hr];exact hC)|false=>exact kat_one _ _ (lt_int (by show C _ s;rw[hr];exact hC))
  .have ev:=r1.str_inv;have ev':=r1'.str_inv;subst ev ev';obtain⟨t,rfl⟩:=ru;obtain⟨t',rfl⟩:=ru';refine kat_cons (U3 ?_);rw[sI]at h;by_cases e:i=j
   .subst e;rw[if_pos rfl]at h;rw[decide_eq_true rfl];exact kat_yes (Qu hC x y xs' ys' us' ws' (k+1) fin r2 r2' rus Sq hfin (λz=>(lA 1 116001825 T1 z).elim) h)
   .rw[if_neg e]at h;have hb:decide ((⟨i.toArray⟩:aj)=⟨j.toArray⟩)=false:=by
     rw[decide_eq_false_iff_not];intro z;injection z with z;exact e (by simpa using congrArg Ce z)
    rw[hb];refine kat_no ?_;have hr:decide (i<j)=r:=Yq h;have hk0:k≠0:=λz=>ft (h0 z _ rfl);have hk:(true&&k==0)=false:=by simp[hk0]
    rw[hk];exact kat_one _ _ (lt_str (by show C _ s;rw[show decide ((⟨i.toArray⟩:aj).cps.toList<(⟨j.toArray⟩:aj).cps.toList)=r from hr];exact hC))
end
variable{vs:List V}{x:List D}
section
variable {X:Cx}
theorem Ec{its:List Yg}{K:Yb}{H:Hp}{ι:List Yz}(r:aB K H ι x vs)(v:Vals vs its){i:Nat}{d:D}(h:x[i]?=Ya d):∃u,RelV u (its.getD i Value.none)/\Rep K H ι d u/\vs[i]?=Ya u:=by obtain⟨u,e1,r1⟩:=r.get h;obtain⟨z,e2,r2⟩:=v.get e1;refine⟨u,?_,r1,e1⟩;rw[oV,e2];exact r2
theorem Zh9{pins:List (Yz×aV)}{σ:St}{H:Hp}{s:Yh}{ι:List Yz}(I:Inv X pins σ H s){h':aY}(k:∀b u,s.heap.get? b=Ya u->h'.get? b=Ya u):∀(x:List D) (vs:List V) (its:List Yg),aB X.K H ι x vs->Vals vs its->x.all XX=true ->
  ∃fs:List Yg,KatTups h' its fs/\fs.length=x.length/\∀f∈fs,∃i t,f= .int i t
 |[],vs,its,r,v,_=>by have e:=r.nil_inv;subst e;cases v;exact⟨[],.nil,rfl,λf h=>by simp at h⟩|d ::x,vs,its,r,v,h=>by
  obtain⟨u,vs',rfl,r1,r2⟩:=r.cons_inv;cases v with
  | @cons _ z _ its' rz Qv=>
  simp only[t7,Y0]at h;obtain⟨fs,t,l,hf⟩:=Zh9 I k x vs' its' r2 Qv h.2;have hd:=h.1;cases d with
  | tup ds=>
   cases ds with
   |nil=>exact ft hd|cons e ds=>
    cases e with
    |int i=>
     obtain⟨a,ws,rfl,sq,rr⟩:=r1.fW;cases(show z=Value.ref a from rz);obtain⟨its2,rv,⟨o,ho,hc,n,hdat⟩,_⟩:=I.tuple sq;obtain⟨u0,ws',rfl,q1,q2⟩:=rr.cons_inv;have e0:=q1.int_inv;subst e0;cases rv with
     | @cons _ y0 _ ys ry0 _=>
     obtain⟨tk,rfl⟩:=ry0;refine⟨.int i tk::fs,KatTups.cons (k a o ho) hc hdat (by simp) t,by simp[l],λf hm=>?_⟩;rcases Y7.mp hm with rfl|hm
     .exact⟨i,tk,rfl⟩
     .exact hf f hm
    |_=>exact ft hd
  |_=>exact ft hd
theorem aB.pick{K:Yb}{H:Hp}{ι:List Yz}(r:aB K H ι x vs)(d0:D)(v0:V):∀(p:List Nat),(∀i∈p,i<x.length)->aB K H ι (p.map λi=>x.getD i d0) (p.map λi=>vs.getD i v0)
 |[],_=>aB.nil|i::p,h=>by have hi:=h i Ym;obtain⟨v,e,q⟩:=r.get (i:=i) (d:=x[i]) (by simp[hi]);refine aB.cons ?_ (aB.pick r d0 v0 p λj hj=>h j (Yu _ hj));dsimp only;rw[oV,oV,e,Yi hi];exact q
theorem Vals.pick{us:List Yg}(r:Vals vs us)(v0:V):∀(p:List Nat),(∀i∈p,i<vs.length)->Vals (p.map λi=>vs.getD i v0) (p.map λi=>us.getD i Value.none)
 |[],_=>.nil|i::p,h=>by have hi:=h i Ym;obtain⟨v,e,q⟩:=r.get (i:=i) (x:=vs[i]) (by simp[hi]);refine .cons ?_ (Vals.pick r v0 p λj hj=>h j (Yu _ hj));dsimp only;rw[oV,oV,e,Yi hi];exact q
theorem ZoT(d0:D){p:List Nat}(h:p.Perm (dm x.length)):(p.map λi=>x.getD i d0).Perm x:=by
 have h1:=h.map (λi=>x.getD i d0);have h2:(dm x.length).map (λi=>x.getD i d0)=x:=by
  apply rC;intro i;rw[Yx];by_cases hi:i<x.length
  .simp[hi]
  .simp[hi]
 rwa[h2]at h1
theorem Qw(cmp:∀a∈x,∀b∈x,(gQ a b).isSome=true){a b:D}(ha:a∈x)(hb:b∈x)(h:decide (gQ a b=Ya true)=false):gQ a b=Ya false:=by
 have c:=cmp a ha b hb;cases q:gQ a b with
 |none=>rw[q]at c;cases c|some z=>cases z with
  |true=>exact absurd q (of_decide_eq_false h)|false=>rfl
theorem Zs6(x:List D):∃d0:D,∀i:Nat,x≠[]->x.getD i d0∈x:=by
 cases x with
 |nil=>exact⟨.non,λ_ h=>absurd rfl h⟩|cons e y=>
  refine⟨e,λi _=>?_⟩;rw[oV];cases q:(e::y)[i]? with
  |some d=>exact jo q|none=>exact Ym
theorem Ztd(cmp:∀a∈x,∀b∈x,(gQ a b).isSome=true){d0:D}(mem:∀i:Nat,x≠[]->x.getD i d0∈x):jV λi j=>decide (gQ (x.getD i d0) (x.getD j d0)=Ya true):=by
 refine⟨λ{i j} h=>decide_eq_false λh'=>?_,λ{i j k} h1 h2=>decide_eq_false λh3=>?_⟩
 .rw[Ph (of_decide_eq_true h)]at h';cases h'
 .by_cases hx:x=[]
  .subst hx;rw[Uu,Uu]at h3;have z:=Ph h3;rw[h3]at z;cases z
  .rw[X4 (Qw cmp (mem j hx) (mem i hx) h1) (Qw cmp (mem k hx) (mem j hx) h2)]at h3;cases h3
theorem ZtY(cmp:∀a∈x,∀b∈x,(gQ a b).isSome=true){d0:D}(mem:∀i:Nat,x≠[]->x.getD i d0∈x){p:List Nat}(hp:p.Perm (dm x.length))(hu:∀(i j x' y':Nat),i<=j->p[i]?=Ya x'->p[j]?=Ya y'->decide (gQ (x.getD y' d0) (x.getD x' d0)=Ya true)=false):Di x (p.map λi=>x.getD i d0):=by
 refine⟨ZoT d0 hp,?_⟩;rw[Bs,List.pairwise_iff_getElem];intro i j hi hj hij;have hx:x≠[]:=λe=>by subst e;have z:=hp.length_eq;rw[t6]at z;rw[z]at hi;exact absurd hi (Nat.not_lt_zero _)
 have z:=Qw cmp (mem p[j] hx) (mem p[i] hx) (hu i j p[i] p[j] (tW hij) (Yi hi) (Yi hj));unfold wA;rw[z]
theorem Qx:fJ X (.builtin "sorted") (rB X.K jN):=by
 intro pins s σ H xs us Q I rs ⟨ι,M,ds,S,rd,h⟩;cases ds with
 |nil=>exact h.elim|cons d ds=>
  cases ds with
  |cons _ _=>cases d<;>exact h.elim|nil=>
   obtain⟨x0,rfl,r⟩:=wV rd;obtain⟨u,rfl,ru⟩:=vals1 rs;cases d with
   | ref n=>
    cases hn:M[n]? with
    |none=>rw[uE,hn]at h;exact h.elim|some ob=>
     cases ob with
     |dct _=>rw[uE,hn]at h;exact h.elim|cC _=>rw[uE,hn]at h;exact h.elim|ins _ _=>rw[uE,hn]at h;exact h.elim|lst x=>
      simp only[uE,hn]at h;split at h
      .rename_i ok;obtain⟨a,ha,rfl⟩:=r.gF;cases ru;obtain⟨vs,ev,rv⟩:=S.obj n _ a hn ha;obtain⟨its,rr,pl,zl⟩:=I.list (cL.of ev);have lx:its.length=x.length:=by rw[←rr.length,rv.length]
       obtain⟨d0,mem⟩:=Zs6 x;have Ss:=Ztd ok.cmp mem;have fin:∀(out:List Yg) (p:List Nat) t h' a',p.Perm (dm its.length)->(∀(i j x' y':Nat),i<=j->p[i]?=Ya x'->p[j]?=Ya y'->decide (gQ (x.getD y' d0) (x.getD x' d0)=Ya true)=false)->out=p.map (λi=>its.getD i Value.none) ->
         (∀b u,s.heap.get? b=Ya u->h'.get? b=Ya u)->s.heap.objs.size<=a'->(∃e,h'.get? a'=Ya (mC "list" out.toArray e))->EP X pins σ Q (.ref a') {s with heap:=h',toks:=t}:=by
        intro out p t h' a' hp hu ho hk ha' ⟨e,he⟩;have hlt:∀i∈p,i<x.length:=λi hi=>by have:=hp.mem_iff.mp hi;rw[lx]at this;simpa using this
        have Aba:p.length=x.length:=by have:=hp.length_eq;simpa[lx]using this
        have sq:=ZtY ok.cmp mem (by rw[←lx];exact hp) hu;rw[Pj sq]at h;have hn0:=I.hok.fresh ha';obtain⟨x2,S2,r2⟩:=S.lst hn0 (rv.pick d0 .non p hlt);refine⟨.ref a',_,I.laid (o:=.lst (p.map λi=>vs.getD i .non)) hk ha' ⟨?_,out,e,?_,he⟩,rfl,h _ _ _ x2 S2 r2⟩
        .rw[Yn,Aba,j7];have:=ok.len;exact lA 1 0x10000007b00402b011 T1 this
        .rw[ho];exact Vals.pick rr .non p λi hi=>by rw[rv.length];exact hlt i hi
       rcases ok.kind with kd|kd
       .refine Zmt (κ:=tuples' (Value.type "int" !=Value.type "tuple")) Ss pl.isList (by rw[lx];exact ok.len) (λh2 h' Q' s' hk hs' hq=>?_) (λh2 h' i j C s' hk hi hj hs' hC=>?_) λout p t h' a' hp hu ho hk ha' he=>fin out p t h' a' hp hu ho hk ha' he
        .obtain⟨fs,kt,lf,hf⟩:=Zh9 I hk x vs its rv rr kd;obtain⟨t,rfl⟩:=hs';refine kat_kind (T:=.type "int") kt (by rw[lf,←lx];exact lA 1 3775011585 T1 h2) (λv hv=>?_) (by decide) (hq _ ⟨t,rfl⟩);obtain⟨i,tk,rfl⟩:=hf v hv;exact Looks.now
        .obtain⟨t,rfl⟩:=hs';have hxi:x[i]?=Ya x[i]:=by rw[Yi]
         have Qy:x[j]?=Ya x[j]:=by rw[Yi]
         obtain⟨vi,ri,qi,_⟩:=Ec rv rr hxi;obtain⟨vj,rj,qj,_⟩:=Ec rv rr Qy;have ki:=jJ.mp kd _ (Y1 (show i<x.length by exact lC 2 2203874037777 T1 hi lx));have kj:=jJ.mp kd _ (Y1 (show j<x.length by exact lC 2 2203874037777 T1 hj lx));have cm:=ok.cmp _ (Y1 (show i<x.length by exact lC 2 2203874037777 T1 hi lx)) _ (Y1 (show j<x.length by exact lC 2 2203874037777 T1 hj lx));have gi:x.getD i d0=x[i]:=by simp[show i<x.length by exact lC 2 2203874037777 T1 hi lx]
         have gj:x.getD j d0=x[j]:=by simp[show j<x.length by exact lC 2 2203874037777 T1 hj lx]
         simp only[gi,gj]at hC;generalize x[i]=di at *;generalize x[j]=dj at *;cases di with
         | tup di=>
          cases dj with
          | tup dj=>
           obtain⟨a1,w1,rfl,s1,e1⟩:=qi.fW;obtain⟨a2,w2,rfl,s2,e2⟩:=qj.fW;obtain⟨i1,v1,⟨o1,g1,_,n1,d1⟩,_⟩:=I.tuple s1;obtain⟨i2,v2,⟨o2,g2,_,n2,d2⟩,_⟩:=I.tuple s2;unfold kas_ask;rw[show its.getD i Value.none= .ref a1 from ri,show its.getD j Value.none= .ref a2 from rj];cases q:iZ di dj with
           |none=>simp only[Dn,Dp,q]at cm;cases cm|some b=>
            refine kat_lt (hk _ _ g1) d1 (hk _ _ g2) d2 (Qu (r:=b) ?_ di dj w1 w2 i1 i2 0 _ e1 e2 v1 v2 ?_ (λ_ d hd=>?_) q)
            .have:=hC _ ⟨t,rfl⟩;simp only[Dn,Dp,q]at this;cases b<;>simpa using this
            .rw[Yl,Yl,←v1.length,←v2.length,e1.length,e2.length]
            .cases di with
             |nil=>cases hd|cons d' r'=>cases hd;cases d<;>first|exact rfl|exact ft ki
          |_=>exact ft kj
         |_=>exact ft ki
       .refine Zmt (κ:=oneType') Ss pl.isList (by rw[lx];exact ok.len) (λh2 h' Q' s' hk hs' hq=>?_) (λh2 h' i j C s' hk hi hj hs' hC=>?_) λout p t h' a' hp hu ho hk ha' he=>fin out p t h' a' hp hu ho hk ha' he
        .obtain⟨t,rfl⟩:=hs';refine kas_kind (T:=.type "int") h2 (λv hv=>?_) (by decide) (by decide) (hq _ ⟨t,rfl⟩);obtain⟨i,hi,rfl⟩:=List.getElem_of_mem hv;have hxi:x[i]?=Ya x[i]:=by rw[Yi]
         obtain⟨vi,ri,qi,_⟩:=Ec rv rr hxi;have ki:=jJ.mp kd _ (Y1 (show i<x.length by exact lC 2 2203874037777 T1 hi lx));have gi:its.getD i Value.none=its[i]:=by simp[hi]
         rw[gi]at ri;generalize x[i]=di at *;cases di with
         |int k=>have:=qi.int_inv;subst this;obtain⟨tk,e⟩:=ri;rw[e];exact Looks.now|_=>simp[Dj]at ki
        .obtain⟨t,rfl⟩:=hs';have hxi:x[i]?=Ya x[i]:=by rw[Yi]
         have Qy:x[j]?=Ya x[j]:=by rw[Yi]
         obtain⟨vi,ri,qi,_⟩:=Ec rv rr hxi;obtain⟨vj,rj,qj,_⟩:=Ec rv rr Qy;have ki:=jJ.mp kd _ (Y1 (show i<x.length by exact lC 2 2203874037777 T1 hi lx));have kj:=jJ.mp kd _ (Y1 (show j<x.length by exact lC 2 2203874037777 T1 hj lx));have gi:x.getD i d0=x[i]:=by simp[show i<x.length by exact lC 2 2203874037777 T1 hi lx]
         have gj:x.getD j d0=x[j]:=by simp[show j<x.length by exact lC 2 2203874037777 T1 hj lx]
         simp only[gi,gj]at hC;generalize x[i]=di at *;generalize x[j]=dj at *;cases di with
         | int p=>
          cases dj with
          |int q=>have:=qi.int_inv;subst this;have:=qj.int_inv;subst this;obtain⟨t1,e1⟩:=ri;obtain⟨t2,e2⟩:=rj;unfold kas_ask;rw[e1,e2,keyLt'_oneType];refine oneLt_int ?_;have:=hC _ ⟨t,rfl⟩;simpa[Dn,Dp]using this|_=>simp[Dj]at kj
         |_=>simp[Dj]at ki
      .exact h.elim
   |_=>exact h.elim
end
end L3
namespace L3
open PySem PySem.Spec PyProof.Rows L2
variable{H:Hp}{K:Yb}{ι:List Yz}
section
variable {X:Cx} {a b c e o:Expr} {es:List Expr} {pos p apos cpos:bQ} {f g h:E3} {gl:iK}
theorem Zvt:fJ X (.type "int") (rB X.K Dh):=fJ.imp Zo5 λxs H Q ak=>by
 obtain⟨ι,M,ds,S,rd,h⟩:=ak;cases ds with
 |nil=>exact h.elim|cons d ds=>
  cases ds with
  |cons _ _=>cases d<;>exact h.elim|nil=>
   obtain⟨x,rfl,r⟩:=wV rd;cases d with
   |int i=>exact .inl ⟨i,by rw[r.int_inv],aG.ok h S Rep.int⟩|bl k=>exact .inr ⟨k,by rw[r.je],aG.ok h S Rep.int⟩|_=>exact h.elim
theorem ZtX{M:Store}(S:aP K H ι M){n:Nat}{a:Yz}(h:(fZ M[n]?).isSome=true)(ha:ι[n]?=Ya a):Om H a:=by
 cases hn:fZ M[n]? with
 |none=>rw[hn]at h;cases h|some kvs=>obtain⟨ws,hw,_⟩:=Je S hn ha;exact .inl ⟨ws,hw⟩
theorem Zq6{kvs:List (cN×D)}{ws:List (Key×V)}{d:D}{z:V}(kr:cD K H ι kvs ws)(k:cN)(rd:Rep K H ι d z):Rep K H ι ((dW kvs k).getD d) ((jw ws (dk k)).getD z):=by
 have hv:=kr.val k;cases q:dW kvs k with
 |none=>rw[q]at hv;rw[hv];exact rd|some w=>rw[q]at hv;obtain⟨v,ev,rv⟩:=hv;rw[ev];exact rv
theorem ZqR{e':Expr}(hu:X.A.units+80<fX)(ho:C3 X o f)(he:C3 X e g)(he':C3 X e' h)(m:M2 X o "get" apos e e' cpos:=by exact⟨rfl,rfl,rfl,rfl⟩):C3 X (.Call (.Attribute o "get" apos) [e,e'] [] cpos) (g8 yP wz f (Zb g (Zb h Zg))):=(Zp4 (hu1 hu) ho he he' m).imp λσ H Q ak=>by
 obtain⟨ι,M,env,S,E,hh⟩:=ak;obtain⟨d,M1,e1,hh⟩:=aG.bind hh;refine⟨ι,M,env,S,E,?_⟩;rw[e1];intro x H1 ι1 x1 S1 r1;cases d with
 | ref n=>
  by_cases hD:(fZ M1[n]?).isSome=true
  .simp only[HD,hD,if_true]at hh;obtain⟨ad,ha,rfl⟩:=r1.gF;obtain⟨ds,M2,e2,hh⟩:=aG.bind hh;refine⟨ad,rfl,ZtX S1 hD ha,ι1,M1,env,S1,E.mono x1,?_⟩;cases q:g env M1 with
   |bad=>simp[q]at e2|exc x' M'=>simp[q]at e2|ok b M2'=>
    cases q':h env M2' with
    |bad=>simp[q,q']at e2|exc x' M'=>simp[q,q']at e2|ok b' M3'=>
     simp only[Zb,q,q',R3.bind,Zg]at e2;cases e2;intro y H2 ι2 x2 S2 r2;refine⟨ι2,M2',env,S2,(E.mono x1).mono x2,?_⟩;rw[q'];intro z H3 ι3 x3 S3 r3;simp only[O6,O7]at hh;cases hn:fZ M2[n]? with
     |none=>simp only[hn]at hh;exact hh.elim|some kvs=>
      cases hk:gK b with
      |none=>simp only[hn,hk]at hh;exact hh.elim|some kk=>simp only[hn,hk]at hh;obtain⟨ws,hw,kr⟩:=Je S3 hn (x3.pre _ _ (x2.pre _ _ ha));refine⟨jw ws (dk kk),.inl ⟨ws,dk kk,hw,Jd hk r2,rfl⟩,hh _ H3 ι3 ((x1.trans x2).trans x3) S3 (Zq6 kr kk r3)⟩
  .simp only[HD,hD]at hh;exact hh.elim
 |_=>exact hh.elim
end
section
variable {X:Cx} {pins:List (Yz×aV)} {σ:St} {H:Hp} {s:Yh} {d:Yz} {ws:List (Key×V)} {ob:aV}
theorem Zo7(hk:eY X.prog X.w H s.heap)(h:H d=Ya (.dK ws))(ho:s.heap.get? d=Ya ob):eY X.prog X.w (upd H d (.dB ob (.dK ws))) s.heap:=λb u e=>by
 have stay:∀{b u},H b=Ya u->fP X.prog X.w (upd H d (.dB ob (.dK ws))) s.heap b u:=λ{b u} e=>(hk b u e).stay (λ_ _ _ q=>q) (λc q=>by rw[bW (yE q h (by intro z;cases z))];exact q) λc xs q=>by rw[bW (yE q h (by intro z;cases z))];exact q
 by_cases eb:b=d
 .subst eb;rw[nJ]at e;cases e;exact⟨ho,stay h⟩
 .rw[bW eb]at e;exact stay e
theorem _root_.L2.Inv.still(I:Inv X pins σ H s)(h:H d=Ya (.dK ws))(ho:s.heap.get? d=Ya ob):Inv X pins σ (upd H d (.dB ob (.dK ws))) s:=by
 have nd:∀b,H b=Ye->b≠d:=λb n z=>by rw[z,h]at n;cases n
 exact I.step (h':=s.heap) (g':=s.gens) (t':=s.toks) (d':=s.drawn) (ch:=[]) (λ_ z=>nomatch z) (λb o _ _ _ e _=>e) (λb o _ _ _ e _=>⟨o.slots,e⟩) (λb o _ _ n=>by rw[bW (nd b n)];exact n) (λb o _ e=>⟨o,e⟩)
  (λb xs q=>by rw[bW (yE q h (by intro z;cases z))];exact q) (λb o u q=>by rw[bW (yE q h (by intro z;cases z))];exact q) (λb ps q=>⟨#[],by rw[bW (yE q h (by intro z;cases z)),q];simp⟩) (λ_ hm=>hm) (Zo7 I.hok h ho) I.bare
theorem _root_.L2.Inv.Abb(I:Inv X pins σ H s)(h:H d=Ya (.dB ob (.dK ws)))(h0:∀o u,X.H₀ d≠Ya (.dB o u)):Inv X pins σ (upd H d (.dK ws)) s:=by
 have nd:∀b,H b=Ye->b≠d:=λb n z=>by rw[z,h]at n;cases n
 have nt:∀{b u},H b=Ya u->(∀o v,u≠ .dB o v)->b≠d:=λq nz z=>by rw[z,h]at q;cases q;exact nz _ _ rfl
 have stay:∀{b u},H b=Ya u->fP X.prog X.w (upd H d (.dK ws)) s.heap b u:=λ{b u} e=>(I.hok b u e).stay (λ_ _ _ q=>q) (λc q=>by rw[bW (nt q λ_ _ z=>nomatch z)];exact q) λc xs q=>by rw[bW (nt q λ_ _ z=>nomatch z)];exact q
 refine⟨I.ok,I.os,I.bare,⟨I.base.keep,I.base.slot,λb o e n hx=>?_,I.base.there,λb xs e=>?_,λb o u e=>?_,λb ps e=>?_⟩,I.loc,I.cell,?_,λx c e=>?_,λp hp=>?_,λb u e=>?_,I.len⟩
 .have:=I.base.free b o e n hx;rw[bW (nd b this)];exact this
 .have:=I.base.tups b xs e;rw[bW (nt this λ_ _ z=>nomatch z)];exact this
 .have hb:b≠d:=λz=>by subst z;exact h0 o u e
  rw[bW hb];exact I.base.oR b o u e
 .obtain⟨more,q⟩:=I.base.q8 b ps e;exact⟨more,by rw[bW (nt q λ_ _ z=>nomatch z)];exact q⟩
 .rw[bW (nd _ I.free)];exact I.free
 .rw[bW (nd _ (I.m_ x c e))];exact I.m_ x c e
 .obtain⟨e,n,r⟩:=I.pin p hp;exact⟨e,by rw[bW (nd _ n)];exact n,r⟩
 .by_cases eb:b=d
  .subst eb;rw[nJ]at e;cases e;obtain⟨_,q⟩:=(show fP X.prog X.w H s.heap b (.dB ob (.dK ws))from I.hok b _ h);exact q.stay (λ_ _ _ q=>q) (λc q=>by rw[bW (nt q λ_ _ z=>nomatch z)];exact q) λc xs q=>by rw[bW (nt q λ_ _ z=>nomatch z)];exact q
  .rw[bW eb]at e;exact stay e
end
noncomputable def Itd(d:Yz)(ob:aV)(ws:List (Key×V)):It:=⟨λi H=>H d=Ya (.dB ob (.dK ws))/\i<ws.length,λi H x H'=>H'=H/\∃q,ws[i]?=Ya q/\x=kV q.1,λi H=>H d=Ya (.dB ob (.dK ws))/\i=ws.length⟩
variable{w:bO}{P:cj}
theorem ZuZ{k:Key}{v:Yg}(h:(fY P w).is k v=true):RelV (kV k) v:=by
 rw[ZmY]at h;rcases ql h with⟨i,t,rfl,rfl⟩|⟨x,t,rfl,rfl⟩
 .exact⟨t,rfl⟩
 .exact⟨t,rfl⟩
theorem ZoK{tg:Expr}{it d:Yz}{ob:aV}{ws:List (Key×V)}{vs:List (Key×Yg)}{ep:Nat}(hne:d≠it)(hD:∀h:aY,h.get? d=Ya ob->h.DictAt (fY P w) d vs ep)(kv:KV ws vs):
  Turn P w K tg (Itd d ob ws) [it] it (λi h=>h.IsKeyIter it d i vs.length ep)where
 mem:=by simp
 obj:=λi h st b hb=>by
  have e:b=it:=by simpa using hb
  subst e;obtain⟨o,e,c,d⟩:=st;exact⟨o,e,λv z=>by rw[d]at z;cases z⟩
 keep:=λi h h' st k=>st.at λo e=>k it (by simp) o e
 item:=by
  intro X hP hw hK hc i pins s σ H E I hf st hg;subst hP hw hK;obtain⟨f0,f1,f2,f3,f4,f5⟩:=hf it (by simp);have hob:=(show fP X.prog X.w H s.heap d (.dB ob (.dK ws))from I.hok d _ hg.1).1;refine(V9 (I.ok.hd hc) it d hne vs ep).item i s _ _ (by rw[←kv.length];exact hg.2) ⟨st,hD _ hob⟩ λv h' tk hv st' kk=>?_;obtain⟨k,x,hx,hk⟩:=hv;have I1:Inv X pins σ H {s with heap:=h',toks:=tk}:=I.turned (λb o hb e=>kk b o (by simpa using hb) e) f0 f1 f3 f4 f5;obtain⟨o,e,cc,dd⟩:=id st'.1;have hil:i<ws.length:=hg.2;have hq:ws[i]?=Ya ws[i]:=by simp[hil]
  have ek:ws[i].1=k:=by have:=congrArg (λl=>l[i]?) kv.keys;simp only[Yx,hq,hx,vh,nD]at this;exact this
  exact⟨_,rfl,CP (s:={s with heap:=h',toks:=tk}) e cc dd (by decide) ⟨kV k,H,I1,ZuZ hk,⟨rfl,ws[i],hq,by rw[ek]⟩,st'.1,λb hb=>(hf b hb).1⟩⟩
 done:=by
  intro X hP hw hK hc i pins s σ H E I hf st hg;subst hP hw hK;obtain⟨f0,f1,f2,f3,f4,f5⟩:=hf it (by simp);have hob:=(show fP X.prog X.w H s.heap d (.dB ob (.dK ws))from I.hok d _ hg.1).1;have ei:i=vs.length:=by rw[hg.2,kv.length]
  subst ei;exact(V9 (I.ok.hd hc) it d hne vs ep).done s _ _ ⟨st,hD _ hob⟩ λh' tk kk=>⟨rfl,I.turned (λb o hb e=>kk b o (by simpa using hb) e) f0 f1 f3 f4 f5⟩
 self:=λ_ _ _ _ _ st h=>wpAny_pyIter_keyiter st h
noncomputable def Ji(f:E3):I3:=λenv M=>(f env M).bind λa M1=>match a with
 | .ref n=>match M1[n]? with
  |some (.dct kvs)=>.ok ⟨kvs.map λq=>keyV q.1,Ye⟩ (M1.set n (.cC kvs))|_=>.bad
 |_=>.bad
theorem Zrh(k:cN):Rep K H ι (keyV k) (kV (dk k)):=by
 cases k with
 |inl i=>exact Rep.int|inr x=>exact Rep.str
section
variable {X:Cx} {tg e elt:Expr} {ifs:List Expr} {pos:bQ} {f fe:E3} {ts:List E3} {g:G3} {scope:Scope} {N':List aj} {own:Nat}
theorem Zro(h:C3 X e f):CI X tg e (Ji f):=by
 intro pins s σ H R I ⟨ι,M,env,S,E,hw⟩;obtain⟨d,M1,e1,hw⟩:=wO.bind hw;refine a_ (h pins s σ H (λv H'=>∃ι',Ext X.K H ι H' ι'/\aP X.K H' ι' M1/\Rep X.K H' ι' d v) I ⟨ι,M,env,S,E,by rw[e1];exactλv H' ι' x S' r=>⟨ι',x,S',r⟩⟩) λv s1 ak=>?_;obtain⟨x,H1,I1,r1,ι1,x1,S1,rd⟩:=ak;cases d with
 | ref n=>
  cases hn:M1[n]? with
  |none=>simp only[hn]at hw;exact hw.elim|some ob=>
   cases ob with
   |lst _=>simp only[hn]at hw;exact hw.elim|cC _=>simp only[hn]at hw;exact hw.elim|ins _ _=>simp only[hn]at hw;exact hw.elim|dct kvs=>
    simp only[hn]at hw;obtain⟨a,ha,rfl⟩:=rd.gF;cases r1;obtain⟨ws,hws,kr⟩:=S1.obj n _ a hn ha;obtain⟨zl,hsys,vs,kv,o,es,ep,ho,hrest⟩:=Xu I1.hok hws;have hlt:a<s1.heap.objs.size:=Yv ho;refine wpAny_pyIter_dict (kvs:=vs) (ep:=ep) hsys ⟨o,es,ho,hrest⟩ ?_;have I2:Inv X pins σ H1 {s1 with heap:=s1.heap.push {cls:=.type "dict_keyiterator",data:=.fields #[.ref a,.int 0 0,.int vs.length 0,.int ep 0]}}:=I1.kept (t':=s1.toks) λb u q=>Yo _ q;have I3:=I2.still hws (Yo _ ho);have l0:Loose H1 a:=.inr (.inr (.inl ⟨ws,hws⟩));have x2:Ext X.K H1 ι1 (upd H1 a (.dB o (.dK ws))) ι1:=l0.ext;have S2:aP X.K (upd H1 a (.dB o (.dK ws))) ι1 (M1.set n (.cC kvs)):=S1.put l0 ha ⟨ws,⟨o,nJ⟩,kr.mono x2⟩;refine⟨s1.heap.objs.size,[s1.heap.objs.size],_,Itd a o ws,_,rfl,I3,ZoK (vs:=vs) (ep:=ep) (dU hlt) (λh' hh=>⟨o,es,hh,hrest⟩) kv,⟨_,jg _ rfl,rfl,rfl⟩,λb hb=>?_,hw _ _ ι1 (x1.trans x2) S2 ?_⟩
    .have eb:b=s1.heap.objs.size:=by simpa using hb
     subst eb;exact I1.u_ (Yk _) (by rw[bW (Fx hlt)];exact I1.hok.fresh (Yk _))
    .intro i H2 ι2 M2 x S3 _;have hz:=x.dB a o _ nJ;refine⟨λdd hd=>?_,λhl=>⟨hz,by rw[hl,Yn,kr.length]⟩⟩;rw[Yx]at hd;cases hq:kvs[i]? with
     |none=>rw[hq]at hd;cases hd|some q=>
      rw[hq]at hd;have hd':keyV q.1=dd:=by simpa using hd
      subst hd';have hi:i<ws.length:=by rw[kr.length];exact(Yd.mp hq).1
      refine⟨⟨hz,hi⟩,λy H3 hy=>⟨hy.1,?_⟩⟩;obtain⟨_,w',hw',rfl⟩:=hy;have ek:w'.1=dk q.1:=by have:=congrArg (λl=>l[i]?) kr.1;simp only[Yx,hw',hq,vh,nD]at this;exact this
      rw[ek];exact Zrh q.1
 |_=>exact hw.elim
end
variable{Q:Yg->Yh->Prop}{items:Array Yg}
section
variable {prog:cj} {w:bO} {A:cG} {E:Yg->Yh->Prop} {s:Yh}
theorem Zpv:LR (.type "tuple") (vU "keys")=pure Ye:=by rw[typeLookup_type,builtinLookup_eq_fast];kernel_rfl
set_option maxRecDepth 8000 in
theorem Zl7{a:Yz}{o:aV}{xs:Array Yg}{k:Nat}{Q:Option Yg->Yh->Prop}(hx:s.heap.get? a=Ya o)(hc:o.cls= .type "tuple")(hdat:o.data= .seq xs k)(hd:o.dict=Ye)(hA:A.handled=Ye)(h:∀h' tk,(∀b u,s.heap.get? b=Ya u->h'.get? b=Ya u)->Q Ye {s with heap:=h',toks:=tk}):aA (aN prog w) A (getAttr? (.ref a) (vU "keys")) Q E s:=by
 obtain⟨c,dct,dat,sl⟩:=o;simp only at hc hdat hd;subst hc hdat hd;obtain⟨hp,g,d,tk,os⟩:=s;have hT:∀tk',(⟨hp,g,d,tk',os⟩:Yh).TypeIs (.ref a) "tuple":=λ_=>⟨_,hx,rfl⟩;have f1:=sub_AttributeError;have f3:=F.slot_tuple_getattribute.lookup;have f4:=F.slot_tuple_getattribute.bind (.ref a);have f5:=am_tuple_getattr_none;unfold getAttr? getAttrBy? getAttrBy
 repeat(any_goals(first|assumption|exact hT _|((with_reducible show aA _ _ (call (Value.builtin "tuple.__getattribute__") _ _) _ _ _);refine Gm F.slot_tuple_getattribute (hT _) am_entry_tuple_getattribute (F.args_tuple_getattribute_2 _ _) (meets_getattribute_miss_tuple a xs k sl _ _ Zpv (by decide) (by rw[j7];decide)) ⟨hx,hA,λh' tk' e hx'=>?_⟩)|wp_step))
 obtain⟨t',u',he⟩:=hx'.there;show aA _ _ (UJ _ _ _ _ _ _ _) _ _ _;unfold UJ
 repeat(any_goals(first|assumption|wp_step))
 all_goals exact h _ _ hx'.of.keeps
theorem Zgf:entryFor table "dict.update.loop" =Ya Builtin.«dict.update.loop»:=entryFor_of_tree (by kernel_rfl)
theorem Jj:plainId "dict.update.loop" =true:=by decide +kernel
def Qz(prog:cj)(w:bO)(h:aY)(v:Yg)(q:Key×Yg):Prop:=∃a o key n,v= .ref a/\h.get? a=Ya o/\o.cls= .type "tuple" /\o.data= .seq #[key,q.2] n/\(fY prog w).is q.1 key=true
theorem ZqY{d I ax:Yz}{ps:List (Key×Yg)}{res:Yg}(hh:A.in1.handled=Ye)(hne:ax≠I)(hdI:d≠I)(hda:d≠ax)(hl:ps.length=items.size)(hz:ps.length<=100000):
  ∀(k i:Nat) (s:Yh) (kvs:List (Key×Yg)) {R:BW->Yh->Prop},items.size-i=k->i<=items.size->s.heap.IsTupleIter I ax i->s.heap.IsTuple ax items->s.heap.DictOf (fY prog w) d kvs->kvs.length<=i ->
   (∀(j:Nat) v q,items[j]?=Ya v->ps[j]?=Ya q->Qz prog w s.heap v q/\v≠ .ref d/\v≠ .ref I) ->
   (∀h' tk,h'.DictOf (fY prog w) d (merged kvs (ps.drop i))->(∀b o,b≠d->b≠I->s.heap.get? b=Ya o->h'.get? b=Ya o)->R (.ok (.ret res)) {s with heap:=h',toks:=tk}) ->
   rF (aN prog w) A (.builtin "dict.update.loop" ⟨[.ref d,.ref I,vM i,res],[]⟩) R s:=by
 have W:=Walks.tuple (prog:=prog) (w:=w) hh I ax hne items;intro k
 induction k with
 |zero=>intro i s kvs R hk hi st tup dd hkl hp hR;have hin:i=items.size:=Yt hi (lC 2 580682816544801 T1 hk (bZ _ _));subst hin;refine U6 Zgf ?_;rw[V4 Jj _];show aA _ A.in1 (pY (.ref I)>>=_) _ _ s;refine Yf (W.done s _ _ ⟨st,tup⟩ λh' tk kk=>?_);show aA _ A.in1 (Builtin.Dict.addKeywords d []>>=_) _ _ _;refine Yf (Yw (Yw (hR h' tk ?_ λb o hb hI e=>kk b o (by simpa using hI) e)));rw[List.drop_of_length_le (oU hl)];obtain⟨o,es,ep,ho,r⟩:=dd;exact⟨o,es,ep,kk d o (by simpa using hdI) ho,r⟩|succ k ih=>
  intro i s kvs R hk hi st tup dd hkl hp hR;have hlt:i<items.size:=lD 2 0x321320c21a1c031 T1 hk (Yc hi);have hv:items[i]?=Ya items[i]:=by simp[hlt]
  have hq:ps[i]?=Ya (ps[i]'(by omega)):=by simp[show i<ps.length by omega]
  refine U6 Zgf ?_;rw[V4 Jj _];show aA _ A.in1 (pY (.ref I)>>=_) _ _ s;refine Yf (W.item i s _ _ hlt ⟨st,tup⟩ λv h1 tk1 hP st1 QB=>?_);rw[hv]at hP;cases hP;obtain⟨⟨a,o,key,n,ev,ho,hc,hd,hkey⟩,nd,nI⟩:=hp i _ _ hv hq;have haI:a≠I:=λz=>nI (by rw[ev,z]);have had:a≠d:=λz=>nd (by rw[ev,z]);have ho1:h1.get? a=Ya o:=QB a o (by simpa using haI) ho;have dd1:h1.DictOf (fY prog w) d kvs:=by obtain⟨o',es,ep,ho',r⟩:=dd;exact⟨o',es,ep,QB d o' (by simpa using hdI) ho',r⟩
  rw[ev];generalize ps[i]'(lC 2 2203623428113 T1 hlt hl)=q at hq hkey hd;dsimp only;refine Yf (j6 (Yf (wpAny_tryCatch ?_)));unfold Builtin.Dict.pairItems;refine Yf (BL (T:="tuple") ⟨o,ho1,hc⟩ ?_);rw[if_pos (by decide)];refine Yf ?_;unfold Mh;refine Yf (wpAny_load ho1 ?_);rw[hd];refine Yw (Yw ?_);show aA _ A.in1 (jf [key,q.2] (dictSet d key q.2)) _ _ _;refine j6 (wpAny_dictSet_pairs hkey dd1 (λh2 dd2 sb=>?_) (by rw[j7];exact lD 4 0x10000007b201331186a05b30102011011 T1 hlt hkl hz hl));refine Yw ⟨plainId_quiet Jj _,?_⟩;show rF (aN prog w) A (.builtin "dict.update.loop" ⟨[.ref d,.ref I,vM ((i:Int)+1),res],[]⟩) R _;have e1:((i:Int)+1)=((i+1:Nat):Int):=rfl;rw[e1];have k2:∀b u,b≠d->b≠I->s.heap.get? b=Ya u->h2.get? b=Ya u:=λb u hb hI e=>(sb.2 b hb).trans (QB b u (by simpa using hI) e);refine ih (i+1) _ (yo kvs q.1 q.2) (Yt (lE 3 0x12030c4014a3c2c21a1c021 T1 hk (Yc (lB 1 6991908881 T1 hlt)) (bZ _ _)) (lE 3 0x310240c21a4c3c201a1c031 T1 hk (bZ _ _) (Yc (tW hlt)))) hlt ?_ ?_ dd2 ?_ ?_ ?_
  .obtain⟨o',e',r⟩:=st1.1;exact⟨o',(sb.2 I (cU hdI)).trans e',r⟩
  .obtain⟨o',e',r⟩:=st1.2;exact⟨o',(sb.2 ax (cU hda)).trans e',r⟩
  .have:=(show(yo kvs q.1 q.2).length<=kvs.length+1 from by unfold yo;split <;>simp);exact lC 2 0xa2c002101a1c001 T1 this hkl
  .intro j v q' hj hq';obtain⟨⟨a',o',key',n',ev',ho',r⟩,nd',nI'⟩:=hp j v q' hj hq';exact⟨⟨a',o',key',n',ev',k2 a' o' (λz=>nd' (by rw[ev',z])) (λz=>nI' (by rw[ev',z])) ho',r⟩,nd',nI'⟩
  .intro h' tk qt QC;refine hR h' tk ?_ λb u hb hI e=>QC b u hb hI (k2 b u hb hI e);have hq2:ps.drop i=q::ps.drop (i+1):=by rw[Bp (by exact lC 2 2203623428113 T1 hlt hl)];congr 1;rw[Yi (by exact lC 2 2203623428113 T1 hlt hl)]at hq;exact Yq hq
   rw[hq2];exact qt
theorem Zm3{ax:Yz}{ps:List (Key×Yg)}(hA:A.handled=Ye)(ht:o6 s.heap ax items)(hl:ps.length=items.size)(hz:ps.length<=100000)(hp:∀(j:Nat) v q,items[j]?=Ya v->ps[j]?=Ya q->Qz prog w s.heap v q)(h:∀h' tk,h'.DictOf (fY prog w) s.heap.objs.size (merged [] ps)->(∀b o,s.heap.get? b=Ya o->h'.get? b=Ya o)->Q (.ref s.heap.objs.size) {s with heap:=h',toks:=tk}):
  aA (aN prog w) A (call (.type "dict") [.ref ax]) Q E s:=by
 obtain⟨o,ho,⟨hc,hdn⟩,n,hdat⟩:=id ht;have hlt:ax<s.heap.objs.size:=Yv ho;refine callType_codes (Q₁:=λobj s₁=>obj= .ref s.heap.objs.size/\s₁={s with heap:=s.heap.push {cls:=.type "dict",data:=.dict #[]}}) F.kt_called_dict (F.kt_typeCall_dict_1 _) F.entry_dict_init (kt_code_dict_new _ ⟨rfl,rfl⟩) ?_;rintro obj s₁ ⟨rfl,rfl⟩;have hnew:(s.heap.push {cls:=.type "dict",data:=.dict #[]}).DictOf (fY prog w) s.heap.objs.size []:=V8 s.heap;have hk1:∀b u,s.heap.get? b=Ya u->(s.heap.push {cls:=.type "dict",data:=.dict #[]}).get? b=Ya u:=λb u q=>Yo _ q;refine⟨hnew.typeIs,F.args_dict_init_2 _ _,?_⟩;unfold Builtin.«dict.__init__»;refine Yf ?_;unfold Builtin.Dict.selfAndRest;refine Yf (wpAny_notOrdered_dict hnew.typeIs ?_);show aA _ _ (pure (s.heap.objs.size,[Value.ref ax])) _ _ _;refine Yw ?_;show aA _ _ (V3 "dict.__init__" s.heap.objs.size (.ref ax) [] .none) _ _ _;unfold V3;refine Yf (BL (T:="tuple") ⟨o,hk1 _ _ ho,hc⟩ ?_);rw[if_pos (by decide)];refine Yf (Zl7 (hk1 _ _ ho) hc hdat hdn hA λh2 tk2 k2=>?_);simp only[Option.isNone_none,if_true];refine Yf (BP ?_);have d2:h2.DictOf (fY prog w) s.heap.objs.size []:=by obtain⟨o',es,ep,ho',r⟩:=hnew;exact⟨o',es,ep,k2 _ _ ho',r⟩
 have t2:h2.IsTuple ax items:=⟨o,k2 _ _ (hk1 _ _ ho),hc,n,hdat⟩;have l2:s.heap.objs.size<h2.objs.size:=by obtain⟨o',_,_,ho',_⟩:=d2;exact Yv ho'
 refine Yf (Bw t2 ?_);have k3:∀b u,h2.get? b=Ya u->(h2.push {cls:=.type "tuple_iterator",data:=.fields #[.ref ax,.int 0 0]}).get? b=Ya u:=λb u q=>Yo _ q;have t3:(h2.push {cls:=.type "tuple_iterator",data:=.fields #[.ref ax,.int 0 0]}).IsTuple ax items:=by obtain⟨o',e',r⟩:=t2;exact⟨o',k3 _ _ e',r⟩
 have d3:(h2.push {cls:=.type "tuple_iterator",data:=.fields #[.ref ax,.int 0 0]}).DictOf (fY prog w) s.heap.objs.size []:=by obtain⟨o',es,ep,ho',r⟩:=d2;exact⟨o',es,ep,k3 _ _ ho',r⟩
 refine Yw ⟨plainId_quiet Jj _,ZqY (prog:=prog) (w:=w) (A:=A.in1) (ax:=ax) (items:=items) (ps:=ps) hA (dU (Fy hlt l2)) (dU l2) (Fx hlt) hl hz items.size 0 _ [] (Yt ((j4 _ _)) (lB 1 4309762049 T1 (bZ _ _))) (eV _) ⟨_,jg _ rfl,rfl,rfl⟩ t3 d3 (eV _) (λj v q hj hq=>?_) λh' tk qt QC=>?_⟩
 .obtain⟨a,o',key,n',ev,ho',r⟩:=hp j v q hj hq;have hla:a<s.heap.objs.size:=Yv ho';refine⟨⟨a,o',key,n',ev,k3 _ _ (k2 _ _ (hk1 _ _ ho')),r⟩,λz=>?_,λz=>?_⟩
  .rw[ev]at z;injection z with z;exact absurd hla (by rw[z];exact tU _)
  .rw[ev]at z;injection z with z;exact absurd (Fy hla l2) (by rw[z];exact tU _)
 .refine⟨rfl,h h' tk qt λb u q=>QC b u (dU (Yv q)) (dU (Fy (Yv q) l2)) (k3 _ _ (k2 _ _ (hk1 _ _ q)))⟩
end
variable{pins:List (Yz×aV)}{σ:St}{s:Yh}{l:List (cN×D)}
section
variable {X:Cx}
theorem Znw{d:D}{x:List D}(h:n8 (d::x)=Ya l):∃a b k l',d= .tup [a,b]/\gK a=Ya k/\n8 x=Ya l'/\l=(k,b)::l':=by
 cases d with
 | tup ds=>cases ds with
  |nil=>exact gP h|cons a ds=>cases ds with
   |nil=>exact gP h|cons b ds=>cases ds with
    |cons _ _=>exact gP h|nil=>
     have h:(match gK a with|some k=>(n8 x).map λl=>(k,b)::l|none=>Ye)=Ya l:=h;cases hk:gK a with
     |none=>rw[hk]at h;exact gP h|some k=>
      rw[hk]at h;cases hx:n8 x with
      |none=>rw[hx]at h;exact gP h|some l'=>rw[hx]at h;exact⟨a,b,k,l',rfl,hk,rfl,(Yq h).symm⟩
 |_=>exact gP h
def QD(X:Cx)(H:Hp)(s:Yh)(ι:List Yz)(l:List (cN×D))(us:List Yg):Prop:=∃(ws:List (Key×V)) (ps:List (Key×Yg)),cD X.K H ι l ws/\KV ws ps/\ps.length=us.length/\∀(j:Nat) v q,us[j]?=Ya v->ps[j]?=Ya q->Qz X.prog X.w s.heap v q
theorem ZnA(I:Inv X pins σ H s){a b:D}{k:cN}{u:V}{z:Yg}{us:List Yg}(hk:gK a=Ya k)(r:Rep X.K H ι (.tup [a,b]) u)(rz:RelV u z)(h:QD X H s ι l us):QD X H s ι ((k,b)::l) (z::us):=by
 obtain⟨ws,ps,kr,kv,lp,hp⟩:=h;obtain⟨ad,xs,eu,sq,rr⟩:=r.fW;rw[eu]at rz;obtain⟨ya,ys,rfl,ra,rr⟩:=rr.cons_inv;obtain⟨yb,ys,rfl,rb,rr⟩:=rr.cons_inv;rw[rr.nil_inv]at sq;obtain⟨its,rv,⟨o,ho,hc,n,hd⟩,_⟩:=I.tuple sq;cases rv with
 | @cons _ u1 _ _ q1 rv=>
 cases rv with
 | @cons _ u2 _ _ q2 rv=>
 cases rv
 refine⟨(dk k,yb)::ws,(dk k,u2)::ps,cD.cons rb kr,.cons ⟨rfl,q2⟩ kv,congrArg Nat.succ lp,λj v q hj hq=>?_⟩;cases j with
 |zero=>rw[←Yq hj,←Yq hq];exact⟨ad,o,u1,n,rz,ho,hc,hd,C_ (by rw[←Jd hk ra];exact q1)⟩|succ j=>exact hp j v q hj hq
theorem pairs_at(I:Inv X pins σ H s){x:List D}{vs:List V}{us:List Yg}(h:n8 x=Ya l)(r:aB X.K H ι x vs)(v:Vals vs us):QD X H s ι l us:=by
 induction x generalizing l vs us with
 |nil=>rw[r.nil_inv]at v;cases v;rw[←Yq h];exact⟨[],[],cD.nil,.nil,rfl,λj v q h=>gP h⟩|cons d x ih=>
  obtain⟨a,b,k,l',ed,hk,hx,el⟩:=Znw h;obtain⟨u,vs',ev,r1,r2⟩:=r.cons_inv;rw[ev]at v;rw[ed]at r1;rw[el];cases v with
  |cons rz Qv=>exact ZnA I hk r1 rz (ih hx r2 Qv)
theorem Ztg(hc:X.calm=true):fJ X (.type "dict") (rB X.K yR):=by
 intro pins s σ H xs us Q I rs ⟨ι,M,ds,S,rd,h⟩;cases ds with
 |nil=>exact h.elim|cons d ds=>
  cases ds with
  |cons _ _=>cases d<;>exact h.elim|nil=>
   obtain⟨x,rfl,r⟩:=wV rd;obtain⟨u,rfl,ru⟩:=vals1 rs;cases d with
   | ref n=>
    cases hn:fZ M[n]? with
    |none=>rw[HF,hn]at h;exact h.elim|some kvs=>simp only[HF,O8,hn]at h;obtain⟨a,ha,rfl⟩:=r.gF;cases ru;obtain⟨ws,hw,kr⟩:=Je S hn ha;refine Zrf I hw λp s' hp I'=>⟨.ref p,_,I',rfl,?_⟩;obtain⟨x2,S2,r2⟩:=S.dct hp kr;exact h _ _ _ x2 S2 r2
   | tup z=>
    simp only[HF,O8]at h;cases hp:n8 z with
    |none=>rw[hp]at h;exact h.elim|some l=>
     rw[hp]at h;dsimp only at h;split at h
     .rename_i hz;obtain⟨a,vs,rfl,sq,rr⟩:=r.fW;cases ru;obtain⟨its,rv,ht,_⟩:=I.AaP sq;obtain⟨ws,ps,kr,kv,lp,hpp⟩:=pairs_at I hp rr rv;have hl:ps.length=l.length:=by rw[←kv.length,kr.length]
      refine Zm3 (ps:=ps) (I.ok.hd hc) ht (by simpa using lp) (by rw[hl];exact hz) (λj v q hj hq=>hpp j v q (by simpa using hj) hq) λh' tk dd kk=>⟨.ref s.heap.objs.size,upd H s.heap.objs.size (.dK (Dd [] ws)),?_,rfl,?_⟩
      .have hm:=kv.merge (kvs:=[]) (vs:=[]) .nil;refine I.laid kk (Yk _) (Oj ?_ (beq_eq_false_iff_ne.mpr (cU (dU I.big))) hm dd);have h1:=Xw ws [];rw[x_]at h1;rw[j7];have:=kr.length;exact lC 3 0x10000007b20186a05b1010ec2011021 T1 this h1 hz
      .obtain⟨x2,S2,r2⟩:=S.dct (I.hok.fresh (Yk _)) (cD.merge (kvs:=[]) (ws:=[]) kr cD.nil);exact h _ _ _ x2 S2 r2
     .exact h.elim
   |_=>exact h.elim
end
section
variable {X:Cx} {a b c e o:Expr} {es:List Expr} {pos p apos cpos:bQ} {f g h:E3} {gl:iK}
theorem ZjQ:fJ X (.type "int") (λxs H Q=>∃x n,xs=[.str x]/\intText? x=Ya n/\x.length<=640/\Q (.int n) H):=by intro pins s σ H xs us Q I r h;obtain⟨x,n,rfl,hn,hz,q⟩:=h;obtain⟨u,rfl,t,rfl⟩:=vals1 r;exact PySem.W.KIN.call_text hn hz ⟨.int n,H,I.tok _,⟨_,rfl⟩,q⟩
theorem QF:fJ X (.type "int") (rB X.K lU):=fJ.imp (fJ.or Zvt ZjQ) λxs H Q ak=>by
 obtain⟨ι,M,ds,S,rd,h⟩:=ak
 match ds,rd,h with
 | [.str x],rd,h=>
  obtain⟨v,rfl,r⟩:=wV rd;simp only[ZqB,ZpO]at h;cases hn:Lr ⟨x.toArray⟩with
  |none=>rw[hn]at h;exact h.elim|some n=>
   rw[hn]at h;dsimp only at h;split at h
   .rename_i hz;exact .inr ⟨_,n,by rw[r.str_inv],hn,by simpa[p_]using hz,aG.ok h S Rep.int⟩
   .exact h.elim
 |[],rd,h=>exact h.elim|[.int i],rd,h=>exact .inl ⟨ι,M,_,S,rd,h⟩|[.bl i],rd,h=>exact .inl ⟨ι,M,_,S,rd,h⟩|[.non],rd,h=>exact h.elim
 |[.tup _],rd,h=>exact h.elim|[.aQ _],rd,h=>exact h.elim|[.ref _],rd,h=>exact h.elim|.str _::_::_,rd,h=>exact h.elim
 | .int _::_::_,rd,h=>exact h.elim|.bl _::_::_,rd,h=>exact h.elim|.non::_::_,rd,h=>exact h.elim|.tup _::_::_,rd,h=>exact h.elim
 | .aQ _::_::_,rd,h=>exact h.elim|.ref _::_::_,rd,h=>exact h.elim
end
section
variable {X:Cx} {tg e:Expr} {pos:bQ} {f:E3} {g:G3}
theorem QG(he:C3 X e f)(hg:CG X tg g)(hs:BJ [tg] e pos.line X.env=pure false:=by rfl)(hw:BK [tg] e X.env=pure Ye:=by rfl)(h1:(fO [tg] X.env).map (·.2)=[iy tg X.env]:=by rfl):CS X (.Assign [tg] e pos) (mL f g):=(Hh he hg hs hw h1).imp λD σ H ak=>by
 obtain⟨ι,M,env,S,E,h⟩:=ak;refine⟨ι,M,env,S,E,?_⟩;unfold mL at h;cases q:f env M with
 | ok d M1=>
  rw[q]at h;cases qg:g d env with
  |none=>simp only[qg]at h;exact h.elim|some dO=>simp only[qg]at h;exactλv H1 ι1 x1 S1 r1=>⟨ι1,M1,env,d,dO,S1,E.mono x1,r1,qg,λσ' E'=>h σ' H1 ι1 x1 S1 E'⟩
 |exc x M1=>rw[q]at h;exact h.elim|bad=>rw[q]at h;exact h.elim
end
section
variable {X:Cx} {tg e elt:Expr} {ifs:List Expr} {pos:bQ} {f fe:E3} {ts:List E3} {g:G3} {scope:Scope} {N':List aj} {own:Nat}
theorem ZtP{σ':St}{H':Hp}{s':Yh}{ι':List Yz}{M2:Store}{n:Nat}{a:Yz}{ws0:List (Key×V)}{kvs':List (cN×D)}(I:Inv X pins σ H s)(ha:ι[n]?=Ya a)(hw0:H a=Ya (.dK ws0))(I':Inv X pins σ' H' s')(xx:Ext X.K H ι H' ι')(S':aP X.K H' ι' M2)(hm:M2[n]?=Ya (.cC kvs')):
  ∃H2,Inv X pins σ' H2 s'/\Ext X.K H ι H2 ι'/\aP X.K H2 ι' (M2.set n (.dct kvs'))/\∀d v,Rep X.K H' ι' d v->Rep X.K H2 ι' d v:=by
 have ha':=xx.pre _ _ ha;obtain⟨ws,⟨o,hw⟩,kr⟩:=S'.obj n _ a hm ha';have I2:=I'.Abb hw λo u z=>by have:=I.base.oR a o u z;rw[hw0]at this;cases this
 have nz:∀{b u},H' b=Ya u->(∀o v,u≠ .dB o v)->upd H' a (.dK ws) b=Ya u:=λ{b u} q nf=>by
  rw[bW];· exact q
  .rintro rfl;rw[hw]at q;cases q;exact nf _ _ rfl
 have tp:∀b xs,cZ X.K H' b xs->cZ X.K (upd H' a (.dK ws)) b xs:=λb xs q=>by
  rcases q with(q|⟨o',q⟩)|q
  .exact .inl (.inl (nz q λ_ _ z=>nomatch z))
  .refine .inl (.inr ⟨o',?_⟩);rw[bW];· exact q
   .rintro rfl;rw[hw]at q;cases q
  .exact .inr q
 have sc:∀b xs,lW X.K H' b xs->lW X.K (upd H' a (.dK ws)) b xs:=λb xs q=>by
  rcases q with⟨o',q⟩|q
  .refine .inl ⟨o',?_⟩;rw[bW];· exact q
   .rintro rfl;rw[hw]at q;cases q
  .exact .inr q
 have mono:∀{d':D} {u:V},Rep X.K H' ι' d' u->Rep X.K (upd H' a (.dK ws)) ι' d' u:=λ{d' u} r=>Rep.keep tp sc r;have Bg:∀{ds:List D} {us:List V},aB X.K H' ι' ds us->aB X.K (upd H' a (.dK ws)) ι' ds us:=λ{ds us} r=>aB.keep tp sc r;have S2:aP X.K (upd H' a (.dK ws)) ι' (M2.set n (.dct kvs')):=by
  refine⟨by simp[S'.len],S'.nd,λk m b h1 h2=>?_⟩;by_cases hk:k=n
  .subst hk;rw[ha']at h2;cases h2;rw[Y2 (Yd.mp hm).1]at h1;cases h1;exact⟨ws,nJ,kr.1,Bg kr.2⟩
  .rw[jH (cU hk)]at h1;have hb':b≠a:=by
    rintro rfl;have q1:=Yd.mp h2;have q2:=Yd.mp ha';exact hk ((K_ S'.nd).mp (q1.2.trans q2.2.symm))
   have:=S'.obj k m b h1 h2;cases m with
   |lst xs=>obtain⟨vs,q,r⟩:=this;exact⟨vs,by rw[bW hb'];exact q,Bg r⟩|dct xs=>obtain⟨vs,q,r⟩:=this;exact⟨vs,by rw[bW hb'];exact q,r.1,Bg r.2⟩|cC xs=>obtain⟨vs,⟨o',q⟩,r⟩:=this;exact⟨vs,⟨o',by rw[bW hb'];exact q⟩,r.1,Bg r.2⟩|ins c xs=>exact this.elim (λz=>let⟨C,dx,vs,q,c,r⟩:=z;.inl ⟨C,dx,vs,by rw[bW hb'];exact q,c,r.1,Bg r.2⟩) λz=>let⟨C,q,r⟩:=z;.inr ⟨C,by rw[bW hb'];exact q,r⟩
 refine⟨_,I2,⟨λb xs q=>tp b xs (xx.tup b xs q),λb xs q=>sc b xs (xx.aQ b xs q),xx.pre,λb o' u q=>?_⟩,S2,λd v r=>mono r⟩;have hb':b≠a:=by rintro rfl;rw[hw0]at q;cases q
 rw[bW hb'];exact xx.dB b o' u q
theorem Zpb{x y:aj}{pos' pos2 spos:bQ}(j i:Nat)(O:zy X scope N' own)(sU:X.xe=λ_ _=>False)(hc:X.calm=true)(hN:X.N.Nodup)(hi:C3 X (.Name x pos2) (Za i))(hb:∀C cl s H ex,CG (jk X scope N' C cl s H ex) tg g/\qG (jk X scope N' C cl s H ex) ifs ts/\C3 (jk X scope N' C cl s H ex) elt fe)(hj:X.N[j]?=Ya y:=by rfl)(hx:Loc X.env.scope y:=by first|exact Or.inl rfl|exact Or.inr rfl)(hf:X.fn y=true\/X.env.scope.names.lookup y=Ya .local:=by first|exact .inl rfl|exact .inr rfl)(hsw:uc (.ListComp elt [⟨tg,.Name x pos2,ifs,0⟩] scope pos) (Ya (.Name y pos')) spos.line X.env=pure true:=by rfl)(hs:∀z,ye (.Name x pos2) X.env z=pure z:=by intro _;rfl):CS X (.Assign [.Name y pos'] (.ListComp elt [⟨tg,.Name x pos2,ifs,0⟩] scope pos) spos) (ao j (wC (Za i) own g ts fe)):=by
 intro pins s σ H D I ⟨ι,M,env,S,E,h⟩;unfold ao at h;cases q:wC (Za i) own g ts fe env M with
 |exc _ _=>rw[q]at h;exact h.elim|bad=>rw[q]at h;exact h.elim|ok v M3=>
  rw[q]at h;unfold wC at q;cases e1:Za i env M with
  |exc _ _=>rw[e1]at q;cases q|bad=>rw[e1]at q;cases q|ok d M1=>
   have eM:M1=M:=by
    simp only[Za]at e1;split at e1
    .cases e1;rfl
    .cases e1
   subst eM;rw[e1]at q;cases d with
   | ref n=>
    simp only[R3.bind]at q;cases hn:M1[n]? with
    |none=>simp only[hn]at q;cases q|some ob=>
     cases ob with
     |lst _=>simp only[hn]at q;cases q|cC _=>simp only[hn]at q;cases q|ins _ _=>simp only[hn]at q;cases q|dct kvs=>
      simp only[hn]at q;cases e2:gR ⟨kvs.map λq=>keyV q.1,Ye⟩ g ts fe M1.length (kvs.map λq=>keyV q.1) (env++Yj own Ye) (M1.set n (.cC kvs)++[.lst []])with
      |exc _ _=>rw[e2]at q;cases q|bad=>rw[e2]at q;cases q|ok v' M2=>
       rw[e2]at q;simp only at q;cases hm:M2[n]? with
       |none=>simp only[hm]at q;cases q|some ob2=>
        cases ob2 with
        |lst _=>simp only[hm]at q;cases q|dct _=>simp only[hm]at q;cases q|ins _ _=>simp only[hm]at q;cases q|cC kvs'=>
         simp only[hm]at q;cases q;obtain⟨a,ha,ws0,hw0,_⟩:∃a,ι[n]?=Ya a/\jQ X.K H ι (.dct kvs) a:=S.at hn;have eL:gh (Ji (Za i)) own g ts fe env M1= .ok v M2:=by unfold gh Ji;rw[e1];simp only[R3.bind,hn];rw[xZ];exact e2
         refine a_ (zA j (i:=Ji (Za i)) O sU hc hN (Zro hi) hb hj hx hf hsw hs pins s σ H {nx:=λσ' H'=>∃ι',Ext X.K H ι H' ι'/\aP X.K H' ι' M2/\cJ X.K H' ι' (env.set j (Ya v)) σ',rt:=λ_ _=>False} I
          ⟨ι,M1,env,S,E,by unfold ao;rw[eL];exactλσ' H' ι' x S' E'=>⟨ι',x,S',E'⟩⟩) λfl s' hq=>?_
         cases fl with
         |next=>obtain⟨σ',H',I',ι',xx,S',E'⟩:=hq;obtain⟨H2,I2,x2,S2,mono⟩:=ZtP I ha hw0 I' xx S' hm;exact⟨σ',H2,I2,h σ' H2 ι' x2 S2 ⟨E'.1,λi d hd=>let⟨v,e,r⟩:=E'.2 i d hd;⟨v,e,mono _ _ r⟩⟩⟩|brk=>obtain⟨_,_,_,z⟩:=hq;exact z.elim|cont=>obtain⟨_,_,_,z⟩:=hq;exact z.elim
         |ret _=>obtain⟨_,_,_,_,_,z⟩:=hq;exact z.elim
   |_=>simp only[R3.bind]at q;cases q
end
def ZuS(K:Yb)(H:Hp)(ι:List Yz)(it:Im)(J:It):Prop:=∀(i:Nat) H2 ι2 M2,Ext K H ι H2 ι2->aP K H2 ι2 M2->pC it.lk M2=true ->
 (∀d,it.items[i]?=Ya d->J.go i H2/\∀x H3,J.Hi i H2 x H3->Ext K H2 ι2 H3 ι2/\aP K H3 ι2 M2/\Rep K H3 ι2 d x)/\(i=it.items.length->J.stop i H2)
def Ed(K:Yb)(H:Hp)(ι:List Yz)(R:It->Hp->Prop)(r:R3 Im):Prop:=match r with
 | .ok it M'=>∀J H' ι',Ext K H ι H' ι'->aP K H' ι' M'->ZuS K H' ι' it J->R J H'|_=>False
def tIL(K:Yb)(g:Dv):TI:=λσ H R=>∃ι M env,aP K H ι M/\cJ K H ι env σ/\Ed K H ι R (g env M)
def CIL(X:Cx)(tg e:Expr)(g:Dv):Prop:=PI X tg e (tIL X.K g)
theorem Ed.bind{α:Type}{Q:It->Hp->Prop}{r:R3 α}{k:α->Store->R3 Im}(h:Ed K H ι Q (r.bind k)):∃a M,r= .ok a M/\Ed K H ι Q (k a M):=by
 cases r with
 |ok a M=>exact⟨a,M,rfl,h⟩|exc x M=>exact h.elim|bad=>exact h.elim
section
variable {X:Cx} {tg:Expr} {pos:bQ}
theorem Zos{iter:Expr}{body:List Yd1}{i:Dv}{g:G3}{u:S3}(sU:X.xe=λ_ _=>False)(hc:X.calm=true)(hi:CIL X tg iter i)(hg:CG X tg g)(hb:pH X body u)(hs:∀x,ye iter X.env x=pure x:=by intro _;rfl):
  CS X (.For tg iter body [] pos) (y_ i g u):=(WT (by rw[sU];exact Nk) hc hi hg hb hs).imp λD σ H ak=>by
 obtain⟨ι,M,env,S,E,h⟩:=ak;unfold y_ at h;cases q:i env M with
 |exc x M1=>rw[q]at h;exact h.elim|bad=>rw[q]at h;exact h.elim|ok it M1=>
  rw[q]at h;refine⟨ι,M,env,S,E,?_⟩;rw[q];intro J H1 ι1 x1 S1 ok;refine⟨λi m σ2 H2=>m=it.items.length-i/\i<=it.items.length/\∃ι2 M2 iU,Ext X.K H1 ι1 H2 ι2/\aP X.K H2 ι2 M2/\cJ X.K H2 ι2 iU σ2/\jR X.K H2 ι2 D (pD it.lk g u (it.items.drop i) iU M2),
   ⟨_,rfl,eV _,ι1,M1,env,Ext.refl,S1,E.mono x1,jR.up x1 h⟩,?_⟩
  rintro i m σ2 H2 ⟨rfl,hi,ι2,M2,iU,x2,S2,E2,h2⟩;by_cases hlt:i<it.items.length
  .have hd:it.items[i]?=Ya it.items[i]:=by simp[hlt]
   rw[Bp hlt]at h2
   first|rw[Du]at h2|rw[PB]at h2
   by_cases lk:pC it.lk M2=true
   .rw[if_pos lk]at h2;obtain⟨go,yl⟩:=(ok i H2 ι2 M2 x2 S2 lk).1 _ hd;cases eg:g it.items[i] iU with
    |none=>rw[eg]at h2;exact h2.elim|some vf=>
     rw[eg]at h2;refine .inr ⟨go,λσ' H'=>∃ι3 M3 nj,Ext X.K H2 ι2 H' ι3/\aP X.K H' ι3 M3/\cJ X.K H' ι3 nj σ'/\jR X.K H' ι3 D (pD it.lk g u (it.items.drop (i+1)) nj M3),
      λσ' H' ⟨ι3,M3,nj,x3,S3,E3,h3⟩=>⟨it.items.length-(i+1),lD 2 0x30113c2012a1c0c21 T1 (Yc (lB 1 6991908881 T1 hlt)) (bZ _ _),rfl,hlt,ι3,M3,nj,x2.trans x3,S3,E3,h3⟩,λx H' hy=>?_⟩
     obtain⟨x7,S7,rx⟩:=yl x H' hy;refine⟨ι2,M2,iU,_,vf,S7,E2.mono x7,rx,eg,λσ' E'=>⟨ι2,M2,vf,S7,E',?_⟩⟩;have h2':=jR.up x7 h2;cases qu:u vf M2 with
     |nx e' M'=>simp only[qu]at h2';exactλσ' H' ι' x' S' E'=>⟨ι',M',e',x7.trans x',S',E',h2'.up x'⟩|ct e' M'=>simp only[qu]at h2';exactλσ' H' ι' x' S' E'=>⟨ι',M',e',x7.trans x',S',E',h2'.up x'⟩|bk e' M'=>simp only[qu]at h2';exact h2'|rt d M'=>simp only[qu]at h2';exact h2'
     |exc x' M'=>simp only[qu]at h2';exact h2'.elim|bad=>simp only[qu]at h2';exact h2'.elim
   .rw[if_neg lk]at h2;exact h2.elim
  .have e0:i=it.items.length:=Yt hi (iH hlt);subst e0;rw[Lb]at h2
   first|rw[Du]at h2|rw[PB]at h2
   by_cases lk:pC it.lk M2=true
   .rw[if_pos lk]at h2;exact .inl ⟨(ok _ H2 ι2 M2 x2 S2 lk).2 rfl,h2 σ2 H2 ι2 Ext.refl S2 E2⟩
   .rw[if_neg lk]at h2;exact h2.elim
end
theorem _root_.L2.Inv.Kh{X:Cx}{h':aY}{t':Nat}{fp:List Yz}(I:Inv X pins σ H s)(k:∀b o,b∉fp->s.heap.get? b=Ya o->h'.get? b=Ya o)(hf:∀b∈fp,ju X pins H b):
  Inv X pins σ H {s with heap:=h',toks:=t'}:=by
 have CN:∀b u,H b=Ya u->b∉fp:=λb u e z=>by rw[(hf b z).1]at e;cases e
 refine I.step (g':=s.gens) (d':=s.drawn) (ch:=fp) (λb hb=>⟨(hf b hb).2.2.2.1,(hf b hb).2.1,(hf b hb).2.2.2.2.1,(hf b hb).2.2.2.2.2⟩) (λb o _ _ hc e _=>k b o hc e) (λb o _ _ hc e _=>⟨o.slots,k b o hc e⟩) (λ_ _ _ _ n=>n)
  (λb o hc e=>⟨o,k b o hc e⟩) (λ_ _ e=>e) (λ_ _ _ e=>e) (λb ps e=>⟨#[],by rw[e];simp⟩) (λm hm=>?_) (λb u e=>?_) I.bare
 .obtain⟨o,es,ep,ho,r⟩:=hm;exact⟨o,es,ep,k _ o (λz=>(hf _ z).2.1 rfl) ho,r⟩
 .refine(I.hok b u e).stay (λc v hc q=>k c v ?_ q) (λ_ q=>q) λ_ _ q=>q;rcases hc with z|z
  .rw[z];exact CN b u e
  .exact CN c _ z
noncomputable def Ite(S:Hp->List V->Prop):It:=⟨λi H=>∃xs x,S H xs/\xs[i]?=Ya x,λi H x H'=>∃T y,x= .ref T/\H T=Ye/\H'=upd H T (.tup [.int i,y])/\∀xs,S H xs->xs[i]?=Ya y,λi H=>∃xs,S H xs/\xs.length<=i⟩
theorem ZjZ{X:Cx}{h' h'':aY}{e it:Yz}{i:Nat}{x:V}{u:Yg}{tk tk':Nat}(I:Inv X pins σ H s)(hf:∀b∈[e,it],ju X pins H b)(he:e<s.heap.objs.size)(hi:it<s.heap.objs.size)(ru:RelV x u)(hT:h'.get? s.heap.objs.size=Ya {cls:=.type "tuple",data:=.seq #[.int i tk,u]})(hk:∀b o,b≠e->b≠it->s.heap.get? b=Ya o->h'.get? b=Ya o)(hs:yq e h' h''):
  Inv X pins σ (upd H s.heap.objs.size (.tup [.int i,x])) {s with heap:=h'',toks:=tk'}/\∀b∈[e,it],upd H s.heap.objs.size (.tup [.int i,x]) b=Ye:=by
 have hn:∀b∈[e,it],upd H s.heap.objs.size (.tup [.int i,x]) b=Ye:=λb hb=>by
  have:b≠s.heap.objs.size:=by
   simp only[Y7,F_,or_false]at hb;rcases hb with rfl|rfl
   .exact dU he
   .exact dU hi
  rw[bW this];exact(hf b hb).1
 refine⟨?_,hn⟩;have I1:Inv X pins σ (upd H s.heap.objs.size (.tup [.int i,x])) {s with heap:=s.heap.push {cls:=.type "tuple",data:=.seq ([.int i tk,u]:List Yg).toArray},toks:=s.toks}:=I.laid (t':=s.toks) (λb o e=>Yo _ e) (Yk _) (show fP X.prog X.w _ _ _ (.tup [.int i,x])from⟨by rw[j7];show 2<=_;decide,[.int i tk,u],.cons ⟨tk,rfl⟩ (.cons ru .nil),o6.new _ _⟩);have I3:=I1.Kh (t':=tk') (h':=h'') (fp:=[e,it]) (λb o hb q=>by
  have hbe:b≠e:=λz=>hb (by simp[z]);have hbi:b≠it:=λz=>hb (by simp[z]);rcases Heap.get?_push_cases q with⟨rfl,rfl⟩|q
  .exact(hs.2 _ (Fx he)).trans hT
  .exact(hs.2 _ hbe).trans (hk b o hbe hbi q)) λb hb=>⟨hn b hb,(hf b hb).2⟩
 exact I3
theorem Znn{es:List Expr}{k:Nat}{pos:bQ}(a e it:Yz)(hne:e≠it):
  Turn P w K (.Tuple es k pos) (Ite λH xs=>cL K H a xs) [e,it] e (λi h=>(∃old,IsEnum h e it i old)/\h.IsListIter it a i)where
 mem:=by simp
 obj:=λi h st b hb=>by
  obtain⟨⟨old,he⟩,o,ho,c,d⟩:=st;simp only[Y7,F_,or_false]at hb;rcases hb with rfl|rfl
  .exact⟨_,he,λv z=>by cases z⟩
  .exact⟨o,ho,λv z=>by rw[d]at z;cases z⟩
 keep:=λi h h' st k=>by obtain⟨⟨old,he⟩,hit⟩:=st;exact⟨⟨old,k e (by simp) _ he⟩,hit.at λo q=>k it (by simp) o q⟩
 item:=by
  intro X hP hw hK hc i pins s σ H E I hf st hg;subst hP hw hK;obtain⟨xs,x,hq,hx⟩:=hg;obtain⟨its,rv,p,hz⟩:=I.list hq;obtain⟨u,hu,ru⟩:=rv.get hx;obtain⟨⟨old,he⟩,hit⟩:=st;have hel:=Yv he;have hil:it<s.heap.objs.size:=by obtain⟨o,ho,_⟩:=id hit;exact Yv ho
  refine wpAny_pyNext_enum_item he hit p.isList (x:=u) (by simpa using hu) hne λh' ho hit' hT hsz hk=>?_;refine⟨_,rfl,Ux (s:={s with heap:=h',toks:=s.toks+1}) ho λh'' Ku hs''=>?_⟩;obtain⟨I2,n2⟩:=ZjZ (x:=x) (tk':=s.toks+1) I hf hel hil ru hT hk hs'';exact⟨.ref s.heap.objs.size,_,I2,rfl,⟨_,x,rfl,I.hok.fresh (Yk _),rfl,λys hy=>by rw[I.R0 hy hq];exact hx⟩,⟨⟨_,by simpa using Ku⟩,hit'.extBut hs''.extBut (cU hne)⟩,n2⟩
 done:=by intro X hP hw hK hc i pins s σ H E I hf st hg;subst hP hw hK;obtain⟨xs,hq,hx⟩:=hg;obtain⟨its,rv,p,hz⟩:=I.list hq;obtain⟨⟨old,he⟩,hit⟩:=st;have hl:=rv.length;exact wpAny_pyNext_enum_end (I.ok.hd hc) he hit p.isList (by simp;exact lC 2 2268279672881 T1 hl hx) λh' eb=>⟨rfl,I.Kh (t':=s.toks) (λb o hb q=>eb b o (λz=>hb (by simp[z])) q) hf⟩
 self:=λ_ _ _ _ _ st h=>by obtain⟨⟨old,he⟩,_⟩:=st;exact Yes he h
theorem boot_enumerate:lg "enumerate" =Ya (.type "enumerate"):=by decide +kernel
open AutoSeq1 (wpAny_loadPart')
set_option maxRecDepth 100000
section
variable {prog:cj} {w:bO} {A:cG} {E:Yg->Yh->Prop} {s:Yh}
theorem Zhc{it t:Yz}{i:Nat}{x:Yg}(hit:s.heap.IsTupleIter it t i)(ht:s.heap.IsTuple t items)(hx:items[i]?=Ya x)(hQ:∀h',h'.IsTupleIter it t (i+1)->yq it s.heap h'->Q x {s with heap:=h'}):aA (aN prog w) A (GF (.ref it)) Q E s:=by
 obtain⟨o,ho,hc,hd⟩:=id hit;obtain⟨ol,hol,_,nl,hdl⟩:=ht;unfold GF;refine Yf (Bv (name:=vU "__next__") hit.typeIs Gx
  (yg Gx hit.typeIs Vl ?_ (Vn _)))
 show aA _ _ (field (.ref it) 0>>=_) _ _ s;refine Yf (t_ ho hd (x:=.ref t) rfl ?_);show aA _ _ (if(Value.ref t==Value.none)=true then _ else _) _ _ s;rw[if_neg (show¬((Value.ref t==Value.none)=true)from mz)];show aA _ _ (field (.ref it) 1>>=_) _ _ s;refine Yf (t_ ho hd (x:=.int i 0) rfl ?_);show aA _ _ (Mh (.ref t)>>=_) _ _ s;refine Yf (wpAny_seqItems hol hdl ?_);simp only[o4,hx];refine Yf (wpAny_setField ho hd (by simp) (Yw ⟨x,rfl,Yw (hQ _ ?_ (V5 ..))⟩));exact⟨_,U8 _ ho (Obj.isFreed_of_fields (Vv hd _)),(Obj.cls_mapFields ..).trans hc,by rw[Vv hd];simp[vM]⟩
theorem Zfl{it t:Yz}{i:Nat}(hh:A.handled=Ye)(hit:s.heap.IsTupleIter it t i)(ht:s.heap.IsTuple t items)(hx:items[i]?=Ye)(hE:∀h' e,Mi it s.heap h'->(∃o,h'.get? e=Ya o/\o.cls= .type "StopIteration")->E (.ref e) {s with heap:=h'}):aA (aN prog w) A (GF (.ref it)) Q E s:=by
 obtain⟨o,ho,hc,hd⟩:=id hit;obtain⟨ol,hol,_,nl,hdl⟩:=ht;unfold GF;refine Yf (Bv (name:=vU "__next__") hit.typeIs Gx
  (yg Gx hit.typeIs Vl ?_ (Vn _)))
 show aA _ _ (field (.ref it) 0>>=_) _ _ s;refine Yf (t_ ho hd (x:=.ref t) rfl ?_);show aA _ _ (if(Value.ref t==Value.none)=true then _ else _) _ _ s;rw[if_neg (show¬((Value.ref t==Value.none)=true)from mz)];show aA _ _ (field (.ref it) 1>>=_) _ _ s;refine Yf (t_ ho hd (x:=.int i 0) rfl ?_);show aA _ _ (Mh (.ref t)>>=_) _ _ s;refine Yf (wpAny_seqItems hol hdl ?_);simp only[o4,hx];refine Yf (BP (Yf (wpAny_setField ho hd (by simp) ?_)));show aA _ _ (newExc (.type "StopIteration") []>>=_) _ _ _;refine Yf ?_;simp only[newExc,newTuple];refine Yf (vC ?_ (by size_fits));refine Yf (m:=firstArgMember _ _) (wpAny_of_eq (a:=Value.none) (by first|rfl|(simp only[firstArgMember];rfl)) ?_);refine vC ?_ (by size_fits);simp only[raiseNew];refine Yf (wpAny_handled ?_)
 first|rw[show A.in1.handled=Ye from hh]|rw[hh]
 refine Yf (Yw (wpAny_throw ?_));exact hE _ _ (((V5 ..).extBut.push _).push _) ⟨_,jg _ rfl,rfl⟩
end
theorem ZlO{prog:cj}{A:cG}(hh:A.handled=Ye)(it l:Yz)(hne:l≠it)(items:Array Yg):
  Draws prog w A it [it,l] items.size (λi v=>items[i]?=Ya v) (λi h=>h.IsTupleIter it l i/\h.IsTuple l items)where
 live:=λ_ _ st=>let⟨o,ho,_⟩:=st.1;⟨o,ho⟩
 frame:=λ_ _ _ st hk=>⟨st.1.at λo e=>hk it (by simp) o e,st.2.at λo e=>hk l (by simp) o e⟩
 item:=λi s Q E hi st hQ=>by refine Zhc st.1 st.2 (x:=items[i]) (by simp[hi]) λh' hit' hs'=>?_;exact hQ _ h' s.toks (by simp[hi]) ⟨hit',st.2.extBut hs'.extBut hne⟩ hs'
 done:=λs Q E st hE=>Zfl hh st.1 st.2 (by simp) hE
theorem Zf0(l:Yz)(items:Array Yg)(n:Nat)(dct:Option Yz)(sl:Array (Option Yg)):
  Meets (Builtin.«enumerate.__new__» ⟨[.type "enumerate",.ref l],[]⟩) (λ_ R s=>s.heap.get? l=Ya {cls:=.type "tuple",dict:=dct,data:=.seq items n,slots:=sl}/\
   R (.ok (.ret (.ref (s.heap.push {cls:=.type "tuple_iterator",data:=.fields #[.ref l,.int 0 0]}).objs.size)))
    {s with heap:=(s.heap.push {cls:=.type "tuple_iterator",data:=.fields #[.ref l,.int 0 0]}).push {cls:=.type "enumerate",data:=.fields #[.none,.bool false,.ref s.heap.objs.size,vM 0,.none,.none]}}):=
 .of_wp λprog w A R s h=>by
  obtain⟨hp,g,d,tk,os⟩:=s;obtain⟨hl,h⟩:=h;have hsub:=sub_enumerate;have hL:Heap.IsTuple (Shared.heap ⟨hp,g,d,tk,os⟩) l items:=⟨_,hl,rfl,n,rfl⟩
  wp_walk using yd hl
  refine wpAny_stack_any λst=>Yw ?_;split
  .rename_i c _ _ _ _ _;cases(c==Value.type "enumerate")
   .wp_walk using yd hl,Bw hL
    exact⟨_,rfl,h⟩
   .wp_walk using yd hl,Bw hL
    exact⟨_,rfl,h⟩
  .wp_walk using yd hl,Bw hL
   exact⟨_,rfl,h⟩
theorem ZfY{prog:cj}{A:cG}{E:Yg->Yh->Prop}{l:Yz}(hL:s.heap.IsTuple l items)(h:∀h',IsEnum h' (s.heap.objs.size+1) s.heap.objs.size 0 .none->h'.IsTupleIter s.heap.objs.size l 0->h'.objs.size=s.heap.objs.size+2 ->
   (∀b o,s.heap.get? b=Ya o->h'.get? b=Ya o)->Q (.ref (s.heap.objs.size+1)) {s with heap:=h'}):
  aA (aN prog w) A (call (.type "enumerate") [.ref l]) Q E s:=by
 obtain⟨⟨c,dct,dt,sl⟩,hl,hc,n,hd⟩:=hL;replace hc:c= .type "tuple":=hc;replace hd:dt= .seq items n:=hd;subst hc hd;refine callType_new F.called_enumerate (by decide) (F.typeCall_enumerate_1 _) (F.newCall_enumerate_1 _) (λobj=>F.args_object_init_2 obj _) F.entry_enumerate_new
  (Zf0 l items n dct sl) ⟨hl,?_⟩
 have hz:(s.heap.push {cls:=.type "tuple_iterator",data:=.fields #[.ref l,.int 0 0]}).objs.size=s.heap.objs.size+1:=U_ ..;show _/\_;rw[hz];have he:IsEnum ((s.heap.push {cls:=.type "tuple_iterator",data:=.fields #[.ref l,.int 0 0]}).push
   {cls:=.type "enumerate",data:=.fields #[.none,.bool false,.ref s.heap.objs.size,vM 0,.none,.none]}) (s.heap.objs.size+1) s.heap.objs.size 0 .none:=by
  have:=jg (s.heap.push {cls:=.type "tuple_iterator",data:=.fields #[.ref l,.int 0 0]})
   (o:={cls:=.type "enumerate",data:=.fields #[.none,.bool false,.ref s.heap.objs.size,vM 0,.none,.none]}) rfl
  rw[hz]at this;exact this
 refine⟨⟨_,he,rfl⟩,h _ he ⟨_,Yo _ (jg _ rfl),rfl,rfl⟩ (by rw[U_,hz]) λb o x=>Yo _ (Yo _ x)⟩
theorem Zno{es:List Expr}{k:Nat}{pos:bQ}(a e it:Yz)(hne:e≠it):
  Turn P w K (.Tuple es k pos) (Ite λH xs=>cZ K H a xs) [e,it] e (λi h=>(∃old,IsEnum h e it i old)/\h.IsTupleIter it a i)where
 mem:=by simp
 obj:=λi h st b hb=>by
  obtain⟨⟨old,he⟩,o,ho,c,d⟩:=st;simp only[Y7,F_,or_false]at hb;rcases hb with rfl|rfl
  .exact⟨_,he,λv z=>by cases z⟩
  .exact⟨o,ho,λv z=>by rw[d]at z;cases z⟩
 keep:=λi h h' st k=>by obtain⟨⟨old,he⟩,hit⟩:=st;exact⟨⟨old,k e (by simp) _ he⟩,hit.at λo q=>k it (by simp) o q⟩
 item:=by
  intro X hP hw hK hc i pins s σ H E I hf st hg;subst hP hw hK;obtain⟨xs,x,hq,hx⟩:=hg;obtain⟨its,rv,p,hz⟩:=I.tuple hq;obtain⟨u,hu,ru⟩:=rv.get hx;obtain⟨⟨old,he⟩,hit⟩:=st;have hel:=Yv he;have hil:it<s.heap.objs.size:=by obtain⟨o,ho,_⟩:=id hit;exact Yv ho
  have pt:s.heap.IsTuple a its.toArray:=p;have hae:e≠a:=by rintro rfl;obtain⟨o,ho,hc,_⟩:=pt;rw[he]at ho;cases ho;exact absurd hc (by simp)
  have hai:a≠it:=by rintro rfl;obtain⟨o,ho,hc,_⟩:=pt;obtain⟨o',ho',hc',_⟩:=hit;rw[ho']at ho;cases ho;rw[hc']at hc;exact absurd hc (by simp)
  have D:=ZlO (prog:=X.prog) (w:=X.w) (A:=X.A.in1) (I.ok.hd hc) it a hai its.toArray;refine wpAny_pyNext_enum_itemD D he ⟨hit,pt⟩ (by simpa using(Yd.mp hu).1) hne (by simp[hne,hae]) λy h' tk hy ho hst hT hsz hk=>?_;have ey:y=u:=by
   have:its.toArray[i]?=Ya u:=by simpa using hu
   rw[this]at hy;cases hy;rfl
  subst ey;refine⟨_,rfl,Ux (s:={s with heap:=h',toks:=tk+1}) ho λh'' Ku hs''=>?_⟩;obtain⟨I2,n2⟩:=ZjZ (x:=x) (tk':=tk+1) I hf hel hil ru hT hk hs'';exact⟨.ref s.heap.objs.size,_,I2,rfl,⟨_,x,rfl,I.hok.fresh (Yk _),rfl,λys hy=>by rw[I.Kd hy hq];exact hx⟩,⟨⟨_,by simpa using Ku⟩,hst.1.extBut hs''.extBut (cU hne)⟩,n2⟩
 done:=by
  intro X hP hw hK hc i pins s σ H E I hf st hg;subst hP hw hK;obtain⟨xs,hq,hx⟩:=hg;obtain⟨its,rv,p,hz⟩:=I.tuple hq;obtain⟨⟨old,he⟩,hit⟩:=st;have hl:=rv.length;have pt:s.heap.IsTuple a its.toArray:=p;have hT:s.TypeIs (.ref e) "enumerate":=⟨_,he,rfl⟩;unfold pY;refine Yf (wpAny_attempt (Bv (name:=vU "__next__") hT Vt
   (yg Vt hT F.entry_enumerate_next ?_ (F.args_enumerate_next_1 _))))
  show aA _ _ (field (.ref e) 2>>=_) _ _ _;refine Yf (t_ he rfl (x:=.ref it) rfl ?_);refine Yf (Zfl (I.ok.hd hc) hit pt (by simp;exact lC 2 2268279672881 T1 hl hx) λh' x he' hx'=>?_);obtain⟨o,ho,hc⟩:=hx';refine Yf (wpAny_isInstance (T:="StopIteration") (b:=true) ⟨o,ho,hc⟩ isSubtype_stop ?_);exact Yw ⟨rfl,I.Kh (t':=s.toks) (λb o hb q=>he' b o (λz=>hb (by simp[z])) q) hf⟩
 self:=λ_ _ _ _ _ st h=>by obtain⟨⟨old,he⟩,_⟩:=st;exact Yes he h
section
variable {X:Cx} {es:List Expr} {k:Nat} {a:Expr} {p pos tpos:bQ} {f:E3}
def Zte(K:Yb)(ta:TA):TI:=λσ H R=>ta σ H λvs H1=>∃b,vs=[.ref b]/\((∃xs,cL K H1 b xs/\R (Ite λH xs=>cL K H b xs) H1)\/∃xs,cZ K H1 b xs/\R (Ite λH xs=>cZ K H b xs) H1)
theorem ZrR{ta:TA}(hg:Gl X "enumerate")(hm:X.mg "enumerate" =Ye)(ha:PA X [a] ta)(hs:cF [a] X.env=[(false,bU a X.env)]:=by rfl):PI X (.Tuple es k tpos) (.Call (.Name "enumerate" p) [a] [] pos) (Zte X.K ta):=by
 intro pins s σ H R I h;refine Call_ (Hf I hg hm boot_enumerate (Mw (a_ (ha pos pins s σ H _ I h) λus s1 ⟨vs,H1,I1,r1,q1⟩=>?_) hs rfl));obtain⟨b,e,q⟩:=q1;subst e;cases r1 with
 | cons r rr=>
  cases rr
  cases r
  have fp:∀{h':aY} {s2:Yh},∀c∈[s1.heap.objs.size+1,s1.heap.objs.size],ju X pins H1 c:=λ{h' s2} c hc=>by
   have hc':s1.heap.objs.size<=c:=by simp only[Y7,F_,or_false]at hc;rcases hc with rfl|rfl <;>omega
   exact I1.u_ hc' (I1.hok.fresh hc')
  rcases q with⟨xs,hq,q⟩|⟨xs,hq,q⟩
  .obtain⟨its,rv,pl,hz⟩:=I1.list hq;refine call_enumerate_list pl.isList λh' hE hI hsz hk=>?_;have I2:Inv X pins σ H1 {s1 with heap:=h'}:=I1.kept (t':=s1.toks) hk;exact Yes (s:={s1 with heap:=h'}) hE ⟨_,[s1.heap.objs.size+1,s1.heap.objs.size],_,_,H1,rfl,I2,Znn b _ _ (T5 _),⟨⟨_,hE⟩,hI⟩,fp (h':=h') (s2:=s1),q⟩
  .obtain⟨its,rv,pl,hz⟩:=I1.tuple hq;refine ZfY (show s1.heap.IsTuple b its.toArray from pl) λh' hE hI hsz hk=>?_;have I2:Inv X pins σ H1 {s1 with heap:=h'}:=I1.kept (t':=s1.toks) hk;exact Yes (s:={s1 with heap:=h'}) hE ⟨_,[s1.heap.objs.size+1,s1.heap.objs.size],_,_,H1,rfl,I2,Zno b _ _ (T5 _),⟨⟨_,hE⟩,hI⟩,fp (h':=h') (s2:=s1),q⟩
theorem Zoo(hm:X.mg "enumerate" =Ye)(h:C3 X a f)(hg:Gl X "enumerate":=by rfl)(hs:cF [a] X.env=[(false,bU a X.env)]:=by rfl)(hs':cF (a::[]) X.env=(false,bU a X.env)::cF [] X.env:=by rfl):CIL X (.Tuple es k tpos) (.Call (.Name "enumerate" p) [a] [] pos) (Dw f):=
 PI.imp (ZrR hg hm (Zc h Zj hs') hs) λσ H R ak=>by
  obtain⟨ι,M,env,S,E,h⟩:=ak;obtain⟨d,M1,e1,h⟩:=Ed.bind h;refine⟨ι,M,env,S,E,?_⟩;have e2:Zb f Zg env M= .ok [d] M1:=by unfold Zb;rw[e1];rfl
  rw[e2];intro vs H1 ι1 x1 S1 r1;obtain⟨v,ws,rfl,r,q⟩:=r1.cons_inv;have:=q.nil_inv;subst this;cases d with
  | tup ds=>
   obtain⟨b,vs,rfl,s,r⟩:=r.fW;refine⟨b,rfl,.inr ⟨vs,s,h _ H1 ι1 x1 S1 ?_⟩⟩;intro i H2 ι2 M2 x S2 _;refine⟨λd hd=>?_,λhl=>⟨vs,x.tup _ _ s,by rw[r.length,hl,PK];exact Yk _⟩⟩;rw[PJ]at hd;cases hq:ds[i]? with
   |none=>rw[hq]at hd;cases hd|some d0=>rw[hq]at hd;simp only[vh,tV,nD]at hd;subst hd;obtain⟨v,hv,rv⟩:=r.get hq;refine⟨⟨vs,v,x.tup _ _ s,hv⟩,λy H3 hy=>?_⟩;obtain⟨T,y',rfl,hT,rfl,hall⟩:=hy;have e:=hall vs (x.tup _ _ s);rw[hv]at e;cases e;exact S2.vd hT (aB.cons Rep.int (aB.cons (rv.mono x) aB.nil))
  | ref n=>
   cases hm:M1[n]? with
   |none=>simp only[hm]at h;exact h.elim|some o=>
    cases o with
    |dct kvs=>simp only[hm]at h;exact h.elim|cC kvs=>simp only[hm]at h;exact h.elim|ins _ _=>simp only[hm]at h;exact h.elim|lst ds=>
     simp only[hm]at h;obtain⟨b,ha,rfl⟩:=r.gF;obtain⟨vs,q,r⟩:=S1.obj n _ b hm ha;refine⟨b,rfl,.inl ⟨vs,cL.of q,h _ H1 ι1 x1 S1 ?_⟩⟩;intro i H2 ι2 M2 x S2 lk;have PQ:M2[n]?=Ya (.lst ds):=by simpa[pC]using lk
     obtain⟨vs2,q2,r2⟩:=S2.obj n _ b PQ (x.pre _ _ ha);refine⟨λd hd=>?_,λhl=>⟨vs2,cL.of q2,by rw[r2.length,hl,PK];exact Yk _⟩⟩;rw[PJ]at hd;cases hq:ds[i]? with
     |none=>rw[hq]at hd;cases hd|some d0=>rw[hq]at hd;simp only[vh,tV,nD]at hd;subst hd;obtain⟨v,hv,rv⟩:=r2.get hq;refine⟨⟨vs2,v,cL.of q2,hv⟩,λy H3 hy=>?_⟩;obtain⟨T,y',rfl,hT,rfl,hall⟩:=hy;have e:=hall vs2 (cL.of q2);rw[hv]at e;cases e;exact S2.vd hT (aB.cons Rep.int (aB.cons rv aB.nil))
  |_=>exact h.elim
end
end L3
namespace L3
open PySem PySem.Spec PyProof.Rows L2
open AutoSeq1 (wpAny_loadPart')
open PySem.SeqAt MeetsSeq
set_option maxRecDepth 100000
theorem Zo0(l b:Yz)(i j k m:Int)(t1 t2 t3 t4:j9)(n n2:Nat)(dd dd2:Option Yz)(sl sl2:Array (Option Yg)):
  Meets (Builtin.«tuple.__le__» ⟨[.ref l,.ref b],[]⟩)
   (λA R s=>s.heap.get? l=Ya {cls:=.type "tuple",dict:=dd,data:=.seq #[.int i t1,.int j t2] n,slots:=sl}/\s.heap.get? b=Ya {cls:=.type "tuple",dict:=dd2,data:=.seq #[.int k t3,.int m t4] n2,slots:=sl2}/\
    R (.ok (.ret (.bool (decide (i<k)|| (decide (i=k)&&decide (j<=m)))))) s):=
 .of_wp λprog w A R s h=>by
  obtain⟨hp,g,d,tk,os⟩:=s;obtain⟨hl,hb,h⟩:=h;have f2:=AutoSeq1.sub_tuple_tuple
  wp_walk using yd hl,yd hb,wpAny_forIn_list _ (λrest b s'=>b.1=Ye/\s'=⟨hp,g,d,tk,os⟩/\((rest=[(.int i t1,.int k t3),(.int j t2,.int m t4)])\/(i=k/\rest=[(.int j t2,.int m t4)])\/(i=k/\j=m/\rest=[]))) _
  case turn=>
   rintro⟨y,x⟩ rest b s' ⟨hb',rfl,hz⟩;rcases hz with hz|⟨rfl,hz⟩|⟨_,_,hz⟩
   .cases hz
    refine Yf (EqAt.int_int i t1 k t3 prog w _ _ ?_);by_cases e:i=k
    .subst e;rw[beq_self_eq_true]
     wp_walk
     exact⟨rfl,rfl,.inr (.inl ⟨rfl,rfl⟩)⟩
    .rw[beq_eq_false_iff_ne.mpr e];rw[if_pos (by rfl)];show aA _ _ (do rule "tuple.compare.by-the-first-pair-that-differs";let r ←richCompare .LtE _ _;let r ←ret r;pure (ForInStep.done (Ya r,()))) _ _ _;refine Yf (BP (Yf (show aA _ _ (gG .LtE _ _) _ _ _ from Vo ?_)))
     wp_walk
     refine⟨_,rfl,?_⟩;have:decide (i<=k)=(decide (i<k)|| decide (i=k)&&decide (j<=m)):=by
      by_cases q:i<k
      .simp[q,Ca q]
      .have:¬i<=k:=by omega
       simp[q,e,this]
     rw[this];exact h
   .cases hz
    refine Yf (EqAt.int_int j t2 m t4 prog w _ _ ?_);by_cases e:j=m
    .subst e;rw[beq_self_eq_true]
     wp_walk
     exact⟨rfl,rfl,.inr (.inr ⟨rfl,rfl,rfl⟩)⟩
    .rw[beq_eq_false_iff_ne.mpr e];rw[if_pos (by rfl)];show aA _ _ (do rule "tuple.compare.by-the-first-pair-that-differs";let r ←richCompare .LtE _ _;let r ←ret r;pure (ForInStep.done (Ya r,()))) _ _ _;refine Yf (BP (Yf (show aA _ _ (gG .LtE _ _) _ _ _ from Vo ?_)))
     wp_walk
     exact⟨_,rfl,by simpa using h⟩
   .cases hz
  case fin=>
   rintro⟨b1,b2⟩ s' ⟨hb',rfl,hz⟩;simp only at hb';subst hb';rcases hz with hz|⟨rfl,hz⟩|⟨rfl,rfl,hz⟩
   .cases hz
   .cases hz
   .wp_walk
    exact⟨_,rfl,by simpa[Builtin.Tuple.tupleCompareSizes]using h⟩
  case h=>exact⟨rfl,rfl,.inl rfl⟩
theorem Zoq{K:Yb}{H:Hp}{ι:List Yz}{i j:Int}{vs:List V}{its:List Yg}(r:aB K H ι [.int i,.int j] vs)(rv:Vals vs its):∃t1 t2,its=[.int i t1,.int j t2]:=by
 obtain⟨v1,vs1,rfl,q1,r⟩:=r.cons_inv;obtain⟨v2,vs2,rfl,q2,r⟩:=r.cons_inv;have:=r.nil_inv;subst this;have e1:=q1.int_inv;have e2:=q2.int_inv;subst e1 e2;cases rv with
 | cons a rv=>
  cases rv with
  |cons b rv=>
   cases rv
   obtain⟨t1,rfl⟩:=a;obtain⟨t2,rfl⟩:=b;exact⟨t1,t2,rfl⟩
theorem Zmk{d:D}:(∃i j,d= .tup [.int i,.int j])\/∀(b:D) (M:Store),za d b M= .bad/\∀i j,za (.tup [.int i,.int j]) d M= .bad:=by
 cases d with
 | tup ds=>cases ds with
  |nil=>exact .inr λ_ _=>⟨rfl,λ_ _=>rfl⟩|cons d ds=>cases d with
   | int i=>cases ds with
    |nil=>exact .inr λ_ _=>⟨rfl,λ_ _=>rfl⟩|cons d ds=>cases d with
     |int j=>cases ds with
      |nil=>exact .inl ⟨i,j,rfl⟩|cons _ _=>exact .inr λ_ _=>⟨rfl,λ_ _=>rfl⟩
     |_=>exact .inr λ_ _=>⟨rfl,λ_ _=>rfl⟩
   |_=>exact .inr λ_ _=>⟨rfl,λ_ _=>rfl⟩
 |_=>exact .inr λ_ _=>⟨rfl,λ_ _=>rfl⟩
theorem ZuP{X:Cx}(hu:X.A.units+80<fX):bf X (gG .LtE) (r2 X.K za):=by
 intro pins s σ H x y v u Q I rx ry ⟨ι,M,a,b,S,ra,rb,h⟩;rcases Zmk (d:=a)with⟨i,j,ea⟩|n
 .rw[ea]at h ra;rcases Zmk (d:=b)with⟨k,l,eb⟩|n
  .rw[eb]at h rb;obtain⟨p,vs,rfl,s1,r1⟩:=ra.fW;cases rx;obtain⟨p',ws,rfl,s2,r2⟩:=rb.fW;cases ry;obtain⟨its,rvs,ht,_⟩:=I.tuple s1;obtain⟨its2,rws,Jk,_⟩:=I.tuple s2;obtain⟨t1,t2,rfl⟩:=Zoq r1 rvs;obtain⟨t3,t4,rfl⟩:=Zoq r2 rws;obtain⟨⟨cls,dd,data,sl⟩,ho,hc,n,hd⟩:=ht;obtain⟨⟨cls2,dd2,data2,sl2⟩,ho2,hc2,n2,hd2⟩:=Jk;simp only at hc hd hc2 hd2;subst hc hd hc2 hd2;exact richCompare_meets_room (op:=.LtE) ⟨_,ho,rfl⟩ ⟨_,ho2,rfl⟩ F.slot_tuple_le F.entry_tuple_le (F.args_tuple_le_2 _ _) (Zo0 p p' i j k l t1 t2 t3 t4 n n2 dd dd2 sl sl2)
    ⟨ho,ho2,show Value.bool _≠Value.notImplemented/\EP X pins σ Q (.bool _) s from⟨(λx=>nomatch x),⟨.bl _,H,I,rfl,h _ H ι Ext.refl S Rep.bl⟩⟩⟩ (lB 1 17666545486865 T1 hu)
  .rw[(n (.non) M).2 i j]at h;exact h.elim
 .rw[(n b M).1]at h;exact h.elim
end L3
namespace L3
open PySem PySem.Spec PyProof.Rows L2
section
variable {X:Cx} {o i p j e:Expr} {pos:bQ} {f g h fo fi fp fj:E3}
def ZvX(K:Yb)(f g:E3):TG:=λv σ H Q=>∃ι M env d r M',aP K H ι M/\cJ K H ι env σ/\Rep K H ι d v/\wL d f g env M= .ok r M'/\∀H' ι',Ext K H ι H' ι'->aP K H' ι' M'->Q σ H'
theorem Zra{spos:bQ}(ho:C3 X o f)(hi:C3 X i g)(ha:∀v,iy (.Subscript o i spos) X.env v=(do
   let ov ←jf [v] (bU o X.env)
   let iv ←jf [v,ov] (bU i X.env)
   vI spos
   jf [v,ov,iv] (vJ ov iv v)
   BR [v,ov,iv] []):=by intro _;rfl):PG X (.Subscript o i spos) (ZvX X.K f g):=PG.imp (WN ho hi set_list ha) λv σ H Q ak=>by
 obtain⟨ι,M,env,d,r,M',S,E,rd,hp,hh⟩:=ak;unfold wL at hp;cases e2:f env M with
 |exc _ _=>rw[e2]at hp;cases hp|bad=>rw[e2]at hp;cases hp|ok b M2=>
  rw[e2]at hp;simp only[R3.bind]at hp;cases e3:g env M2 with
  |exc _ _=>rw[e3]at hp;cases hp|bad=>rw[e3]at hp;cases hp|ok k M3=>
   rw[e3]at hp;simp only at hp;refine⟨ι,M,env,S,E,?_⟩;rw[e2];intro x H2 ι2 x2 S2 r2;refine⟨ι2,M2,env,S2,E.mono x2,?_⟩;rw[e3];intro y H3 ι3 x3 S3 r3;cases b with
   | ref n=>
    cases k with
    | int j=>
     simp only[Dg]at hp;cases hn:M3[n]? with
     |none=>simp only[hn]at hp;cases hp|some ob=>
      cases ob with
      |dct _=>simp only[hn]at hp;cases hp|cC _=>simp only[hn]at hp;cases hp|ins _ _=>simp only[hn]at hp;cases hp|lst xs=>
       simp only[hn]at hp;cases hj:kE xs.length j with
       |none=>simp only[hj]at hp;cases hp|some q=>simp only[hj]at hp;cases hp;obtain⟨ad,ha,rfl⟩:=(r2.mono x3).gF;obtain⟨ws,hw,kr⟩:=S3.obj n _ ad hn ha;obtain⟨x4,S4⟩:=S3.Fq (.inr (.inl ⟨_,hw⟩)) ha (kr.set q ((rd.mono x2).mono x3));exact⟨ad,ws,j,q,rfl,r3.int_inv,hw,by rw[kr.length];exact hj,hh _ _ ((x2.trans x3).trans x4) S4⟩
    |_=>cases hp
   |_=>cases hp
theorem Zq2{k:Nat}{tpos spos l_:bQ}(hc:X.calm=true)(he:C3 X e f)(ho:C3 X o fo)(hi:C3 X i fi)(hp:C3 X p fp)(hj:C3 X j fj)(hs:BJ [.Tuple [.Subscript o i spos,.Subscript p j l_] k tpos] e pos.line X.env=pure false:=by rfl)(hw:BK [.Tuple [.Subscript o i spos,.Subscript p j l_] k tpos] e X.env=pure Ye:=by rfl)(h1:(fO [.Tuple [.Subscript o i spos,.Subscript p j l_] k tpos] X.env).map (·.2)=[iy (.Tuple [.Subscript o i spos,.Subscript p j l_] k tpos) X.env]:=by rfl)(ha:∀v,iy (.Subscript o i spos) X.env v=(do
   let ov ←jf [v] (bU o X.env)
   let iv ←jf [v,ov] (bU i X.env)
   vI spos
   jf [v,ov,iv] (vJ ov iv v)
   BR [v,ov,iv] []):=by intro _;rfl)(hb:∀v,iy (.Subscript p j l_) X.env v=(do
   let ov ←jf [v] (bU p X.env)
   let iv ←jf [v,ov] (bU j X.env)
   vI l_
   jf [v,ov,iv] (vJ ov iv v)
   BR [v,ov,iv] []):=by intro _;rfl)(hn:(fO [.Subscript o i spos,.Subscript p j l_] X.env).length=2:=by rfl)(hst:(fO [.Subscript o i spos,.Subscript p j l_] X.env).findIdx? (·.1)=Ye:=by rfl)(hs1:(fO (.Subscript o i spos::[.Subscript p j l_]) X.env).map (·.2)=iy (.Subscript o i spos) X.env::(fO [.Subscript p j l_] X.env).map (·.2):=by rfl)(hs2:(fO (.Subscript p j l_::[]) X.env).map (·.2)=iy (.Subscript p j l_) X.env::(fO [] X.env).map (·.2):=by rfl):
  CS X (.Assign [.Tuple [.Subscript o i spos,.Subscript p j l_] k tpos] e pos) (Io f fo fi fp fj):=
 (Hh he (WM (n:=2) hc (NZ (Zra ho hi ha) (NZ (Zra hp hj hb) WL hs2) hs1) hn hst) hs hw h1).imp λD σ H ak=>by
 obtain⟨ι,M,env,S,E,hh⟩:=ak;refine⟨ι,M,env,S,E,?_⟩;unfold Io at hh;cases q:f env M with
 |exc x M1=>rw[q]at hh;exact hh.elim|bad=>rw[q]at hh;exact hh.elim|ok d M1=>
  rw[q]at hh;split at hh
  .rename_i x y M1' heq;cases heq;cases q1:wL x fo fi env M1 with
   |exc _ _=>rw[q1]at hh;exact hh.elim|bad=>rw[q1]at hh;exact hh.elim|ok r1 M2=>
    rw[q1]at hh;simp only at hh;cases q2:wL y fp fj env M2 with
    |exc _ _=>rw[q2]at hh;exact hh.elim|bad=>rw[q2]at hh;exact hh.elim|ok r2 M3=>rw[q2]at hh;simp only at hh;intro v H1 ι1 x1 S1 rv;obtain⟨a,vs,rfl,sq,rl⟩:=rv.fW;obtain⟨v1,ws,rfl,rx,rl⟩:=rl.cons_inv;obtain⟨v2,ws,rfl,ry,rl⟩:=rl.cons_inv;have:=rl.nil_inv;subst this;refine⟨a,[v1,v2],rfl,sq,rfl,v1,[v2],rfl,ι1,M1,env,x,r1,M2,S1,E.mono x1,rx,q1,λH2 ι2 x2 S2=>?_⟩;exact⟨v2,[],rfl,ι2,M2,env,y,r2,M3,S2,(E.mono x1).mono x2,ry.mono x2,q2,λH3 ι3 x3 S3=>⟨rfl,hh σ H3 ι3 ((x1.trans x2).trans x3) S3 (((E.mono x1).mono x2).mono x3)⟩⟩
  .exact hh.elim
end
section
variable {prog:cj} {w:bO} {A:cG} {E:Yg->Yh->Prop} {s:Yh}
theorem ZkD{it t:Yz}{items:Array Yg}(hne:t≠it):∀(n i:Nat) (s:Yh) (Q:List Yg->Yh->Prop),s.heap.IsListIter it t i->s.heap.IsList t items->i+n<=items.size ->
  (∀h',h'.IsListIter it t (i+n)->yq it s.heap h'->Q ((items.toList.drop i).take n) {s with heap:=h'})->aA (aN prog w) A (draw (.ref it) n) Q E s
 |0,i,s,Q,hit,_,_,hQ=>by show aA _ _ (pure []) Q E s;exact Yw (by simpa using hQ s.heap hit (Heap.SameBut.refl ..))|n+1,i,s,Q,hit,ht,hle,hQ=>by
  have hlt:i<items.size:=lC 1 2204024704001 T1 hle;show aA _ _ (pY (.ref it)>>=_) Q E s;refine Yf (Uz hit ht (x:=items[i]) (by simp[hlt]) λh₁ Kv Ef=>?_);refine Yf (j6 (ZkD hne n (i+1) _ _ Kv (ht.extBut Ef.extBut hne) (lC 1 0x21a0cc02a1c0c01 T1 hle) λh₂ Abd hs₂=>Yw ?_));have hd:items.toList.drop i=items[i]::items.toList.drop (i+1):=by simp[Bp,hlt]
  have:=hQ h₂ (by rw[show i+(n+1)=i+1+n by exact Yt (lB 0 1790139547840 T1) (lB 0 0xa1c0c1a0cc0 T1)];exact Abd) (Ef.trans hs₂);rw[hd,List.take_succ_cons]at this;exact this
theorem ZhP{t:Yz}{items:Array Yg}{Q:List Yg->Yh->Prop}(hh:A.handled=Ye)(ht:s.heap.IsList t items)(hQ:∀h',Mi s.heap.objs.size s.heap h'->Q items.toList {s with heap:=h'}):aA (aN prog w) A (unpackItems (.ref t) items.size Ye) Q E s:=by
 have hlt:t≠s.heap.objs.size:=by obtain⟨o,ho,_⟩:=ht;exact dU (Yv ho)
 have hT:s.TypeIs (.ref t) "list":=by obtain⟨o,ho,hc,_⟩:=ht;exact⟨o,ho,hc⟩
 unfold unpackItems;refine Yf ?_
 .unfold notIterableAtAll;refine Yf (U5 hT F.slot_list_iter.lookup ?_);refine Yw ?_;simp only[jr,if_false];refine Yf (j6 (UT ht ?_));have htp:(s.heap.push {cls:=.type "list_iterator",data:=.fields #[.ref t,.int 0 0]}).IsList t items:=ht.at λo e=>Yo _ e;refine Yf (j6 (ZkD hlt items.size 0 _ _ ⟨_,jg _ rfl,rfl,rfl⟩ htp (lA 0 3776 T1) λh₁ Kv Ef=>?_));have hall:List.take items.size (List.drop 0 items.toList)=items.toList:=by
   rw[Gb];exact tY (by simp)
  rw[hall];rw[if_neg (by simp)];have ht₁:h₁.IsList t items:=htp.extBut Ef.extBut hlt;refine Yf (j6 (UG hh Kv ht₁ (by simp) λh₂ he₂=>?_));simp only[Option.isSome_none,jr,if_false];refine Yw (hQ h₂ λb o hb e=>he₂ b o hb (Ef.extBut b o hb (Yo _ e)))
theorem Zg9{env:gH}{elts:List Expr}{x1}{pos:bQ}{t:Yz}{items:Array Yg}{Q:Unit->Yh->Prop}(hh:A.handled=Ye)(ht:s.heap.IsList t items)(hn:(fO elts env).length=items.size)(hstar:(fO elts env).findIdx? (·.1)=Ye)(h:∀h',Mi s.heap.objs.size s.heap h'->aA (aN prog w) A (assignInOrder ((fO elts env).map (·.2)) items.toList) Q E {s with heap:=h'}):
  aA (aN prog w) A (iy (.Tuple elts x1 pos) env (.ref t)) Q E s:=by
 rw[assign_Tuple];refine Yf (Gg ?_);unfold unpack;rw[hn,hstar];exact Yf (j6 (ZhP hh ht h))
end
section
variable {X:Cx} {e:Expr} {es:List Expr} {pos:bQ} {f:E3}
def ZwD(K:Yb)(n:Nat)(t:o7):TG:=λv σ H Q=>∃a xs,v= .ref a/\cL K H a xs/\xs.length=n/\t xs σ H Q
theorem Zs1{k:Nat}{t:o7}{n:Nat}(hc:X.calm=true)(h:o8 X es t)(hn:(fO es X.env).length=n:=by rfl)(hst:(fO es X.env).findIdx? (·.1)=Ye:=by rfl):PG X (.Tuple es k pos) (ZwD X.K n t):=by intro pins s σ H v u Q I r hw;obtain⟨a,xs,e1,hq,hl,hw⟩:=hw;subst e1;cases r;obtain⟨its,rv,ht,hz⟩:=I.list hq;refine Zg9 (I.ok.hd hc) ht.isList (by simp[hn,←hl,rv.length]) hst λh' hx=>?_;have I1:Inv X pins σ H {s with heap:=h'}:=I.kept (t':=s.toks) λb o e=>hx b o (dU (Yv e)) e;exact h pins _ σ H xs _ Q I1 (by simpa using rv) hw
theorem Zl4:∀(is:List Nat) (ds:List D) (env env':bI),bindAll is ds env=Ya env'->ds.length=is.length:=by
 intro is
 induction is with
 |nil=>intro ds env env' h;cases ds with|nil=>rfl|cons d ds=>cases h
 |cons i is ih=>intro ds env env' h;cases ds with|nil=>cases h|cons d ds=>simp[ih ds _ _ h]
theorem Zog{is:List Nat}{k:Nat}{tpos:bQ}(hc:X.calm=true)(he:C3 X e f)(h:DN X es is)(hs:BJ [.Tuple es k tpos] e pos.line X.env=pure false:=by rfl)(hw:BK [.Tuple es k tpos] e X.env=pure Ye:=by rfl)(h1:(fO [.Tuple es k tpos] X.env).map (·.2)=[iy (.Tuple es k tpos) X.env]:=by rfl)(hn:(fO es X.env).length=is.length:=by rfl)(hst:(fO es X.env).findIdx? (·.1)=Ye:=by rfl):CS X (.Assign [.Tuple es k tpos] e pos) (sS f is):=
 (Hh he (Zs1 (n:=is.length) hc h hn hst) hs hw h1).imp λD σ H ak=>by
 obtain⟨ι,M,env,S,E,hh⟩:=ak;refine⟨ι,M,env,S,E,?_⟩;unfold sS at hh;cases q:f env M with
 |exc x M1=>rw[q]at hh;exact hh.elim|bad=>rw[q]at hh;exact hh.elim|ok d M1=>
  rw[q]at hh;cases d with
  | ref n=>
   simp only at hh;cases hm:M1[n]? with
   |none=>simp only[hm]at hh;exact hh.elim|some o=>
    cases o with
    |dct _=>simp only[hm]at hh;exact hh.elim|cC _=>simp only[hm]at hh;exact hh.elim|ins _ _=>simp only[hm]at hh;exact hh.elim|lst ds=>
     simp only[hm]at hh;cases qb:bindAll is ds env with
     |none=>simp only[qb]at hh;exact hh.elim|some dO=>simp only[qb]at hh;intro v H1 ι1 x1 S1 r1;obtain⟨a,ha,rfl⟩:=r1.gF;obtain⟨vs,hv,rv⟩:=S1.obj n _ a hm ha;exact⟨a,vs,rfl,cL.of hv,by rw[rv.length];exact Zl4 _ _ _ _ qb,ι1,M1,env,ds,dO,S1,E.mono x1,rv,qb,λσ' E'=>hh σ' H1 ι1 x1 S1 E'⟩
  |_=>exact hh.elim
end
open PySem PySem.W PyProof.Rows
section
variable {M:Model} {A:cG} {E:Yg->Yh->Prop} {G:Yh->Prop}
def TT(M:Model)(A:cG)(E:Yg->Yh->Prop)(G:Yh->Prop){α:Type}(m:StateT SortSt pZ α)(Q:α->SortSt->Prop)(st:SortSt):Prop:=∀s,G s->kasC M A E m (λa st' s'=>Q a st'/\G s') st s
end
end L3
namespace L3
open PySem PySem.Spec PyProof.Rows L2
noncomputable def QH(K:Yb)(d:List aj)(v:Yg):Bool:=match v with
 | .ref a=>(match K.lookup a with
  |some o=>o.cls== .type "tuple" &&o.dict.isNone&&(match o.data with| .seq vs _=>decide (vs.size<=1000)&&KTD.strsLook vs.toList d|_=>false)
  |none=>false)
 |_=>false
noncomputable def ZvZ(t:Ip):List (aj×List aj):=t.map λp=>(⟨p.1.toArray⟩,p.2.map λy=>⟨y.toArray⟩)
def ZvL(K:Yb)(d:List aj)(v:Yg):Prop:=∃a,v= .ref a/\∀H,cZ K H a (d.map V.str)
theorem ZoJ:∀{vs:List Yg} {d:List aj},StrsAre vs d->Vals (d.map V.str) vs:=by
 intro vs d h
 induction h with
 |nil=>exact .nil|cons _ _ _ ih=>exact .cons ⟨_,rfl⟩ ih
theorem ZrX{K:Yb}{d:List aj}{v:Yg}(h:QH K d v=true):ZvL K d v:=by
 unfold QH at h;split at h
 .rename_i a;refine⟨a,rfl,λH=>?_⟩;split at h
  .rename_i o ho;simp only[Y0]at h;obtain⟨⟨h1,h2⟩,h3⟩:=h;split at h3
   .rename_i vs n hd;simp only[Y0,decide_eq_true_eq]at h3;exact .inr ⟨o,vs,n,ho,⟨beq_iff_eq.mp h1,by simpa using h2⟩,hd,Y4 h3.1 (by rw[j7];decide),ZoJ (KTD.strs_of_look h3.2)⟩
   .cases h3
  .cases h
 .cases h
abbrev Zve(K:Yb)(a:Yz)(t:Ip):Prop:=KTD.tabLook (QH K) (λb=>K.lookup b) a (ZvZ t)=true
theorem Zve.at{K:Yb}{a:Yz}{t:Ip}{h:aY}(T:Zve K a t)(X:K.In h):Cj (ZvL K) h a (ZvZ t):=KTD.tab_of_look (λ_ _ q=>ZrX q) X T
section
variable {prog:cj} {w:bO} {A:cG} {E:Yg->Yh->Prop} {s:Yh} {a:Yz} {K:Yb} {t:Ip} {x:List Nat} {tk:j9}
theorem Zrl{δ:Type}{R:δ->Yg->Prop}{T:List (aj×δ)}(h:Cj R s.heap a T):s.TypeIs (.ref a) "dict":=let⟨_,o,_,_,ho,hc,_⟩:=h;⟨o,ho,hc.1⟩
theorem Zp2{δ:Type}{R:δ->Yg->Prop}{T:List (aj×δ)}{k:aj}{Q:Option Yg->Yh->Prop}(h:Cj R s.heap a T)(hs:∀d v,vV k T=Ya d->R d v->Q (Ya v) {s with toks:=s.toks+1})(hn:vV k T=Ye->Q Ye {s with toks:=s.toks+1}):aA (aN prog w) A (dictGet a (.str k tk)) Q E s:=by
 obtain⟨_,o,es,ep,ho,hc,hd,hr⟩:=h;unfold dictGet
 try with_reducible refine j6 ?_
 refine Yf (UW (Yf (KTD.kt_dictFind_strs (s:={s with toks:=s.toks+1}) ho hd (by obtain⟨es⟩:=es;simpa using hr.exact) ?_)));have key:Q (findBy (λq v=>v.isStr q) es k) {s with toks:=s.toks+1}:=by
  rw[show findBy (λq v=>v.isStr q) es k=(es.toList.find? λz=>z.key.isStr k).map (·.val)by obtain⟨es⟩:=es;simp[findBy]];cases e:vV k T with
  |none=>rw[hr.find_none e];exact hn e|some d=>obtain⟨v,hv,r⟩:=hr.find_some e;rw[hv];exact hs d v e r
 rw[findBy_of_findIdx?]at key;cases e:es.findIdx? λz=>z.key.isStr k with
 |none=>rw[e]at key;exact Yw key|some j=>rw[e]at key;exact Yf (wpAny_dictEntries (s:={s with toks:=s.toks+1}) ho hd (Yw key))
theorem ZoL{R:List aj->Yg->Prop}{T:List (aj×List aj)}{k:aj}:
  MeetsIn prog w (Builtin.«dict.get» ⟨[.ref a,.str k tk],[]⟩) λ_ Z s=>Cj R s.heap a T/\(∀d v,vV k T=Ya d->R d v->Z (.ok (.ret v)) {s with toks:=s.toks+1})/\(vV k T=Ye->Z (.ok (.ret .none)) {s with toks:=s.toks+1}):=
 .of_wp λA Z s zz=>by obtain⟨h,h1,h2⟩:=zz;show aA _ _ (dictGet a (.str k tk)>>=λo=>_) _ _ s;refine Yf (Zp2 h (λd v e r=>Yw ⟨v,rfl,h1 d v e r⟩) λe=>?_);show aA _ _ (Builtin.Dict.missed a (.str k tk)>>=λo=>_) _ _ _;exact Yf (wpAny_missed_other h.1 (Yw ⟨Value.none,rfl,h2 e⟩))
theorem Eg{R:List aj->Yg->Prop}{T:List (aj×List aj)}{k:aj}{Q:Yg->Yh->Prop}(h:Cj R s.heap a T)(h1:∀d v,vV k T=Ya d->R d v->Q v {s with toks:=s.toks+1})(h2:vV k T=Ye->Q .none {s with toks:=s.toks+1}):aA (aN prog w) A (call (.builtin "dict.get") [.ref a,.str k tk]) Q E s:=Lz GK (Zrl h) M7 (PySem.F.args_dict_get_2 _ _) (ZoL (R:=R) (T:=T)) ⟨h,h1,h2⟩
end
end L3
set_option maxHeartbeats 400000
namespace Law
open PySem L3
noncomputable section
def Zhz:S3:=Zu (aD (e2 aC (e2 Ze (Za 0) (eC (.int 0))) (eC (.str [106,117,109,112]))) (aq (e2 Ze (Za 0) (eC (.int 1)))) (aK)) (Zu (aD (eN (e2 aC (e2 Ze (Za 0) (eC (.int 0))) (eC (.str [119,104,101,110]))) (e2 lG (e2 Ze (Za 2) (e2 Ze (Za 0) (eC (.int 1)))) (eC (.int 0)))) (aq (e2 Ze (Za 0) (eC (.int 2)))) (aK)) (aq (e2 aM (Za 1) (eC (.int 1)))))
def zE:F3:=bR 3 3 Zhz
def Eh:S3:=Zu (aD (e2 aC (Za 0) (eC (.str [97,100,100]))) (aq (e2 aM (Za 1) (Za 2))) (aK)) (Zu (aD (e2 aC (Za 0) (eC (.str [115,117,98]))) (aq (e2 eO (Za 1) (Za 2))) (aK)) (aq (nP (e2 lG (Za 1) (Za 2)) (eC (.int 1)) (eC (.int 0)))))
def pK:F3:=bR 3 3 Eh
def Zjw:S3:=aq (e2 aM (e2 aM (bj (Za 0) (bB) (bD (Za 1))) (aR (Zb (Za 2) (Zg)))) (bj (Za 0) (bD (e2 aM (Za 1) (eC (.int 1)))) (bB)))
def qK:F3:=bR 3 3 Zjw
def Zhy:S3:=aq (g8 yP wz (au yR (Zb (Za 0) (Zg))) (Zb (Za 1) (Zb (eC (.int 0)) (Zg))))
def Ei:F3:=bR 2 2 Zhy
def QJ:S3:=Zu (ao 3 (e2 Ze (Za 0) (eC (.int 0)))) (Zu (aD (e2 aC (Za 3) (eC (.str [112,117,116]))) (aq (aH qK (Zb (Za 1) (Zb (e2 Ze (Za 0) (eC (.int 1))) (Zb (e2 Ze (Za 0) (eC (.int 2))) (Zg)))))) (aK)) (Zu (aD (e2 aC (Za 3) (eC (.str [103,101,116]))) (aq (aH qK (Zb (Za 1) (Zb (e2 Ze (Za 0) (eC (.int 1))) (Zb (aH Ei (Zb (Za 2) (Zb (e2 Ze (Za 1) (e2 Ze (Za 0) (eC (.int 2)))) (Zg)))) (Zg)))))) (aK)) (Zu (aD (e2 qC (Za 3) (aR (Zb (eC (.str [97,100,100])) (Zb (eC (.str [115,117,98])) (Zb (eC (.str [109,111,114,101])) (Zg)))))) (aq (aH qK (Zb (Za 1) (Zb (e2 Ze (Za 0) (eC (.int 1))) (Zb (aH pK (Zb (Za 3) (Zb (e2 Ze (Za 1) (e2 Ze (Za 0) (eC (.int 2)))) (Zb (e2 Ze (Za 1) (e2 Ze (Za 0) (eC (.int 3)))) (Zg))))) (Zg)))))) (aK)) (aq (Za 1)))))
def Jl:F3:=bR 3 4 QJ
def QK:S3:=aq (eN (e2 Hy (Za 0) (eC (.int 0))) (e2 yM (Za 0) (Za 1)))
def sW:F3:=bR 2 2 QK
def ZmV:S3:=aq (e2 qC (e2 Ze (Za 0) (eC (.int 0))) (aR (Zb (eC (.str [103,101,116])) (Zb (eC (.str [115,101,116])) (Zg)))))
def pM:F3:=bR 1 1 ZmV
def Jm:S3:=aq (nP (e2 aC (e2 Ze (Za 0) (eC (.int 0))) (eC (.str [103,101,116]))) (e2 Ze (Za 1) (e2 Ze (Za 0) (eC (.int 2)))) (e2 Ze (Za 1) (e2 Ze (Za 0) (eC (.int 1)))))
def qL:F3:=bR 2 2 Jm
def ZlP:S3:=aq (nP (aH sW (Zb (Za 1) (Zb (au bw (Zb (Za 0) (Zg))) (Zg)))) (e2 Ze (Za 0) (Za 1)) (eC .non))
def qM:F3:=bR 2 2 ZlP
def Zga:S3:=Zu (aD (e2 aC (e2 Ze (Za 0) (eC (.int 0))) (eC (.str [103,101,116]))) (aq (aH qK (Zb (Za 1) (Zb (e2 Ze (Za 0) (eC (.int 1))) (Zb (e2 Ze (Za 2) (e2 Ze (Za 0) (eC (.int 1)))) (Zg)))))) (aK)) (aq (aH Jl (Zb (Za 0) (Zb (Za 1) (Zb (aR (Zg)) (Zg))))))
def wY:F3:=bR 3 3 Zga
def Zh3:S3:=Zu (ao 3 (e2 Ze (Za 1) (eC (.int 0)))) (Zu (ao 4 (e2 Ze (Za 1) (eC (.int 1)))) (Zu (ao 5 (aH qM (Zb (Za 0) (Zb (Za 3) (Zg))))) (Zu (aD (iM (e2 su (Za 5) (eC .non)) (e2 aC (e2 Ze (Za 5) (eC (.int 0))) (eC (.str [104,97,108,116])))) (aq (eC (.bl false))) (aK)) (aq (e2 aC (Za 2) (aR (Zb (aH zE (Zb (Za 5) (Zb (Za 3) (Zb (Za 4) (Zg))))) (Zb (aH wY (Zb (Za 5) (Zb (Za 4) (Zb (e2 Ze (Za 2) (eC (.int 1))) (Zg))))) (Zg)))))))))
def zF:F3:=bR 3 6 Zh3
def ZiJ:S3:=Zu (aD (eN (e2 lH (Za 0) (eC .non)) (e2 za (bj (Za 1) (bB) (bD (eC (.int 2)))) (bj (Za 0) (bB) (bD (eC (.int 2)))))) (aq (eC (.bl false))) (aK)) (Zu (aD (e2 dw (e2 Ze (Za 1) (eC (.int 2))) (eC (.str [103,101,116]))) (aq (eC (.bl true))) (aK)) (Zu (ao 2 (eN (e2 lH (Za 0) (eC .non)) (e2 aC (e2 Ze (Za 0) (eC (.int 0))) (e2 Ze (Za 1) (eC (.int 0)))))) (aq (e2 aC (e2 Ze (Za 1) (eC (.int 3))) (nP (Za 2) (e2 Ze (Za 0) (eC (.int 3))) (eC (.int 0)))))))
def wZ:F3:=bR 2 3 ZiJ
def ZgJ:S3:=Zu (ao 3 (e2 Ze (Za 2) (eC (.int 1)))) (Zu (aD (e1 jj (aH sW (Zb (Za 3) (Zb (e2 eO (au bw (Zb (Za 1) (Zg))) (eC (.int 1))) (Zg))))) (aq (eC (.bl false))) (aK)) (Zu (ao 4 (e2 Ze (e2 Ze (Za 1) (Za 3)) (eC (.int 1)))) (Zu (ao 5 (aH qM (Zb (Za 0) (Zb (e2 Ze (e2 Ze (Za 1) (Za 3)) (eC (.int 0))) (Zg))))) (Zu (aD (iM (e2 su (Za 5) (eC .non)) (iM (e1 jj (aH pM (Zb (Za 5) (Zg)))) (e2 dw (e2 Ze (Za 2) (eC (.int 2))) (e2 Ze (Za 5) (eC (.int 0)))))) (aq (eC (.bl false))) (aK)) (Zu (aD (e2 dw (e2 Ze (Za 2) (eC (.int 0))) (aH qL (Zb (Za 5) (Zb (Za 4) (Zg))))) (aq (eC (.bl false))) (aK)) (Zu (aD (e2 aC (e2 Ze (Za 5) (eC (.int 0))) (eC (.str [103,101,116]))) (aq (e2 aC (e2 Ze (Za 2) (eC (.int 3))) (e2 Ze (e2 Ze (e2 Ze (Za 1) (e2 aM (Za 3) (eC (.int 1)))) (eC (.int 1))) (e2 Ze (Za 5) (eC (.int 1)))))) (aK)) (aq (e2 aC (e2 Ze (Za 2) (eC (.int 3))) (e2 Ze (Za 4) (e2 Ze (Za 5) (eC (.int 2))))))))))))
def w5:F3:=bR 3 6 ZgJ
def ZeE:S3:=Zu (sG (jP (e2 eO (au bw (Zb (Za 1) (Zg))) (eC (.int 1)))) (dz 2) (aD (e1 jj (aH zF (Zb (Za 0) (Zb (e2 Ze (Za 1) (Za 2)) (Zb (e2 Ze (Za 1) (e2 aM (Za 2) (eC (.int 1)))) (Zg)))))) (aq (Za 2)) (aK))) (aq (eC .non))
def Jo:F3:=bR 2 3 ZeE
def QL:S3:=Zu (ao 2 (Za 0)) (Zu (y_ (Dw (Za 1)) (jA [3,4]) (Zu (aD (e1 jj (aH wZ (Zb (Za 2) (Zb (Za 4) (Zg))))) (aq (Za 3)) (aK)) (ao 2 (Za 4)))) (aq (eC .non)))
def Ej:F3:=bR 2 5 QL
def ZdL:S3:=Zu (y_ (Dw (Za 2)) (jA [3,4]) (aD (e1 jj (aH w5 (Zb (Za 0) (Zb (Za 1) (Zb (Za 4) (Zg)))))) (aq (Za 3)) (aK))) (aq (eC .non))
def Ek:F3:=bR 3 5 ZdL
def Zfd:S3:=Zu (aD (iM (e2 aC (au bw (Zb (Za 2) (Zg))) (eC (.int 0))) (e2 dw (e2 Ze (Za 2) (eC (.int 0))) (aR (Zb (eC (.int 0)) (Zb (Za 1) (Zg)))))) (aq (aR (Zb (eC (.str [98,101,103,105,110])) (Zb (eC (.int 0)) (Zg))))) (aK)) (Zu (ao 3 (aH Jo (Zb (Za 0) (Zb (Za 2) (Zg))))) (Zu (aD (e2 lH (Za 3) (eC .non)) (aq (aR (Zb (eC (.str [115,116,101,112])) (Zb (Za 3) (Zg))))) (aK)) (Zu (ao 4 (e2 eO (au bw (Zb (Za 2) (Zg))) (eC (.int 1)))) (Zu (aD (e2 dw (aH qM (Zb (Za 0) (Zb (e2 Ze (e2 Ze (Za 2) (Za 4)) (eC (.int 0))) (Zg)))) (aR (Zb (eC (.str [104,97,108,116])) (Zg)))) (aq (aR (Zb (eC (.str [101,110,100])) (Zb (Za 4) (Zg))))) (aK)) (aq (eC .non))))))
def Jp:F3:=bR 3 5 Zfd
def QM:S3:=Zu (ao 3 (aH Ej (Zb (eC .non) (Zb (Za 2) (Zg))))) (Zu (aD (e2 lH (Za 3) (eC .non)) (aq (aR (Zb (eC (.str [117,115,101])) (Zb (Za 3) (Zg))))) (aK)) (Zu (ao 4 (aH Ek (Zb (Za 0) (Zb (Za 1) (Zb (Za 2) (Zg)))))) (Zu (aD (e2 lH (Za 4) (eC .non)) (aq (aR (Zb (eC (.str [109,97,116,99,104])) (Zb (Za 4) (Zg))))) (aK)) (Zu (ao 5 (gh (jO (bj (Za 1) (bB) (bD (e1 mF (eC (.int 1)))))) 1 (dz 6) [aH pM (Zb (e2 Ze (Za 0) (e2 Ze (Za 6) (eC (.int 0)))) (Zg))] (Za 6))) (Zu (aD (e2 dw (au bw (Zb (Za 2) (Zg))) (au bw (Zb (Za 5) (Zg)))) (aq (aR (Zb (eC (.str [99,111,117,110,116])) (Zb (au bw (Zb (Za 2) (Zg))) (Zg))))) (aK)) (aq (eC .non)))))))
def El:F3:=bR 3 6 QM
def Zov:S3:=Zu (ao 4 (aH Jp (Zb (Za 0) (Zb (Za 1) (Zb (Za 2) (Zg)))))) (aq (nP (e2 lH (Za 4) (eC .non)) (Za 4) (aH El (Zb (Za 0) (Zb (Za 2) (Zb (Za 3) (Zg)))))))
def Em:F3:=bR 4 5 Zov
def En:S3:=Zu (aD (iM (e2 nQ (Za 0) (e1 mF (e2 yL (eC (.int 10)) (eC (.int 6))))) (e2 Hy (Za 0) (e2 yL (eC (.int 10)) (eC (.int 6))))) (aq (Za 0)) (aK)) (Zu (ao 2 (e2 aM (e2 aM (e2 aM (e2 gY (eC (.int 31)) (Za 0)) (e2 gY (Za 1) (Za 1))) (e2 gY (eC (.int 17)) (Za 1))) (eC (.int 2000033)))) (Zu (ao 2 (e2 aZ (e2 gY (e2 aM (Za 0) (eC (.int 1000003))) (Za 2)) (eC (.int 2147483629)))) (aq (e2 aM (e2 gY (Za 2) (Za 2)) (e2 b_ (Za 2) (eC (.int 7)))))))
def g_:F3:=bR 2 3 En
def Eo:S3:=Zu (aD (e2 yM (e2 aZ (Za 0) (eC (.int 3))) (eC (.int 2))) (aq (e2 eO (e2 aZ (e2 b_ (Za 0) (eC (.int 3))) (eC (.int 7))) (eC (.int 3)))) (aK)) (Zu (aD (e2 aC (e2 aZ (e2 b_ (Za 0) (eC (.int 3))) (eC (.int 2))) (eC (.int 0))) (aq (e2 aZ (e2 b_ (Za 0) (eC (.int 6))) (e2 yL (eC (.int 10)) (eC (.int 30))))) (aK)) (aq (e1 mF (e2 aZ (e2 b_ (Za 0) (eC (.int 6))) (e2 yL (eC (.int 10)) (eC (.int 30)))))))
def kJ:F3:=bR 1 1 Eo
def Jq:S3:=Zu (ao 3 (aH g_ (Zb (Za 0) (Zb (Za 1) (Zg))))) (Zu (ao 4 (b8 (Zb (eC (.str [112,117,116])) (Zb (eC (.str [112,117,116])) (Zb (eC (.str [97,100,100])) (Zb (eC (.str [115,117,98])) (Zb (eC (.str [109,111,114,101])) (Zb (eC (.str [103,101,116])) (Zb (eC (.str [103,101,116])) (Zb (eC (.str [103,101,116])) (Zb (eC (.str [115,101,116])) (Zb (eC (.str [115,101,116])) (Zb (eC (.str [115,101,116])) (Zb (eC (.str [115,101,116])) (Zg))))))))))))))) (Zu (ao 5 (e2 Ze (e2 aM (Za 4) (b8 (Zb (eC (.str [106,117,109,112])) (Zb (eC (.str [119,104,101,110])) (Zb (eC (.str [119,104,101,110])) (Zb (eC (.str [116,101,108,108])) (Zg))))))) (e2 aZ (Za 3) (eC (.int 16))))) (Zu (ao 3 (e2 b_ (Za 3) (eC (.int 16)))) (Zu (aD (e2 aC (e2 aZ (Za 3) (eC (.int 41))) (eC (.int 7))) (aq (aR (Zb (eC (.str [104,97,108,116])) (Zg)))) (aK)) (Zu (ao 6 (e2 aZ (Za 3) (eC (.int 8)))) (Zu (ao 7 (e2 aZ (e2 b_ (Za 3) (eC (.int 8))) (eC (.int 8)))) (Zu (ao 8 (e2 aZ (e2 b_ (Za 3) (eC (.int 64))) (eC (.int 8)))) (Zu (ao 9 (e2 aM (e2 aM (Za 1) (eC (.int 1))) (e2 aZ (e2 b_ (Za 3) (eC (.int 32))) (e2 eO (Za 2) (Za 1))))) (Zu (aD (e2 aC (e2 aZ (e2 b_ (Za 3) (eC (.int 8))) (eC (.int 4))) (eC (.int 0))) (ao 9 (e2 aZ (e2 b_ (Za 3) (eC (.int 32))) (e2 aM (Za 2) (eC (.int 1))))) (aK)) (Zu (aD (e2 aC (Za 5) (eC (.str [112,117,116]))) (aq (aR (Zb (Za 5) (Zb (Za 6) (Zb (aH kJ (Zb (e2 b_ (Za 3) (eC (.int 8))) (Zg))) (Zg)))))) (aK)) (Zu (aD (e2 qC (Za 5) (aR (Zb (eC (.str [97,100,100])) (Zb (eC (.str [115,117,98])) (Zb (eC (.str [109,111,114,101])) (Zg)))))) (aq (aR (Zb (Za 5) (Zb (Za 6) (Zb (Za 7) (Zb (Za 8) (Zg))))))) (aK)) (Zu (aD (e2 aC (Za 5) (eC (.str [106,117,109,112]))) (aq (aR (Zb (Za 5) (Zb (Za 9) (Zg))))) (aK)) (Zu (aD (e2 aC (Za 5) (eC (.str [119,104,101,110]))) (aq (aR (Zb (Za 5) (Zb (Za 6) (Zb (Za 9) (Zg)))))) (aK)) (aq (e2 Ze (b8 (Zb (aR (Zb (Za 5) (Zb (Za 6) (Zb (Za 7) (Zg))))) (Zb (aR (Zb (Za 5) (Zb (Za 6) (Zg)))) (Zg)))) (au lU (Zb (e2 aC (Za 5) (eC (.str [116,101,108,108]))) (Zg))))))))))))))))))
def sX:F3:=bR 3 10 Jq
def Ep:S3:=Zu (ao 1 (bj (Za 0) (bB) (bD (eC (.int 60))))) (Zu (ao 2 (gh (jP (au bw (Zb (Za 1) (Zg)))) 1 (dz 5) [] (aH sX (Zb (e2 Ze (Za 1) (Za 5)) (Zb (Za 5) (Zb (au bw (Zb (Za 1) (Zg))) (Zg))))))) (Zu (ao 3 (aR (Zb (eC (.str [104,97,108,116])) (Zg)))) (Zu (aD (eN (e2 lG (au bw (Zb (Za 1) (Zg))) (eC (.int 0))) (e2 aC (e2 aZ (e2 Ze (Za 1) (eC (.int 0))) (eC (.int 4))) (eC (.int 1)))) (Zu (ao 4 (aH g_ (Zb (e2 Ze (Za 1) (eC (.int 0))) (Zb (eC (.int 61)) (Zg))))) (Zu (n_ (Za 2) (e2 aZ (Za 4) (au bw (Zb (Za 2) (Zg)))) (Za 3)) (ao 3 (aR (Zb (eC (.str [106,117,109,112])) (Zb (e2 aZ (e2 b_ (Za 4) (eC (.int 64))) (e2 aM (au bw (Zb (Za 2) (Zg))) (eC (.int 1)))) (Zg))))))) (aK)) (aq (au dF (Zb (e2 aM (Za 2) (b8 (Zb (Za 3) (Zg)))) (Zg)))))))
def Er:F3:=bR 1 5 Ep
def Zhb:S3:=Zu (ao 1 (b8 (Zg))) (Zu (sG (jP (eC (.int 8))) (dz 2) (Zu (ao 3 (eC (.int 0))) (Zu (aD (e2 lG (au bw (Zb (Za 0) (Zg))) (eC (.int 0))) (ao 3 (e2 Ze (Za 0) (e2 aZ (e2 aM (e2 gY (eC (.int 5)) (Za 2)) (eC (.int 3))) (au bw (Zb (Za 0) (Zg)))))) (aK)) (dJ (g8 jz jy (Za 1) (Zb (aH kJ (Zb (aH g_ (Zb (Za 3) (Zb (e2 aM (eC (.int 100)) (Za 2)) (Zg)))) (Zg))) (Zg))))))) (aq (au dF (Zb (Za 1) (Zg)))))
def Jr:F3:=bR 1 4 Zhb
def QQ:S3:=Zu (ao 4 (e2 Ze (Za 0) (eC (.int 0)))) (Zu (aD (e2 aC (Za 4) (eC (.str [112,117,116]))) (n_ (Za 2) (e2 Ze (Za 0) (eC (.int 1))) (e2 Ze (Za 0) (eC (.int 2)))) (aD (e2 aC (Za 4) (eC (.str [97,100,100]))) (n_ (Za 2) (e2 Ze (Za 0) (eC (.int 1))) (e2 aM (e2 Ze (Za 2) (e2 Ze (Za 0) (eC (.int 2)))) (e2 Ze (Za 2) (e2 Ze (Za 0) (eC (.int 3)))))) (aD (e2 aC (Za 4) (eC (.str [115,117,98]))) (n_ (Za 2) (e2 Ze (Za 0) (eC (.int 1))) (e2 eO (e2 Ze (Za 2) (e2 Ze (Za 0) (eC (.int 2)))) (e2 Ze (Za 2) (e2 Ze (Za 0) (eC (.int 3)))))) (aD (e2 aC (Za 4) (eC (.str [109,111,114,101]))) (n_ (Za 2) (e2 Ze (Za 0) (eC (.int 1))) (au lU (Zb (e2 lG (e2 Ze (Za 2) (e2 Ze (Za 0) (eC (.int 2)))) (e2 Ze (Za 2) (e2 Ze (Za 0) (eC (.int 3))))) (Zg)))) (aD (e2 aC (Za 4) (eC (.str [103,101,116]))) (n_ (Za 2) (e2 Ze (Za 0) (eC (.int 1))) (g8 yP wz (Za 3) (Zb (e2 Ze (Za 2) (e2 Ze (Za 0) (eC (.int 2)))) (Zb (eC (.int 0)) (Zg))))) (aD (e2 aC (Za 4) (eC (.str [115,101,116]))) (HN (Za 3) (e2 Ze (Za 2) (e2 Ze (Za 0) (eC (.int 1)))) (e2 Ze (Za 2) (e2 Ze (Za 0) (eC (.int 2))))) (aD (iM (e2 aC (Za 4) (eC (.str [106,117,109,112]))) (eN (e2 aC (Za 4) (eC (.str [119,104,101,110]))) (e2 lG (e2 Ze (Za 2) (e2 Ze (Za 0) (eC (.int 1)))) (eC (.int 0))))) (aq (e2 Ze (Za 0) (e1 mF (eC (.int 1))))) (aK)))))))) (aq (e2 aM (Za 1) (eC (.int 1)))))
def pN:F3:=bR 4 5 QQ
def ZgE:S3:=Zu (ao 3 (eC (.int 0))) (Zu (ao 4 (au sE (Zb (Za 1) (Zg)))) (Zu (ao 5 (O5)) (Zu (ao 6 (b8 (Zb (aR (Zb (eC (.int 0)) (Zb (au dF (Zb (Za 1) (Zg))) (Zb (aR (Zg)) (Zg))))) (Zg)))) (Zu (Dl (eN (e2 dw (e2 Ze (e2 Ze (Za 0) (Za 3)) (eC (.int 0))) (eC (.str [104,97,108,116]))) (e2 nQ (au bw (Zb (Za 6) (Zg))) (Za 2))) (Zu (ao 3 (aH pN (Zb (e2 Ze (Za 0) (Za 3)) (Zb (Za 3) (Zb (Za 4) (Zb (Za 5) (Zg))))))) (Zu (ao 7 (wC (Za 5) 1 (dz 8) [e2 dw (e2 n6 (Za 5) (Za 8)) (eC (.int 0))] (aR (Zb (Za 8) (Zb (e2 n6 (Za 5) (Za 8)) (Zg)))))) (dJ (g8 jz jy (Za 6) (Zb (aR (Zb (Za 3) (Zb (au dF (Zb (Za 4) (Zg))) (Zb (au dF (Zb (au jN (Zb (Za 7) (Zg))) (Zg))) (Zg))))) (Zg))))))) (aq (Za 6))))))
def Es:F3:=bR 3 8 ZgE
def Zib:S3:=Zu (ao 2 (b8 (Zg))) (Zu (sG (jP (e2 eO (au bw (Zb (Za 1) (Zg))) (eC (.int 1)))) (dz 3) (Zu (mL (bj (e2 Ze (Za 1) (Za 3)) (bB) (bD (eC (.int 2)))) (jA [4,5])) (Zu (ao 6 (e2 Ze (Za 0) (Za 4))) (Zu (aD (e2 aC (e2 Ze (Za 6) (eC (.int 0))) (eC (.str [103,101,116]))) (dJ (g8 jz jy (Za 2) (Zb (aR (Zb (e2 Ze (Za 5) (e2 Ze (Za 6) (eC (.int 2)))) (Zb (Za 3) (Zb (eC (.str [103,101,116])) (Zb (e2 Ze (e2 Ze (e2 Ze (Za 1) (e2 aM (Za 3) (eC (.int 1)))) (eC (.int 1))) (e2 Ze (Za 6) (eC (.int 1)))) (Zg)))))) (Zg)))) (aK)) (aD (e2 aC (e2 Ze (Za 6) (eC (.int 0))) (eC (.str [115,101,116]))) (dJ (g8 jz jy (Za 2) (Zb (aR (Zb (e2 Ze (Za 5) (e2 Ze (Za 6) (eC (.int 1)))) (Zb (Za 3) (Zb (eC (.str [115,101,116])) (Zb (e2 Ze (Za 5) (e2 Ze (Za 6) (eC (.int 2)))) (Zg)))))) (Zg)))) (aK)))))) (aq (au dF (Zb (au jN (Zb (Za 2) (Zg))) (Zg)))))
def uV:F3:=bR 2 7 Zib
def Js:S3:=Zu (aD (e2 aC (au bw (Zb (Za 0) (Zg))) (eC (.int 0))) (aq (e2 aM (e2 gY (e2 gY (eC (.int 7)) (Za 1)) (Za 1)) (e2 gY (eC (.int 13)) (Za 1)))) (aK)) (aq (e2 aM (e2 Ze (Za 0) (e2 aZ (Za 1) (au bw (Zb (Za 0) (Zg))))) (e2 b_ (Za 1) (au bw (Zb (Za 0) (Zg))))))
def mU:F3:=bR 2 2 Js
def Zg0:S3:=Zu (ao 5 (eC (.int 0))) (Zu (ao 6 (au sE (Zb (Za 1) (Zg)))) (Zu (ao 7 (O5)) (Zu (ao 8 (b8 (Zb (aR (Zb (eC (.int 0)) (Zb (au dF (Zb (Za 1) (Zg))) (Zg)))) (Zg)))) (Zu (Dl (eN (e2 dw (e2 Ze (e2 Ze (Za 0) (Za 5)) (eC (.int 0))) (eC (.str [104,97,108,116]))) (e2 nQ (au bw (Zb (Za 8) (Zg))) (Za 2))) (Zu (ao 9 (e2 Ze (Za 0) (Za 5))) (Zu (ao 5 (aH pN (Zb (Za 9) (Zb (Za 5) (Zb (Za 6) (Zb (Za 7) (Zg))))))) (Zu (aD (eN (e2 aC (au bw (Zb (Za 8) (Zg))) (e2 aM (Za 3) (eC (.int 1)))) (e2 aC (e2 Ze (Za 9) (eC (.int 0))) (eC (.str [103,101,116])))) (n_ (Za 6) (e2 Ze (Za 9) (eC (.int 1))) (Za 4)) (aK)) (dJ (g8 jz jy (Za 8) (Zb (aR (Zb (Za 5) (Zb (au dF (Zb (Za 6) (Zg))) (Zg)))) (Zg)))))))) (aq (Za 8))))))
def Jt:F3:=bR 5 10 Zg0
def QR:S3:=Zu (ao 4 (e2 aZ (Za 3) (au bw (Zb (Za 1) (Zg))))) (Zu (mL (e2 Ze (Za 1) (Za 4)) (jA [5,6])) (Zu (ao 7 (e2 aZ (e2 b_ (Za 3) (eC (.int 64))) (eC (.int 8)))) (Zu (aD (e2 aC (Za 2) (eC (.int 0))) (Zu (ao 8 (e2 eO (e2 aM (e2 Ze (Za 6) (Za 7)) (eC (.int 1))) (e2 gY (eC (.int 2)) (e2 aZ (e2 b_ (Za 3) (eC (.int 512))) (eC (.int 2)))))) (aq (e2 aM (e2 aM (bj (Za 1) (bB) (bD (Za 4))) (b8 (Zb (aR (Zb (Za 5) (Zb (e2 aM (e2 aM (bj (Za 6) (bB) (bD (Za 7))) (aR (Zb (Za 8) (Zg)))) (bj (Za 6) (bD (e2 aM (Za 7) (eC (.int 1)))) (bB))) (Zg)))) (Zg)))) (bj (Za 1) (bD (e2 aM (Za 4) (eC (.int 1)))) (bB))))) (aK)) (Zu (aD (e2 aC (Za 2) (eC (.int 1))) (aq (e2 aM (e2 aM (bj (Za 1) (bB) (bD (Za 4))) (b8 (Zb (aR (Zb (e2 eO (e2 aZ (e2 b_ (Za 3) (eC (.int 64))) (e2 aM (au bw (Zb (Za 0) (Zg))) (eC (.int 2)))) (eC (.int 1))) (Zb (Za 6) (Zg)))) (Zg)))) (bj (Za 1) (bD (e2 aM (Za 4) (eC (.int 1)))) (bB)))) (aK)) (Zu (aD (e2 aC (Za 2) (eC (.int 2))) (aq (bj (Za 1) (bB) (bD (e1 mF (eC (.int 1)))))) (aK)) (Zu (aD (e2 aC (Za 2) (eC (.int 3))) (aq (e2 aM (e2 aM (bj (Za 1) (bB) (bD (Za 4))) (b8 (Zb (e2 Ze (Za 1) (Za 4)) (Zg)))) (bj (Za 1) (bD (Za 4)) (bB)))) (aK)) (Zu (aD (e2 aC (Za 2) (eC (.int 4))) (aq (e2 aM (bj (Za 1) (bB) (bD (Za 4))) (bj (Za 1) (bD (e2 aM (Za 4) (eC (.int 1)))) (bB)))) (aK)) (aq (e2 aM (Za 1) (b8 (Zb (aR (Zb (Za 5) (Zb (Za 6) (Zg)))) (Zg))))))))))))
def w6:F3:=bR 4 9 QR
def Ju:S3:=Zu (aD (e2 aC (au bw (Zb (Za 0) (Zg))) (eC (.int 0))) (aq (b8 (Zb (aR (Zb (e2 eO (e2 aZ (Za 2) (eC (.int 5))) (eC (.int 2))) (Zb (e2 aZ (e2 b_ (Za 2) (eC (.int 5))) (eC (.int 3))) (Zb (e2 Ze (b8 (Zb (eC (.str [103,101,116])) (Zb (eC (.str [115,101,116])) (Zg)))) (e2 aZ (Za 2) (eC (.int 2)))) (Zb (eC (.int 0)) (Zg)))))) (Zg)))) (aK)) (Zu (ao 3 (e2 aZ (Za 2) (au bw (Zb (Za 0) (Zg))))) (Zu (mL (e2 Ze (Za 0) (Za 3)) (jA [4,5,6,7])) (Zu (aD (e2 aC (Za 1) (eC (.int 6))) (aq (e2 aM (bj (Za 0) (bB) (bD (Za 3))) (bj (Za 0) (bD (e2 aM (Za 3) (eC (.int 1)))) (bB)))) (aK)) (Zu (aD (e2 aC (Za 1) (eC (.int 7))) (aq (e2 aM (e2 aM (bj (Za 0) (bB) (bD (Za 3))) (b8 (Zb (e2 Ze (Za 0) (Za 3)) (Zg)))) (bj (Za 0) (bD (Za 3)) (bB)))) (aK)) (Zu (aD (e2 aC (Za 1) (eC (.int 8))) (Zu (ao 8 (e2 aZ (e2 b_ (Za 2) (eC (.int 64))) (au bw (Zb (Za 0) (Zg))))) (Zu (ao 9 (au sE (Zb (Za 0) (Zg)))) (Zu (Io (aR (Zb (e2 Ze (Za 0) (Za 8)) (Zb (e2 Ze (Za 0) (Za 3)) (Zg)))) (Za 9) (Za 3) (Za 9) (Za 8)) (aq (Za 9))))) (aK)) (Zu (ao 10 (aR (Zb (Za 4) (Zb (Za 5) (Zb (Za 6) (Zb (e2 eO (e2 aM (Za 7) (eC (.int 1))) (e2 gY (eC (.int 2)) (e2 aZ (e2 b_ (Za 2) (eC (.int 64))) (eC (.int 2))))) (Zg))))))) (Zu (aD (e2 aC (Za 1) (eC (.int 9))) (ao 10 (aR (Zb (e2 eO (e2 aM (Za 4) (eC (.int 1))) (e2 gY (eC (.int 2)) (e2 aZ (e2 b_ (Za 2) (eC (.int 64))) (eC (.int 2))))) (Zb (Za 5) (Zb (Za 6) (Zb (Za 7) (Zg))))))) (aK)) (Zu (aD (e2 aC (Za 1) (eC (.int 10))) (ao 10 (aR (Zb (Za 4) (Zb (e2 eO (e2 aZ (e2 b_ (Za 2) (eC (.int 64))) (eC (.int 70))) (eC (.int 2))) (Zb (Za 6) (Zb (Za 7) (Zg))))))) (aK)) (Zu (aD (e2 aC (Za 1) (eC (.int 11))) (ao 10 (aR (Zb (Za 4) (Zb (Za 5) (Zb (e2 Ze (b8 (Zb (eC (.str [103,101,116])) (Zb (eC (.str [115,101,116])) (Zb (eC (.str [116,101,108,108])) (Zg))))) (e2 aZ (e2 b_ (Za 2) (eC (.int 64))) (eC (.int 3)))) (Zb (Za 7) (Zg))))))) (aK)) (Zu (ao 9 (e2 aM (e2 aM (bj (Za 0) (bB) (bD (Za 3))) (b8 (Zb (Za 10) (Zg)))) (bj (Za 0) (bD (e2 aM (Za 3) (eC (.int 1)))) (bB)))) (aq (e2 Ze (b8 (Zb (Za 9) (Zb (au jN (Zb (Za 9) (Zg))) (Zg)))) (e2 aZ (e2 b_ (Za 2) (eC (.int 4096))) (eC (.int 2)))))))))))))))
def xg:F3:=bR 3 11 Ju
def QS:S3:=Zu (ao 4 (e2 aZ (Za 3) (eC (.int 13)))) (Zu (ao 5 (e2 b_ (Za 3) (eC (.int 13)))) (Zu (aD (eN (e2 yM (Za 4) (eC (.int 6))) (e2 lG (au bw (Zb (Za 1) (Zg))) (eC (.int 0)))) (aq (b8 (Zb (aH w6 (Zb (Za 0) (Zb (Za 1) (Zb (Za 4) (Zb (Za 5) (Zg)))))) (Zb (Za 2) (Zg))))) (aK)) (Zu (aD (e2 yM (Za 4) (eC (.int 6))) (aq (b8 (Zb (Za 1) (Zb (Za 2) (Zg))))) (aK)) (aq (b8 (Zb (Za 1) (Zb (aH xg (Zb (Za 2) (Zb (Za 4) (Zb (Za 5) (Zg))))) (Zg))))))))
def xj:F3:=bR 4 6 QS
def Jv:S3:=Zu (ao 4 (gh (jO (Za 3)) 1 (dz 13) [] (aR (Zb (e2 Ze (Za 13) (eC (.int 0))) (Zb (e2 Ze (Za 13) (eC (.int 1))) (Zg)))))) (Zu (ao 5 (au sE (Zb (aH uV (Zb (Za 1) (Zb (Za 3) (Zg)))) (Zg)))) (Zu (ao 6 (gh (jP (e2 eO (au bw (Zb (Za 4) (Zg))) (eC (.int 1)))) 1 (dz 13) [e2 aC (e2 Ze (e2 Ze (Za 1) (e2 Ze (e2 Ze (Za 4) (Za 13)) (eC (.int 0)))) (eC (.int 0))) (eC (.str [103,101,116]))] (Za 13))) (Zu (ao 7 (aH g_ (Zb (aH mU (Zb (Za 0) (Zb (eC (.int 1)) (Zg)))) (Zb (eC (.int 900)) (Zg))))) (Zu (aD (iM (e2 aC (e2 aZ (Za 7) (eC (.int 2))) (eC (.int 0))) (e2 aC (Za 6) (b8 (Zg)))) (aq (b8 (Zb (Za 4) (Zb (Za 5) (Zg))))) (aK)) (Zu (ao 8 (e2 Ze (Za 6) (e2 aZ (e2 b_ (Za 7) (eC (.int 2))) (au bw (Zb (Za 6) (Zg)))))) (Zu (ao 9 (e2 Ze (e2 Ze (e2 Ze (Za 4) (e2 aM (Za 8) (eC (.int 1)))) (eC (.int 1))) (e2 Ze (e2 Ze (Za 1) (e2 Ze (e2 Ze (Za 4) (Za 8)) (eC (.int 0)))) (eC (.int 1))))) (Zu (ao 10 (aH Jt (Zb (Za 1) (Zb (Za 2) (Zb (eC (.int 60)) (Zb (Za 8) (Zb (e2 aM (Za 9) (aH kJ (Zb (e2 b_ (Za 7) (eC (.int 512))) (Zg)))) (Zg)))))))) (Zu (ao 11 (au sE (Zb (aH uV (Zb (Za 1) (Zb (Za 10) (Zg)))) (Zg)))) (Zu (ao 12 (e2 aZ (e2 b_ (Za 7) (eC (.int 128))) (eC (.int 4)))) (Zu (aD (e2 aC (Za 12) (eC (.int 1))) (ao 11 (Za 5)) (aK)) (Zu (aD (e2 aC (Za 12) (eC (.int 2))) (ao 11 (gh (jO (Za 11)) 1 (dz 13) [e2 dw (e2 Ze (Za 13) (eC (.int 1))) (Za 8)] (Za 13))) (aK)) (Zu (aD (e2 aC (Za 12) (eC (.int 3))) (ao 11 (gh (jO (Za 11)) 1 (dz 13) [] (e2 Ze (b8 (Zb (Za 13) (Zb (e2 aM (bj (Za 13) (bB) (bD (eC (.int 3)))) (aR (Zb (Za 9) (Zg)))) (Zg)))) (au lU (Zb (e2 aC (e2 Ze (Za 13) (eC (.int 1))) (Za 8)) (Zg)))))) (aK)) (aq (b8 (Zb (Za 10) (Zb (Za 11) (Zg)))))))))))))))))
def xq:F3:=bR 4 13 Jv
def QT:S3:=Zu (ao 1 (aH Er (Zb (Za 0) (Zg)))) (Zu (ao 2 (aH Jr (Zb (Za 0) (Zg)))) (Zu (ao 3 (aH Es (Zb (Za 1) (Zb (Za 2) (Zb (eC (.int 70)) (Zg)))))) (Zu (sS (aH xq (Zb (Za 0) (Zb (Za 1) (Zb (Za 2) (Zb (bj (Za 3) (bB) (bD (eC (.int 61)))) (Zg)))))) [4,5]) (Zu (sG (jP (e2 aZ (aH g_ (Zb (aH mU (Zb (Za 0) (Zb (eC (.int 2)) (Zg)))) (Zb (eC (.int 910)) (Zg)))) (eC (.int 3)))) (dz 6) (sS (aH xj (Zb (Za 1) (Zb (Za 4) (Zb (Za 5) (Zb (aH g_ (Zb (aH mU (Zb (Za 0) (Zb (e2 aM (eC (.int 3)) (Za 6)) (Zg)))) (Zb (e2 aM (eC (.int 920)) (Za 6)) (Zg)))) (Zg)))))) [4,5])) (Zu (ao 7 (au dF (Zb (gh (jO (Za 3)) 1 (dz 9) [] (aR (Zb (e2 Ze (Za 9) (eC (.int 0))) (Zb (e2 Ze (Za 9) (eC (.int 1))) (Zg))))) (Zg)))) (Zu (ao 8 (eN (e2 aC (e2 Ze (e2 Ze (Za 1) (e2 Ze (e2 Ze (Za 3) (e1 mF (eC (.int 1)))) (eC (.int 0)))) (eC (.int 0))) (eC (.str [104,97,108,116]))) (eN (e2 aC (au dF (Zb (Za 4) (Zg))) (Za 7)) (e2 aC (au dF (Zb (Za 5) (Zg))) (aH uV (Zb (Za 1) (Zb (Za 3) (Zg)))))))) (aq (e2 aC (e2 su (aH Em (Zb (Za 1) (Zb (Za 2) (Zb (au dF (Zb (Za 4) (Zg))) (Zb (au dF (Zb (Za 5) (Zg))) (Zg)))))) (eC .non)) (Za 8)))))))))
def Zoj:F3:=bR 1 9 QT
end
end Law
namespace Law
open PySem PySem.Spec PyProof.Rows L2 L3
noncomputable def top(i:Nat):Yd1:=PySem.Challenge.pw_stepledger_k36_whole_only_the_run_fits.main.body.getD i (.Pass ⟨0,0,0,0⟩)
noncomputable abbrev zG:Yd1:=top 1
noncomputable abbrev zH:Yd1:=top 2
noncomputable abbrev zJ:Yd1:=top 3
noncomputable abbrev zK:Yd1:=top 4
noncomputable abbrev zM:Yd1:=top 5
noncomputable abbrev zN:Yd1:=top 7
noncomputable abbrev zO:Yd1:=top 9
noncomputable abbrev zP:Yd1:=top 10
noncomputable abbrev zQ:Yd1:=top 12
noncomputable abbrev zR:Yd1:=top 13
noncomputable abbrev zT:Yd1:=top 14
noncomputable abbrev zU:Yd1:=top 15
noncomputable abbrev zV:Yd1:=top 16
noncomputable abbrev zW:Yd1:=top 17
noncomputable abbrev zX:Yd1:=top 18
noncomputable abbrev zY:Yd1:=top 19
noncomputable abbrev zZ:Yd1:=top 20
noncomputable abbrev z6:Yd1:=top 21
noncomputable abbrev z7:Yd1:=top 22
noncomputable abbrev z8:Yd1:=top 24
noncomputable abbrev z9:Yd1:=top 25
noncomputable abbrev z_:Yd1:=top 26
noncomputable abbrev Aa:Yd1:=top 27
noncomputable abbrev Ab:Yd1:=top 28
noncomputable abbrev Ac:Yd1:=top 29
noncomputable abbrev Ad:Yd1:=top 30
noncomputable abbrev Ae:Yd1:=top 31
noncomputable abbrev Af:Yd1:=top 32
noncomputable abbrev Ag:Yd1:=top 33
noncomputable abbrev Ah:Yd1:=top 34
noncomputable abbrev Ai:Yd1:=top 35
noncomputable abbrev Aj:Yd1:=top 36
noncomputable abbrev Ak:Yd1:=top 37
noncomputable abbrev sY:Yd1:=top 38
structure Txt(K:W.Frag)(mg:aj->Option Yg):Prop where
  G7:True
  AaU:mg "dict" =Ye
  RZ:mg "enumerate" =Ye
  Kp:mg "int" =Ye
  fC:mg "len" =Ye
  Be:mg "list" =Ye
  xN:mg "range" =Ye
  Ke:mg "sorted" =Ye
  lZ:mg "tuple" =Ye
section
variable {P:cj} {w:bO} {K:W.Frag} {mg:aj->Option Yg} {base:aY}
theorem ZjL:dD ["row","place","boxes"] ["row","place","boxes"] (Zt zG):=⟨rfl,rfl,rfl,by decide +kernel,rfl,by decide +kernel,by decide +kernel⟩
theorem ZjS(A:bC K mg "next_place" zG ["row","place","boxes"])(T:Txt K mg):aJ P w K mg base 1 "next_place" ["row","place","boxes"] zE:=
  aJ.of (N:=["row","place","boxes"]) (k:=0) A ZjL λf cdv A outer s H E hr=>by
    have hu:=d8 hr;unfold Zhz;refine Zf ?_ ?_
    .exact bH (aW ((bK hu)) (Zx Zy (Zd 0) Zi) bA) (Zo (aX (Zx Zy (Zd 0) Zi))) bL
    .refine Zf ?_ ?_
     .refine bH ?_ ?_ ?_
      .exact CW.ct (uO (aW ((bK hu)) (Zx Zy (Zd 0) Zi) bA) (uN (aW wR (Zx Zy (Zd 2) (Zx Zy (Zd 0) Zi)) Zi)))
      .exact Zo (aX (Zx Zy (Zd 0) Zi))
      .exact bL
     .exact Zo (aX (Zw bT (Zd 1) Zi))
theorem Zpj:dD ["name","one","other"] ["name","one","other"] (Zt zJ):=⟨rfl,rfl,rfl,by decide +kernel,rfl,by decide +kernel,by decide +kernel⟩
theorem Zpm(A:bC K mg "worked" zJ ["name","one","other"])(T:Txt K mg):aJ P w K mg base 1 "worked" ["name","one","other"] pK:=
  aJ.of (N:=["name","one","other"]) (k:=0) A Zpj λf cdv A outer s H E hr=>by
    have hu:=d8 hr;unfold Eh;refine Zf ?_ ?_
    .exact bH (aW ((bK hu)) (Zd 0) bA) (Zo (aX (Zw bT (Zd 1) (Zd 2)))) bL
    .exact Zf (bH (aW ((bK hu)) (Zd 0) bA) (Zo (aX (Zw kI (Zd 1) (Zd 2)))) bL) (Zo (aX (DG (aW wR (Zd 1) (Zd 2)) Zi Zi)))
theorem Zmq:dD ["boxes","box","value"] ["boxes","box","value"] (Zt zK):=⟨rfl,rfl,rfl,by decide +kernel,rfl,by decide +kernel,by decide +kernel⟩
theorem ZlM(A:bC K mg "with_box" zK ["boxes","box","value"])(T:Txt K mg):aJ P w K mg base 1 "with_box" ["boxes","box","value"] qK:=
  aJ.of (N:=["boxes","box","value"]) (k:=0) A Zmq λf cdv A outer s H E hr=>by
    have hu:=d8 hr;unfold Zjw;refine Zo ?_;refine aX ?_;refine Zw ?_ ?_ ?_
    .exact bT
    .exact Zw bT (gB gC (Zd 0) gw (gA (Zd 1))) (cQ (Zc (Zd 2) Zj))
    .exact gB gC (Zd 0) (gA (Zw bT (Zd 1) Zi)) gw
theorem ZjM:dD ["cells","number"] ["cells","number"] (Zt zM):=⟨rfl,rfl,rfl,by decide +kernel,rfl,by decide +kernel,by decide +kernel⟩
theorem ZjD(A:bC K mg "cell_value" zM ["cells","number"])(T:Txt K mg):aJ P w K mg base 1 "cell_value" ["cells","number"] Ei:=aJ.of (N:=["cells","number"]) (k:=0) A ZjM λf cdv A outer s H E hr=>by have hu:=d8 hr;unfold Zhy;exact Zo (aX (ZqR hu (iC (T:="dict") ((Ztg rfl)) T.AaU Zsy (Zc (Zd 0) Zj)) (Zd 1) Zi))
theorem ZgF:dD ["row","boxes","cells","name"] ["row","boxes","cells"] (Zt zH):=⟨rfl,rfl,rfl,by decide +kernel,rfl,by decide +kernel,by decide +kernel⟩
theorem ZjV(A:bC K mg "next_boxes" zH ["row","boxes","cells"])(T:Txt K mg)(Kf:aJ P w K mg base 1 "worked" ["name","one","other"] pK)(tL:aJ P w K mg base 1 "with_box" ["boxes","box","value"] qK)(J3:aJ P w K mg base 1 "cell_value" ["cells","number"] Ei):aJ P w K mg base 2 "next_boxes" ["row","boxes","cells"] Jl:=
  aJ.of (N:=["row","boxes","cells","name"]) (k:=1) A ZgF λf cdv A outer s H E hr=>by
    have hu:=d8 hr;unfold QJ;refine Zf ?_ ?_
    .exact bh 3 ZgF.nd (Zx Zy (Zd 0) Zi)
    .refine Zf ?_ ?_
     .refine bH ?_ ?_ ?_
      .exact aW ((bK hu)) (Zd 3) bA
      .exact Zo (aX (bY (k:=1) (ps:=["boxes","box","value"]) tL (hr.mono (by decide)) (Zc (Zd 1) (Zc (Zx Zy (Zd 0) Zi) (Zc (Zx Zy (Zd 0) Zi) Zj)))))
      .exact bL
     .refine Zf ?_ ?_
      .refine bH ?_ ?_ ?_
       .exact aW ((bK hu)) (Zd 3) bA
       .refine Zo ?_;refine aX ?_;refine bY (k:=1) (ps:=["boxes","box","value"]) ?_ ?_ ?_
        .exact tL
        .exact hr.mono (by decide)
        .refine Zc ?_ ?_
         .exact Zd 1
         .exact Zc (Zx Zy (Zd 0) Zi) (Zc (bY (k:=1) (ps:=["cells","number"]) J3 (hr.mono (by decide)) (Zc (Zd 2) (Zc (Zx Zy (Zd 1) (Zx Zy (Zd 0) Zi)) Zj))) Zj)
       .exact bL
      .refine Zf ?_ ?_
       .refine bH ?_ ?_ ?_
        .exact aW ((Ql hu)) (Zd 3) (cQ (Zc bA (Zc bA (Zc bA Zj))))
        .refine Zo ?_;refine aX ?_;refine bY (k:=1) (ps:=["boxes","box","value"]) ?_ ?_ ?_
         .exact tL
         .exact hr.mono (by decide)
         .refine Zc ?_ ?_
          .exact Zd 1
          .refine Zc ?_ ?_
           .exact Zx Zy (Zd 0) Zi
           .refine Zc ?_ ?_
            .exact bY (k:=1) (ps:=["name","one","other"]) Kf (hr.mono (by decide)) (Zc (Zd 3) (Zc (Zx Zy (Zd 1) (Zx Zy (Zd 0) Zi)) (Zc (Zx Zy (Zd 1) (Zx Zy (Zd 0) Zi)) Zj)))
            .exact Zj
        .exact bL
       .exact Zo (aX (Zd 1))
theorem Zk1:dD ["number","many"] ["number","many"] (Zt zN):=⟨rfl,rfl,rfl,by decide +kernel,rfl,by decide +kernel,by decide +kernel⟩
theorem Zlq(A:bC K mg "is_within" zN ["number","many"])(T:Txt K mg):aJ P w K mg base 1 "is_within" ["number","many"] sW:=aJ.of (N:=["number","many"]) (k:=0) A Zk1 λf cdv A outer s H E hr=>by have hu:=d8 hr;unfold QK;exact Zo (aX (Iu (jD Z5 (Zd 0) Zi) (PN (jD IK (Zd 0) (Zd 1)))))
theorem Zpu:dD ["row"] ["row"] (Zt zO):=⟨rfl,rfl,rfl,by decide +kernel,rfl,by decide +kernel,by decide +kernel⟩
theorem ZoX(A:bC K mg "is_use" zO ["row"])(T:Txt K mg):aJ P w K mg base 1 "is_use" ["row"] pM:=aJ.of (N:=["row"]) (k:=0) A Zpu λf cdv A outer s H E hr=>by have hu:=d8 hr;unfold ZmV;exact Zo (aX (jD ((Ql hu)) (Zx Zy (Zd 0) Zi) (cQ (Zc bA (Zc bA Zj)))))
theorem Zjq:dD ["row","boxes"] ["row","boxes"] (Zt zP):=⟨rfl,rfl,rfl,by decide +kernel,rfl,by decide +kernel,by decide +kernel⟩
theorem Zi5(A:bC K mg "cell_number" zP ["row","boxes"])(T:Txt K mg):aJ P w K mg base 1 "cell_number" ["row","boxes"] qL:=aJ.of (N:=["row","boxes"]) (k:=0) A Zjq λf cdv A outer s H E hr=>by have hu:=d8 hr;unfold Jm;refine Zo ?_;refine aX ?_;exact DG (aW ((bK hu)) (Zx Zy (Zd 0) Zi) bA) (Zx Zy (Zd 1) (Zx Zy (Zd 0) Zi)) (Zx Zy (Zd 1) (Zx Zy (Zd 0) Zi))
theorem Zpq:dD ["roll","place"] ["roll","place"] (Zt zR):=⟨rfl,rfl,rfl,by decide +kernel,rfl,by decide +kernel,by decide +kernel⟩
theorem Zo9(A:bC K mg "row_at" zR ["roll","place"])(T:Txt K mg)(xJ:aJ P w K mg base 1 "is_within" ["number","many"] sW):aJ P w K mg base 2 "row_at" ["roll","place"] qM:=aJ.of (N:=["roll","place"]) (k:=1) A Zpq λf cdv A outer s H E hr=>by have hu:=d8 hr;unfold ZlP;refine Zo ?_;exact aX (DG (uM (bY (k:=1) (ps:=["number","many"]) xJ (hr.mono (by decide)) (Zc (Zd 1) (Zc (d_ (id:="len") fG T.fC fH (Zc (Zd 0) Zj)) Zj)))) (Zx Zy (Zd 0) (Zd 1)) jT)
theorem Ziu:dD ["roll_row","boxes","told_boxes"] ["roll_row","boxes","told_boxes"] (Zt zT):=⟨rfl,rfl,rfl,by decide +kernel,rfl,by decide +kernel,by decide +kernel⟩
theorem Zip(A:bC K mg "boxes_behind" zT ["roll_row","boxes","told_boxes"])(T:Txt K mg)(J4:aJ P w K mg base 2 "next_boxes" ["row","boxes","cells"] Jl)(tL:aJ P w K mg base 1 "with_box" ["boxes","box","value"] qK):aJ P w K mg base 3 "boxes_behind" ["roll_row","boxes","told_boxes"] wY:=
  aJ.of (N:=["roll_row","boxes","told_boxes"]) (k:=2) A Ziu λf cdv A outer s H E hr=>by
    have hu:=d8 hr;unfold Zga;refine Zf ?_ ?_
    .refine bH ?_ ?_ ?_
     .exact aW ((bK hu)) (Zx Zy (Zd 0) Zi) bA
     .exact Zo (aX (bY (k:=1) (ps:=["boxes","box","value"]) tL (hr.mono (by decide)) (Zc (Zd 1) (Zc (Zx Zy (Zd 0) Zi) (Zc (Zx Zy (Zd 2) (Zx Zy (Zd 0) Zi)) Zj)))))
     .exact bL
    .exact Zo (aX (bY (k:=2) (ps:=["row","boxes","cells"]) J4 (hr.mono (by decide)) (Zc (Zd 0) (Zc (Zd 1) (Zc (cQ Zj) Zj)))))
theorem Jw:dD ["roll","row","behind","place","boxes","roll_row"] ["roll","row","behind"] (Zt zQ):=⟨rfl,rfl,rfl,by decide +kernel,rfl,by decide +kernel,by decide +kernel⟩
theorem Zln(A:bC K mg "step_fits" zQ ["roll","row","behind"])(T:Txt K mg)(J5:aJ P w K mg base 1 "next_place" ["row","place","boxes"] zE)(qY:aJ P w K mg base 2 "row_at" ["roll","place"] qM)(JZ:aJ P w K mg base 3 "boxes_behind" ["roll_row","boxes","told_boxes"] wY):aJ P w K mg base 4 "step_fits" ["roll","row","behind"] zF:=
  aJ.of (N:=["roll","row","behind","place","boxes","roll_row"]) (k:=3) A Jw λf cdv A outer s H E hr=>by
    have hu:=d8 hr;unfold Zh3;refine Zf ?_ ?_
    .exact bh 3 Jw.nd (Zx Zy (Zd 1) Zi)
    .refine Zf ?_ ?_
     .exact bh 4 Jw.nd (Zx Zy (Zd 1) Zi)
     .refine Zf ?_ ?_
      .exact bh 5 Jw.nd (bY (k:=2) (ps:=["roll","place"]) qY (hr.mono (by decide)) (Zc (Zd 0) (Zc (Zd 3) Zj)))
      .refine Zf ?_ ?_
       .exact bH (CW.ct (wM (aW Qa (Zd 5) jT) (zj (aW ((bK hu)) (Zx Zy (Zd 5) Zi) bA)))) (Zo (aX zc)) bL
       .refine Zo ?_;refine aX ?_;refine jD ?_ ?_ ?_
        .exact(bK hu)
        .exact Zd 2
        .refine cQ ?_;refine Zc ?_ ?_
         .exact bY (k:=1) (ps:=["row","place","boxes"]) J5 (hr.mono (by decide)) (Zc (Zd 5) (Zc (Zd 3) (Zc (Zd 4) Zj)))
         .exact Zc (bY (k:=3) (ps:=["roll_row","boxes","told_boxes"]) JZ (hr.mono (by decide)) (Zc (Zd 5) (Zc (Zd 4) (Zc (Zx Zy (Zd 2) Zi) Zj)))) Zj
theorem Zif:dD ["ahead","row","same"] ["ahead","row"] (Zt zU):=⟨rfl,rfl,rfl,by decide +kernel,rfl,by decide +kernel,by decide +kernel⟩
theorem ZmG(A:bC K mg "use_fits" zU ["ahead","row"])(T:Txt K mg):aJ P w K mg base 1 "use_fits" ["ahead","row"] wZ:=
  aJ.of (N:=["ahead","row","same"]) (k:=0) A Zif λf cdv A outer s H E hr=>by
    have hu:=d8 hr;unfold ZiJ;refine Zf ?_ ?_
    .refine bH ?_ ?_ ?_
     .exact CW.ct (uO (aW zr (Zd 0) jT) (uN (aW ((ZuP hu)) (gB gC (Zd 1) gw (gA Zi)) (gB gC (Zd 0) gw (gA Zi)))))
     .exact Zo (aX zc)
     .exact bL
    .refine Zf ?_ ?_
     .exact bH (aW ((qH hu)) (Zx Zy (Zd 1) Zi) bA) (Zo (aX zc)) bL
     .refine Zf ?_ ?_
      .exact bh 2 Zif.nd (Iu (jD zr (Zd 0) jT) (PN (jD ((bK hu)) (Zx Zy (Zd 0) Zi) (Zx Zy (Zd 1) Zi))))
      .exact Zo (aX (jD ((bK hu)) (Zx Zy (Zd 1) Zi) (DG (uM (Zd 2)) (Zx Zy (Zd 0) Zi) Zi)))
theorem Jx:dD ["roll","steps","row","time","boxes","roll_row"] ["roll","steps","row"] (Zt zV):=⟨rfl,rfl,rfl,by decide +kernel,rfl,by decide +kernel,by decide +kernel⟩
theorem Zjl(A:bC K mg "use_matches" zV ["roll","steps","row"])(T:Txt K mg)(xJ:aJ P w K mg base 1 "is_within" ["number","many"] sW)(xM:aJ P w K mg base 1 "is_use" ["row"] pM)(J0:aJ P w K mg base 1 "cell_number" ["row","boxes"] qL)(qY:aJ P w K mg base 2 "row_at" ["roll","place"] qM):aJ P w K mg base 3 "use_matches" ["roll","steps","row"] w5:=
  aJ.of (N:=["roll","steps","row","time","boxes","roll_row"]) (k:=2) A Jx λf cdv A outer s H E hr=>by
    have hu:=d8 hr;unfold ZgJ;refine Zf ?_ ?_
    .exact bh 3 Jx.nd (Zx Zy (Zd 2) Zi)
    .refine Zf ?_ ?_
     .refine bH ?_ ?_ ?_
      .exact Dz (uM (bY (k:=1) (ps:=["number","many"]) xJ (hr.mono (by decide)) (Zc (Zd 3) (Zc (Zw kI (d_ (id:="len") fG T.fC fH (Zc (Zd 1) Zj)) Zi) Zj))))
      .exact Zo (aX zc)
      .exact bL
     .refine Zf ?_ ?_
      .exact bh 4 Jx.nd (Zx Zy (Zx Zy (Zd 1) (Zd 3)) Zi)
      .refine Zf ?_ ?_
       .exact bh 5 Jx.nd (bY (k:=2) (ps:=["roll","place"]) qY (hr.mono (by decide)) (Zc (Zd 0) (Zc (Zx Zy (Zx Zy (Zd 1) (Zd 3)) Zi) Zj)))
       .refine Zf ?_ ?_
        .refine bH ?_ ?_ ?_
         .refine CW.ct ?_;refine wM ?_ ?_
          .exact aW Qa (Zd 5) jT
          .exact wM (Dz (uM (bY (k:=1) (ps:=["row"]) xM (hr.mono (by decide)) (Zc (Zd 5) Zj)))) (zj (aW ((qH hu)) (Zx Zy (Zd 2) Zi) (Zx Zy (Zd 5) Zi)))
         .exact Zo (aX zc)
         .exact bL
        .refine Zf ?_ ?_
         .exact bH (aW ((qH hu)) (Zx Zy (Zd 2) Zi) (bY (k:=1) (ps:=["row","boxes"]) J0 (hr.mono (by decide)) (Zc (Zd 5) (Zc (Zd 4) Zj)))) (Zo (aX zc)) bL
         .refine Zf ?_ ?_
          .refine bH ?_ ?_ ?_
           .exact aW ((bK hu)) (Zx Zy (Zd 5) Zi) bA
           .refine Zo ?_;refine aX ?_;exact jD ((bK hu)) (Zx Zy (Zd 2) Zi) (Zx Zy (Zx Zy (Zx Zy (Zd 1) (Zw bT (Zd 3) Zi)) Zi) (Zx Zy (Zd 5) Zi))
           .exact bL
          .exact Zo (aX (jD ((bK hu)) (Zx Zy (Zd 2) Zi) (Zx Zy (Zd 4) (Zx Zy (Zd 5) Zi))))
theorem Zet:dD ["roll","steps","time"] ["roll","steps"] (Zt zW):=⟨rfl,rfl,rfl,by decide +kernel,rfl,by decide +kernel,by decide +kernel⟩
theorem Zgs(A:bC K mg "first_unfit_step" zW ["roll","steps"])(T:Txt K mg)(J8:aJ P w K mg base 4 "step_fits" ["roll","row","behind"] zF):aJ P w K mg base 5 "first_unfit_step" ["roll","steps"] Jo:=
  aJ.of (N:=["roll","steps","time"]) (k:=4) A Zet λf cdv A outer s H E hr=>by
    have hu:=d8 hr;unfold ZeE;refine Zf ?_ ?_
    .refine Iv ?_ ?_ ?_ ?_ ?_
     .exact rfl
     .exact rfl
     .exact zp T.xN (Zw kI (d_ (id:="len") fG T.fC fH (Zc (Zd 1) Zj)) Zi)
     .exact oE 2 Zet.nd
     .refine Zo ?_;refine bH ?_ ?_ ?_
      .exact Dz (uM (bY (k:=4) (ps:=["roll","row","behind"]) J8 (hr.mono (by decide)) (Zc (Zd 0) (Zc (Zx Zy (Zd 1) (Zd 2)) (Zc (Zx Zy (Zd 1) (Zw bT (Zd 2) Zi)) Zj)))))
      .exact Zo (aX (Zd 2))
      .exact bL
    .exact Zo (aX jT)
theorem Et:dD ["ahead","uses","before","number","row"] ["ahead","uses"] (Zt zX):=⟨rfl,rfl,rfl,by decide +kernel,rfl,by decide +kernel,by decide +kernel⟩
theorem ZgW(A:bC K mg "first_unfit_use" zX ["ahead","uses"])(T:Txt K mg)(Ka:aJ P w K mg base 1 "use_fits" ["ahead","row"] wZ):aJ P w K mg base 2 "first_unfit_use" ["ahead","uses"] Ej:=
  aJ.of (N:=["ahead","uses","before","number","row"]) (k:=1) A Et λf cdv A outer s H E hr=>by
    have hu:=d8 hr;unfold QL;refine Zf ?_ ?_
    .exact bh 2 Et.nd (Zd 0)
    .refine Zf ?_ ?_
     .refine Zos ?_ ?_ ?_ ?_ ?_
      .exact rfl
      .exact rfl
      .exact Zoo T.RZ (Zd 1)
      .exact DP rfl (jU 3 Et.nd (jU 4 Et.nd wN))
      .exact Zf (bH (Dz (uM (bY (k:=1) (ps:=["ahead","row"]) Ka (hr.mono (by decide)) (Zc (Zd 2) (Zc (Zd 4) Zj))))) (Zo (aX (Zd 3))) bL) (Zo (bh 2 Et.nd (Zd 4)))
     .exact Zo (aX jT)
theorem QV:dD ["roll","steps","uses","number","row"] ["roll","steps","uses"] (Zt zY):=⟨rfl,rfl,rfl,by decide +kernel,rfl,by decide +kernel,by decide +kernel⟩
theorem Zfw(A:bC K mg "first_unmatched_use" zY ["roll","steps","uses"])(T:Txt K mg)(J1:aJ P w K mg base 3 "use_matches" ["roll","steps","row"] w5):aJ P w K mg base 4 "first_unmatched_use" ["roll","steps","uses"] Ek:=
  aJ.of (N:=["roll","steps","uses","number","row"]) (k:=3) A QV λf cdv A outer s H E hr=>by
    have hu:=d8 hr;unfold ZdL;refine Zf ?_ ?_
    .refine Zos ?_ ?_ ?_ ?_ ?_
     .exact rfl
     .exact rfl
     .exact Zoo T.RZ (Zd 2)
     .exact DP rfl (jU 3 QV.nd (jU 4 QV.nd wN))
     .exact Zo (bH (Dz (uM (bY (k:=3) (ps:=["roll","steps","row"]) J1 (hr.mono (by decide)) (Zc (Zd 0) (Zc (Zd 1) (Zc (Zd 4) Zj)))))) (Zo (aX (Zd 3))) bL)
    .exact Zo (aX jT)
theorem QW:dD ["roll","boxes","steps","unfit","last"] ["roll","boxes","steps"] (Zt z6):=⟨rfl,rfl,rfl,by decide +kernel,rfl,by decide +kernel,by decide +kernel⟩
theorem Zho(A:bC K mg "fault_of_steps" z6 ["roll","boxes","steps"])(T:Txt K mg)(qY:aJ P w K mg base 2 "row_at" ["roll","place"] qM)(JT:aJ P w K mg base 5 "first_unfit_step" ["roll","steps"] Jo):aJ P w K mg base 6 "fault_of_steps" ["roll","boxes","steps"] Jp:=
  aJ.of (N:=["roll","boxes","steps","unfit","last"]) (k:=5) A QW λf cdv A outer s H E hr=>by
    have hu:=d8 hr;unfold Zfd;refine Zf ?_ ?_
    .refine bH ?_ ?_ ?_
     .refine CW.ct ?_;refine wM ?_ ?_
      .exact aW ((bK hu)) (d_ (id:="len") fG T.fC fH (Zc (Zd 2) Zj)) Zi
      .exact zj (aW ((qH hu)) (Zx Zy (Zd 2) Zi) (cQ (Zc Zi (Zc (Zd 1) Zj))))
     .exact Zo (aX (cQ (Zc bA (Zc Zi Zj))))
     .exact bL
    .refine Zf ?_ ?_
     .exact bh 3 QW.nd (bY (k:=5) (ps:=["roll","steps"]) JT (hr.mono (by decide)) (Zc (Zd 0) (Zc (Zd 2) Zj)))
     .refine Zf ?_ ?_
      .exact bH (aW zr (Zd 3) jT) (Zo (aX (cQ (Zc bA (Zc (Zd 3) Zj))))) bL
      .refine Zf ?_ ?_
       .exact bh 4 QW.nd (Zw kI (d_ (id:="len") fG T.fC fH (Zc (Zd 2) Zj)) Zi)
       .refine Zf ?_ ?_
        .refine bH ?_ ?_ ?_
         .exact aW ((qH hu)) (bY (k:=2) (ps:=["roll","place"]) qY (hr.mono (by decide)) (Zc (Zd 0) (Zc (Zx Zy (Zx Zy (Zd 2) (Zd 4)) Zi) Zj))) (cQ (Zc bA Zj))
         .exact Zo (aX (cQ (Zc bA (Zc (Zd 4) Zj))))
         .exact bL
        .exact Zo (aX jT)
theorem Jy:dD ["roll","steps","uses","unfit","unmatched","due"] ["roll","steps","uses"] (Zt z7):=⟨rfl,rfl,rfl,by decide +kernel,rfl,by decide +kernel,by decide +kernel⟩
theorem ZhD(A:bC K mg "fault_of_uses" z7 ["roll","steps","uses"])(T:Txt K mg)(xM:aJ P w K mg base 1 "is_use" ["row"] pM)(JV:aJ P w K mg base 2 "first_unfit_use" ["ahead","uses"] Ej)(JP:aJ P w K mg base 4 "first_unmatched_use" ["roll","steps","uses"] Ek):aJ P w K mg base 5 "fault_of_uses" ["roll","steps","uses"] El:=
  aJ.of (N:=["roll","steps","uses","unfit","unmatched","due"]) (k:=4) A Jy λf cdv A outer s H E hr=>by
    have hu:=d8 hr;unfold QM;refine Zf ?_ ?_
    .exact bh 3 Jy.nd (bY (k:=2) (ps:=["ahead","uses"]) JV (hr.mono (by decide)) (Zc jT (Zc (Zd 2) Zj)))
    .refine Zf ?_ ?_
     .exact bH (aW zr (Zd 3) jT) (Zo (aX (cQ (Zc bA (Zc (Zd 3) Zj))))) bL
     .refine Zf ?_ ?_
      .exact bh 4 Jy.nd (bY (k:=4) (ps:=["roll","steps","uses"]) JP (hr.mono (by decide)) (Zc (Zd 0) (Zc (Zd 1) (Zc (Zd 2) Zj))))
      .refine Zf ?_ ?_
       .exact bH (aW zr (Zd 4) jT) (Zo (aX (cQ (Zc bA (Zc (Zd 4) Zj))))) bL
       .refine Zf ?_ ?_
        .refine zA (N':=["roll","steps","uses","unfit","unmatched","due","row"]) 5 ?_ ?_ ?_ ?_ ?_ (λC cl s H ex=>⟨?_,?_,?_⟩)
         .exact uT rfl (by kernel_rfl)
         .exact rfl
         .exact rfl
         .exact Jy.nd
         .exact DX (gB gC (Zd 1) gw (gA (zf zq Zi)))
         .exact oE 6 ((show pU (["roll","steps","uses","unfit","unmatched","due","row"]:List aj)by decide +kernel))
         .exact I_ (uM (bY (k:=1) (ps:=["row"]) xM (hr.mono (by decide)) (Zc (Zx Zy (Zd 0) (Zx Zy (Zd 6) Zi)) Zj)))
         .exact Zd 6
        .refine Zf ?_ ?_
         .refine bH ?_ ?_ ?_
          .exact aW ((qH hu)) (d_ (id:="len") fG T.fC fH (Zc (Zd 2) Zj)) (d_ (id:="len") fG T.fC fH (Zc (Zd 5) Zj))
          .exact Zo (aX (cQ (Zc bA (Zc (d_ (id:="len") fG T.fC fH (Zc (Zd 2) Zj)) Zj))))
          .exact bL
         .exact Zo (aX jT)
theorem Zmg:dD ["roll","boxes","steps","uses","found"] ["roll","boxes","steps","uses"] (Zt zZ):=⟨rfl,rfl,rfl,by decide +kernel,rfl,by decide +kernel,by decide +kernel⟩
theorem Zrj(A:bC K mg "fault" zZ ["roll","boxes","steps","uses"])(T:Txt K mg)(JW:aJ P w K mg base 6 "fault_of_steps" ["roll","boxes","steps"] Jp)(JX:aJ P w K mg base 5 "fault_of_uses" ["roll","steps","uses"] El):aJ P w K mg base 7 "fault" ["roll","boxes","steps","uses"] Em:=
  aJ.of (N:=["roll","boxes","steps","uses","found"]) (k:=6) A Zmg λf cdv A outer s H E hr=>by
    have hu:=d8 hr;unfold Zov;refine Zf ?_ ?_
    .exact bh 4 Zmg.nd (bY (k:=6) (ps:=["roll","boxes","steps"]) JW (hr.mono (by decide)) (Zc (Zd 0) (Zc (Zd 1) (Zc (Zd 2) Zj))))
    .exact Zo (aX (DG (aW zr (Zd 4) jT) (Zd 4) (bY (k:=5) (ps:=["roll","steps","uses"]) JX (hr.mono (by decide)) (Zc (Zd 0) (Zc (Zd 2) (Zc (Zd 3) Zj))))))
theorem QX:dD ["cell","k","number"] ["cell","k"] (Zt z8):=⟨rfl,rfl,rfl,by decide +kernel,rfl,by decide +kernel,by decide +kernel⟩
theorem Zms(A:bC K mg "_law_mix" z8 ["cell","k"])(T:Txt K mg):aJ P w K mg base 1 "_law_mix" ["cell","k"] g_:=
  aJ.of (N:=["cell","k","number"]) (k:=0) A QX λf cdv A outer s H E hr=>by
    have hu:=d8 hr;unfold En;refine Zf ?_ ?_
    .refine bH ?_ ?_ ?_
     .exact CW.ct (wM (aW P_ (Zd 0) (zf zq (Zw Iz Zi Zi))) (zj (aW Z5 (Zd 0) (Zw Iz Zi Zi))))
     .exact Zo (aX (Zd 0))
     .exact bL
    .refine Zf ?_ ?_
     .exact bh 2 QX.nd (Zw bT (Zw bT (Zw bT (Zw oG Zi (Zd 0)) (Zw oG (Zd 1) (Zd 1))) (Zw oG Zi (Zd 1))) Zi)
     .refine Zf ?_ ?_
      .exact bh 2 QX.nd (Zw dH (Zw oG (Zw bT (Zd 0) Zi) (Zd 2)) Zi)
      .exact Zo (aX (Zw bT (Zw oG (Zd 2) (Zd 2)) (Zw fM (Zd 2) Zi)))
theorem Zi4:dD ["number"] ["number"] (Zt z9):=⟨rfl,rfl,rfl,by decide +kernel,rfl,by decide +kernel,by decide +kernel⟩
theorem ZjA(A:bC K mg "_law_number" z9 ["number"])(T:Txt K mg):aJ P w K mg base 1 "_law_number" ["number"] kJ:=
  aJ.of (N:=["number"]) (k:=0) A Zi4 λf cdv A outer s H E hr=>by
    have hu:=d8 hr;unfold Eo;refine Zf ?_ ?_
    .exact bH (aW IK (Zw dH (Zd 0) Zi) Zi) (Zo (aX (Zw kI (Zw dH (Zw fM (Zd 0) Zi) Zi) Zi))) bL
    .refine Zf ?_ ?_
     .refine bH ?_ ?_ ?_
      .exact aW ((bK hu)) (Zw dH (Zw fM (Zd 0) Zi) Zi) Zi
      .exact Zo (aX (Zw dH (Zw fM (Zd 0) Zi) (Zw Iz Zi Zi)))
      .exact bL
     .exact Zo (aX (zf zq (Zw dH (Zw fM (Zd 0) Zi) (Zw Iz Zi Zi))))
theorem qN:dD ["cell","k","size","number","words","word","a","b","c","to"] ["cell","k","size"] (Zt z_):=⟨rfl,rfl,rfl,by decide +kernel,rfl,by decide +kernel,by decide +kernel⟩
theorem ZmF(A:bC K mg "_law_row" z_ ["cell","k","size"])(T:Txt K mg)(jG:aJ P w K mg base 1 "_law_mix" ["cell","k"] g_)(qX:aJ P w K mg base 1 "_law_number" ["number"] kJ):aJ P w K mg base 2 "_law_row" ["cell","k","size"] sX:=
  aJ.of (N:=["cell","k","size","number","words","word","a","b","c","to"]) (k:=1) A qN λf cdv A outer s H E hr=>by
    have hu:=d8 hr;unfold Jq;refine Zf ?_ ?_
    .exact bh 3 qN.nd (bY (k:=1) (ps:=["cell","k"]) jG (hr.mono (by decide)) (Zc (Zd 0) (Zc (Zd 1) Zj)))
    .refine Zf ?_ ?_
     .refine bh 4 ?_ ?_
      .exact qN.nd
      .refine gO ?_;refine Zc ?_ ?_
       .exact bA
       .refine Zc ?_ ?_
        .exact bA
        .exact Zc bA (Zc bA (Zc bA (Zc bA (Zc bA (Zc bA (Zc bA (Zc bA (Zc bA (Zc bA Zj)))))))))
     .refine Zf ?_ ?_
      .exact bh 5 qN.nd (Zx Zy (Zw bT (Zd 4) (gO (Zc bA (Zc bA (Zc bA (Zc bA Zj)))))) (Zw dH (Zd 3) Zi))
      .refine Zf ?_ ?_
       .exact bh 3 qN.nd (Zw fM (Zd 3) Zi)
       .refine Zf ?_ ?_
        .exact bH (aW ((bK hu)) (Zw dH (Zd 3) Zi) Zi) (Zo (aX (cQ (Zc bA Zj)))) bL
        .refine Zf ?_ ?_
         .exact bh 6 qN.nd (Zw dH (Zd 3) Zi)
         .refine Zf ?_ ?_
          .exact bh 7 qN.nd (Zw dH (Zw fM (Zd 3) Zi) Zi)
          .refine Zf ?_ ?_
           .exact bh 8 qN.nd (Zw dH (Zw fM (Zd 3) Zi) Zi)
           .refine Zf ?_ ?_
            .exact bh 9 qN.nd (Zw bT (Zw bT (Zd 1) Zi) (Zw dH (Zw fM (Zd 3) Zi) (Zw kI (Zd 2) (Zd 1))))
            .refine Zf ?_ ?_
             .refine bH ?_ ?_ ?_
              .exact aW ((bK hu)) (Zw dH (Zw fM (Zd 3) Zi) Zi) Zi
              .exact Zo (bh 9 qN.nd (Zw dH (Zw fM (Zd 3) Zi) (Zw bT (Zd 2) Zi)))
              .exact bL
             .refine Zf ?_ ?_
              .refine bH ?_ ?_ ?_
               .exact aW ((bK hu)) (Zd 5) bA
               .exact Zo (aX (cQ (Zc (Zd 5) (Zc (Zd 6) (Zc (bY (k:=1) (ps:=["number"]) qX (hr.mono (by decide)) (Zc (Zw fM (Zd 3) Zi) Zj)) Zj)))))
               .exact bL
              .refine Zf ?_ ?_
               .refine bH ?_ ?_ ?_
                .exact aW ((Ql hu)) (Zd 5) (cQ (Zc bA (Zc bA (Zc bA Zj))))
                .exact Zo (aX (cQ (Zc (Zd 5) (Zc (Zd 6) (Zc (Zd 7) (Zc (Zd 8) Zj))))))
                .exact bL
               .refine Zf ?_ ?_
                .exact bH (aW ((bK hu)) (Zd 5) bA) (Zo (aX (cQ (Zc (Zd 5) (Zc (Zd 9) Zj))))) bL
                .refine Zf ?_ ?_
                 .exact bH (aW ((bK hu)) (Zd 5) bA) (Zo (aX (cQ (Zc (Zd 5) (Zc (Zd 6) (Zc (Zd 9) Zj)))))) bL
                 .refine Zo ?_;refine aX ?_;refine Zx ?_ ?_ ?_
                  .exact Zy
                  .exact gO (Zc (cQ (Zc (Zd 5) (Zc (Zd 6) (Zc (Zd 7) Zj)))) (Zc (cQ (Zc (Zd 5) (Zc (Zd 6) Zj))) Zj))
                  .exact iC (T:="int") QF T.Kp Qn (Zc (jD ((bK hu)) (Zd 5) bA) Zj)
theorem Al:dD ["script","cells","rows","last","number"] ["script"] (Zt Aa):=⟨rfl,rfl,rfl,by decide +kernel,rfl,by decide +kernel,by decide +kernel⟩
theorem Zll(A:bC K mg "_law_roll" Aa ["script"])(T:Txt K mg)(jG:aJ P w K mg base 1 "_law_mix" ["cell","k"] g_)(Kc:aJ P w K mg base 2 "_law_row" ["cell","k","size"] sX):aJ P w K mg base 3 "_law_roll" ["script"] Er:=
  aJ.of (N:=["script","cells","rows","last","number"]) (k:=2) A Al λf cdv A outer s H E hr=>by
    have hu:=d8 hr;unfold Ep;refine Zf ?_ ?_
    .exact bh 1 Al.nd (gB gC (Zd 0) gw (gA Zi))
    .refine Zf ?_ ?_
     .refine zA (N':=["script","cells","rows","last","number","k"]) 2 ?_ ?_ ?_ ?_ ?_ (λC cl s H ex=>⟨?_,?_,?_⟩)
      .exact uT rfl (by kernel_rfl)
      .exact rfl
      .exact rfl
      .exact Al.nd
      .exact zp T.xN (d_ (id:="len") fG T.fC fH (Zc (Zd 1) Zj))
      .exact oE 5 ((show pU (["script","cells","rows","last","number","k"]:List aj)by decide +kernel))
      .exact IW
      .exact bY (k:=2) (ps:=["cell","k","size"]) Kc (hr.mono (by decide)) (Zc (Zx Zy (Zd 1) (Zd 5)) (Zc (Zd 5) (Zc (d_ (id:="len") fG T.fC fH (Zc (Zd 1) Zj)) Zj)))
     .refine Zf ?_ ?_
      .exact bh 3 Al.nd (cQ (Zc bA Zj))
      .refine Zf ?_ ?_
       .refine bH ?_ ?_ ?_
        .refine CW.ct ?_;exact uO (aW wR (d_ (id:="len") fG T.fC fH (Zc (Zd 1) Zj)) Zi) (uN (aW ((bK hu)) (Zw dH (Zx Zy (Zd 1) Zi) Zi) Zi))
        .refine Zf ?_ ?_
         .exact bh 4 Al.nd (bY (k:=1) (ps:=["cell","k"]) jG (hr.mono (by decide)) (Zc (Zx Zy (Zd 1) Zi) (Zc Zi Zj)))
         .refine Zf ?_ ?_
          .exact wW (Zd 2) (Zw dH (Zd 4) (d_ (id:="len") fG T.fC fH (Zc (Zd 2) Zj))) (Zd 3)
          .refine Zo ?_;refine bh 3 ?_ ?_
           .exact Al.nd
           .exact cQ (Zc bA (Zc (Zw dH (Zw fM (Zd 4) Zi) (Zw bT (d_ (id:="len") fG T.fC fH (Zc (Zd 2) Zj)) Zi)) Zj))
        .exact bL
       .exact Zo (aX (iC (T:="tuple") mQ T.lZ mR (Zc (Zw bT (Zd 2) (gO (Zc (Zd 3) Zj))) Zj)))
theorem Eu:dD ["script","found","k","cell"] ["script"] (Zt Ab):=⟨rfl,rfl,rfl,by decide +kernel,rfl,by decide +kernel,by decide +kernel⟩
theorem ZjN(A:bC K mg "_law_boxes" Ab ["script"])(T:Txt K mg)(jG:aJ P w K mg base 1 "_law_mix" ["cell","k"] g_)(qX:aJ P w K mg base 1 "_law_number" ["number"] kJ):aJ P w K mg base 2 "_law_boxes" ["script"] Jr:=
  aJ.of (N:=["script","found","k","cell"]) (k:=1) A Eu λf cdv A outer s H E hr=>by
    have hu:=d8 hr;unfold Zhb;refine Zf ?_ ?_
    .exact bh 1 Eu.nd (gO Zj)
    .refine Zf ?_ ?_
     .refine Iv ?_ ?_ ?_ ?_ ?_
      .exact rfl
      .exact rfl
      .exact zp T.xN Zi
      .exact oE 2 Eu.nd
      .refine Zf ?_ ?_
       .exact bh 3 Eu.nd Zi
       .refine Zf ?_ ?_
        .refine bH ?_ ?_ ?_
         .exact aW wR (d_ (id:="len") fG T.fC fH (Zc (Zd 0) Zj)) Zi
         .exact Zo (bh 3 Eu.nd (Zx Zy (Zd 0) (Zw dH (Zw bT (Zw oG Zi (Zd 2)) Zi) (d_ (id:="len") fG T.fC fH (Zc (Zd 0) Zj)))))
         .exact bL
        .exact Zo (DK (DY (Zd 1) (Zc (bY (k:=1) (ps:=["number"]) qX (hr.mono (by decide)) (Zc (bY (k:=1) (ps:=["cell","k"]) jG (hr.mono (by decide)) (Zc (Zd 3) (Zc (Zw bT Zi (Zd 2)) Zj))) Zj)) Zj)))
     .exact Zo (aX (iC (T:="tuple") mQ T.lZ mR (Zc (Zd 1) Zj)))
theorem Zhw:dD ["row","place","boxes","cells","word"] ["row","place","boxes","cells"] (Zt Ac):=⟨rfl,rfl,rfl,by decide +kernel,rfl,by decide +kernel,by decide +kernel⟩
theorem Zlz(A:bC K mg "_law_goes" Ac ["row","place","boxes","cells"])(T:Txt K mg):aJ P w K mg base 1 "_law_goes" ["row","place","boxes","cells"] pN:=
  aJ.of (N:=["row","place","boxes","cells","word"]) (k:=0) A Zhw λf cdv A outer s H E hr=>by
    have hu:=d8 hr;unfold QQ;refine Zf ?_ ?_
    .exact bh 4 Zhw.nd (Zx Zy (Zd 0) Zi)
    .refine Zf ?_ ?_
     .refine bH ?_ ?_ ?_
      .exact aW ((bK hu)) (Zd 4) bA
      .exact Zo (wW (Zd 2) (Zx Zy (Zd 0) Zi) (Zx Zy (Zd 0) Zi))
      .refine Zo ?_;refine bH ?_ ?_ ?_
       .exact aW ((bK hu)) (Zd 4) bA
       .refine Zo ?_;exact wW (Zd 2) (Zx Zy (Zd 0) Zi) (Zw bT (Zx Zy (Zd 2) (Zx Zy (Zd 0) Zi)) (Zx Zy (Zd 2) (Zx Zy (Zd 0) Zi)))
       .refine Zo ?_;refine bH ?_ ?_ ?_
        .exact aW ((bK hu)) (Zd 4) bA
        .refine Zo ?_;exact wW (Zd 2) (Zx Zy (Zd 0) Zi) (Zw kI (Zx Zy (Zd 2) (Zx Zy (Zd 0) Zi)) (Zx Zy (Zd 2) (Zx Zy (Zd 0) Zi)))
        .refine Zo ?_;refine bH ?_ ?_ ?_
         .exact aW ((bK hu)) (Zd 4) bA
         .refine Zo ?_;refine wW ?_ ?_ ?_
          .exact Zd 2
          .exact Zx Zy (Zd 0) Zi
          .exact iC (T:="int") QF T.Kp Qn (Zc (jD wR (Zx Zy (Zd 2) (Zx Zy (Zd 0) Zi)) (Zx Zy (Zd 2) (Zx Zy (Zd 0) Zi))) Zj)
         .refine Zo ?_;refine bH ?_ ?_ ?_
          .exact aW ((bK hu)) (Zd 4) bA
          .exact Zo (wW (Zd 2) (Zx Zy (Zd 0) Zi) (ZqR hu (Zd 3) (Zx Zy (Zd 2) (Zx Zy (Zd 0) Zi)) Zi))
          .refine Zo ?_;refine bH ?_ ?_ ?_
           .exact aW ((bK hu)) (Zd 4) bA
           .exact Zo (ZsA hu (Zd 3) (Zx Zy (Zd 2) (Zx Zy (Zd 0) Zi)) (Zx Zy (Zd 2) (Zx Zy (Zd 0) Zi)))
           .refine Zo ?_;refine bH ?_ ?_ ?_
            .refine CW.ct ?_;refine wM ?_ ?_
             .exact aW ((bK hu)) (Zd 4) bA
             .exact zj (CW.ct (uO (aW ((bK hu)) (Zd 4) bA) (uN (aW wR (Zx Zy (Zd 2) (Zx Zy (Zd 0) Zi)) Zi))))
            .exact Zo (aX (Zx Zy (Zd 0) (zf zq Zi)))
            .exact bL
     .exact Zo (aX (Zw bT (Zd 1) Zi))
theorem xr:dD ["roll","first","most","place","boxes","cells","states","kept"] ["roll","first","most"] (Zt Ad):=⟨rfl,rfl,rfl,by decide +kernel,rfl,by decide +kernel,by decide +kernel⟩
theorem Zjb(A:bC K mg "_law_states" Ad ["roll","first","most"])(T:Txt K mg)(xK:aJ P w K mg base 1 "_law_goes" ["row","place","boxes","cells"] pN):aJ P w K mg base 2 "_law_states" ["roll","first","most"] Es:=
  aJ.of (N:=["roll","first","most","place","boxes","cells","states","kept"]) (k:=1) A xr λf cdv A outer s H E hr=>by
    have hu:=d8 hr;unfold ZgE;refine Zf ?_ ?_
    .exact bh 3 xr.nd Zi
    .refine Zf ?_ ?_
     .exact bh 4 xr.nd (iC (T:="list") D_ T.Be Ea (Zc (Zd 1) Zj))
     .refine Zf ?_ ?_
      .exact bh 5 xr.nd ZqI
      .refine Zf ?_ ?_
       .exact bh 6 xr.nd (gO (Zc (cQ (Zc Zi (Zc (iC (T:="tuple") mQ T.lZ mR (Zc (Zd 1) Zj)) (Zc (cQ Zj) Zj)))) Zj))
       .refine Zf ?_ ?_
        .refine ZZ ?_ ?_ ?_
         .exact rfl
         .refine CW.ct ?_;exact uO (aW ((qH hu)) (Zx Zy (Zx Zy (Zd 0) (Zd 3)) Zi) bA) (uN (aW P_ (d_ (id:="len") fG T.fC fH (Zc (Zd 6) Zj)) (Zd 2)))
         .refine Zf ?_ ?_
          .exact bh 3 xr.nd (bY (k:=1) (ps:=["row","place","boxes","cells"]) xK (hr.mono (by decide)) (Zc (Zx Zy (Zd 0) (Zd 3)) (Zc (Zd 3) (Zc (Zd 4) (Zc (Zd 5) Zj)))))
          .refine Zf ?_ ?_
           .refine Zpb (N':=["roll","first","most","place","boxes","cells","states","kept","number"]) 7 5 ?_ ?_ ?_ ?_ ?_ (λC cl s H ex=>⟨?_,?_,?_⟩)
            .exact uT rfl (by kernel_rfl)
            .exact rfl
            .exact rfl
            .exact xr.nd
            .exact Zd 5
            .exact oE 8 ((show pU (["roll","first","most","place","boxes","cells","states","kept","number"]:List aj)by decide +kernel))
            .exact I_ (aW ((qH hu)) (ZpP hu (Zd 5) (Zd 8)) Zi)
            .exact cQ (Zc (Zd 8) (Zc (ZpP hu (Zd 5) (Zd 8)) Zj))
           .refine Zo ?_;refine DK ?_;refine DY ?_ ?_
            .exact Zd 6
            .refine Zc ?_ ?_
             .refine cQ ?_;refine Zc ?_ ?_
              .exact Zd 3
              .refine Zc ?_ ?_
               .exact iC (T:="tuple") mQ T.lZ mR (Zc (Zd 4) Zj)
               .exact Zc (iC (T:="tuple") mQ T.lZ mR (Zc (d_ (id:="sorted") Qx T.Ke Qm (Zc (Zd 7) Zj)) Zj)) Zj
             .exact Zj
        .exact Zo (aX (Zd 6))
theorem Am:dD ["roll","states","rows","time","place","boxes","row"] ["roll","states"] (Zt Ae):=⟨rfl,rfl,rfl,by decide +kernel,rfl,by decide +kernel,by decide +kernel⟩
theorem Zk3(A:bC K mg "_law_uses" Ae ["roll","states"])(T:Txt K mg):aJ P w K mg base 1 "_law_uses" ["roll","states"] uV:=
  aJ.of (N:=["roll","states","rows","time","place","boxes","row"]) (k:=0) A Am λf cdv A outer s H E hr=>by
    have hu:=d8 hr;unfold Zib;refine Zf ?_ ?_
    .exact bh 2 Am.nd (gO Zj)
    .refine Zf ?_ ?_
     .refine Iv ?_ ?_ ?_ ?_ ?_
      .exact rfl
      .exact rfl
      .exact zp T.xN (Zw kI (d_ (id:="len") fG T.fC fH (Zc (Zd 1) Zj)) Zi)
      .exact oE 3 Am.nd
      .refine Zf ?_ ?_
       .exact QG (gB gC (Zx Zy (Zd 1) (Zd 3)) gw (gA Zi)) (DP rfl (jU 4 Am.nd (jU 5 Am.nd wN)))
       .refine Zf ?_ ?_
        .exact bh 6 Am.nd (Zx Zy (Zd 0) (Zd 4))
        .refine Zf ?_ ?_
         .refine bH ?_ ?_ ?_
          .exact aW ((bK hu)) (Zx Zy (Zd 6) Zi) bA
          .refine Zo ?_;refine DK ?_;refine DY ?_ ?_
           .exact Zd 2
           .refine Zc ?_ ?_
            .refine cQ ?_;refine Zc ?_ ?_
             .exact Zx Zy (Zd 5) (Zx Zy (Zd 6) Zi)
             .exact Zc (Zd 3) (Zc bA (Zc (Zx Zy (Zx Zy (Zx Zy (Zd 1) (Zw bT (Zd 3) Zi)) Zi) (Zx Zy (Zd 6) Zi)) Zj))
            .exact Zj
          .exact bL
         .refine Zo ?_;refine bH ?_ ?_ ?_
          .exact aW ((bK hu)) (Zx Zy (Zd 6) Zi) bA
          .refine Zo ?_;refine DK ?_;refine DY ?_ ?_
           .exact Zd 2
           .refine Zc ?_ ?_
            .exact cQ (Zc (Zx Zy (Zd 5) (Zx Zy (Zd 6) Zi)) (Zc (Zd 3) (Zc bA (Zc (Zx Zy (Zd 5) (Zx Zy (Zd 6) Zi)) Zj))))
            .exact Zj
          .exact bL
     .exact Zo (aX (iC (T:="tuple") mQ T.lZ mR (Zc (d_ (id:="sorted") Qx T.Ke Qm (Zc (Zd 2) Zj)) Zj)))
theorem ZkY:dD ["script","k"] ["script","k"] (Zt Af):=⟨rfl,rfl,rfl,by decide +kernel,rfl,by decide +kernel,by decide +kernel⟩
theorem Zk5(A:bC K mg "_law_cell" Af ["script","k"])(T:Txt K mg):aJ P w K mg base 1 "_law_cell" ["script","k"] mU:=
  aJ.of (N:=["script","k"]) (k:=0) A ZkY λf cdv A outer s H E hr=>by
    have hu:=d8 hr;unfold Js;refine Zf ?_ ?_
    .refine bH ?_ ?_ ?_
     .exact aW ((bK hu)) (d_ (id:="len") fG T.fC fH (Zc (Zd 0) Zj)) Zi
     .exact Zo (aX (Zw bT (Zw oG (Zw oG Zi (Zd 1)) (Zd 1)) (Zw oG Zi (Zd 1))))
     .exact bL
    .refine Zo ?_;refine aX ?_;refine Zw ?_ ?_ ?_
     .exact bT
     .exact Zx Zy (Zd 0) (Zw dH (Zd 1) (d_ (id:="len") fG T.fC fH (Zc (Zd 0) Zj)))
     .exact Zw fM (Zd 1) (d_ (id:="len") fG T.fC fH (Zc (Zd 0) Zj))
theorem xu:dD ["roll","first","most","at","value","place","boxes","cells","states","row"] ["roll","first","most","at","value"] (Zt Ag):=⟨rfl,rfl,rfl,by decide +kernel,rfl,by decide +kernel,by decide +kernel⟩
theorem ZjH(A:bC K mg "_law_lying" Ag ["roll","first","most","at","value"])(T:Txt K mg)(xK:aJ P w K mg base 1 "_law_goes" ["row","place","boxes","cells"] pN):aJ P w K mg base 2 "_law_lying" ["roll","first","most","at","value"] Jt:=
  aJ.of (N:=["roll","first","most","at","value","place","boxes","cells","states","row"]) (k:=1) A xu λf cdv A outer s H E hr=>by
    have hu:=d8 hr;unfold Zg0;refine Zf ?_ ?_
    .exact bh 5 xu.nd Zi
    .refine Zf ?_ ?_
     .exact bh 6 xu.nd (iC (T:="list") D_ T.Be Ea (Zc (Zd 1) Zj))
     .refine Zf ?_ ?_
      .exact bh 7 xu.nd ZqI
      .refine Zf ?_ ?_
       .exact bh 8 xu.nd (gO (Zc (cQ (Zc Zi (Zc (iC (T:="tuple") mQ T.lZ mR (Zc (Zd 1) Zj)) Zj))) Zj))
       .refine Zf ?_ ?_
        .refine ZZ ?_ ?_ ?_
         .exact rfl
         .refine CW.ct ?_;exact uO (aW ((qH hu)) (Zx Zy (Zx Zy (Zd 0) (Zd 5)) Zi) bA) (uN (aW P_ (d_ (id:="len") fG T.fC fH (Zc (Zd 8) Zj)) (Zd 2)))
         .refine Zf ?_ ?_
          .exact bh 9 xu.nd (Zx Zy (Zd 0) (Zd 5))
          .refine Zf ?_ ?_
           .exact bh 5 xu.nd (bY (k:=1) (ps:=["row","place","boxes","cells"]) xK (hr.mono (by decide)) (Zc (Zd 9) (Zc (Zd 5) (Zc (Zd 6) (Zc (Zd 7) Zj)))))
           .refine Zf ?_ ?_
            .refine bH ?_ ?_ ?_
             .refine CW.ct ?_;exact uO (aW ((bK hu)) (d_ (id:="len") fG T.fC fH (Zc (Zd 8) Zj)) (Zw bT (Zd 3) Zi)) (uN (aW ((bK hu)) (Zx Zy (Zd 9) Zi) bA))
             .exact Zo (wW (Zd 6) (Zx Zy (Zd 9) Zi) (Zd 4))
             .exact bL
            .exact Zo (DK (DY (Zd 8) (Zc (cQ (Zc (Zd 5) (Zc (iC (T:="tuple") mQ T.lZ mR (Zc (Zd 6) Zj)) Zj))) Zj)))
        .exact Zo (aX (Zd 8))
theorem Ao:dD ["roll","steps","kind","more","at","place","boxes","spot","number"] ["roll","steps","kind","more"] (Zt Ah):=⟨rfl,rfl,rfl,by decide +kernel,rfl,by decide +kernel,by decide +kernel⟩
theorem ZfS(A:bC K mg "_law_steps_changed" Ah ["roll","steps","kind","more"])(T:Txt K mg):aJ P w K mg base 1 "_law_steps_changed" ["roll","steps","kind","more"] w6:=
  aJ.of (N:=["roll","steps","kind","more","at","place","boxes","spot","number"]) (k:=0) A Ao λf cdv A outer s H E hr=>by
    have hu:=d8 hr;unfold QR;refine Zf ?_ ?_
    .exact bh 4 Ao.nd (Zw dH (Zd 3) (d_ (id:="len") fG T.fC fH (Zc (Zd 1) Zj)))
    .refine Zf ?_ ?_
     .exact QG (Zx Zy (Zd 1) (Zd 4)) (DP rfl (jU 5 Ao.nd (jU 6 Ao.nd wN)))
     .refine Zf ?_ ?_
      .exact bh 7 Ao.nd (Zw dH (Zw fM (Zd 3) Zi) Zi)
      .refine Zf ?_ ?_
       .refine bH ?_ ?_ ?_
        .exact aW ((bK hu)) (Zd 2) Zi
        .refine Zf ?_ ?_
         .exact bh 8 Ao.nd (Zw kI (Zw bT (Zx Zy (Zd 6) (Zd 7)) Zi) (Zw oG Zi (Zw dH (Zw fM (Zd 3) Zi) Zi)))
         .refine Zo ?_;refine aX ?_;refine Zw ?_ ?_ ?_
          .exact bT
          .refine Zw ?_ ?_ ?_
           .exact bT
           .exact gB gC (Zd 1) gw (gA (Zd 4))
           .refine gO ?_;refine Zc ?_ ?_
            .refine cQ ?_;refine Zc ?_ ?_
             .exact Zd 5
             .refine Zc ?_ ?_
              .refine Zw ?_ ?_ ?_
               .exact bT
               .exact Zw bT (gB gC (Zd 6) gw (gA (Zd 7))) (cQ (Zc (Zd 8) Zj))
               .exact gB gC (Zd 6) (gA (Zw bT (Zd 7) Zi)) gw
              .exact Zj
            .exact Zj
          .exact gB gC (Zd 1) (gA (Zw bT (Zd 4) Zi)) gw
        .exact bL
       .refine Zf ?_ ?_
        .refine bH ?_ ?_ ?_
         .exact aW ((bK hu)) (Zd 2) Zi
         .refine Zo ?_;refine aX ?_;refine Zw ?_ ?_ ?_
          .exact bT
          .refine Zw ?_ ?_ ?_
           .exact bT
           .exact gB gC (Zd 1) gw (gA (Zd 4))
           .refine gO ?_;refine Zc ?_ ?_
            .refine cQ ?_;refine Zc ?_ ?_
             .exact Zw kI (Zw dH (Zw fM (Zd 3) Zi) (Zw bT (d_ (id:="len") fG T.fC fH (Zc (Zd 0) Zj)) Zi)) Zi
             .exact Zc (Zd 6) Zj
            .exact Zj
          .exact gB gC (Zd 1) (gA (Zw bT (Zd 4) Zi)) gw
         .exact bL
        .refine Zf ?_ ?_
         .exact bH (aW ((bK hu)) (Zd 2) Zi) (Zo (aX (gB gC (Zd 1) gw (gA (zf zq Zi))))) bL
         .refine Zf ?_ ?_
          .refine bH ?_ ?_ ?_
           .exact aW ((bK hu)) (Zd 2) Zi
           .refine Zo ?_;refine aX ?_;refine Zw ?_ ?_ ?_
            .exact bT
            .exact Zw bT (gB gC (Zd 1) gw (gA (Zd 4))) (gO (Zc (Zx Zy (Zd 1) (Zd 4)) Zj))
            .exact gB gC (Zd 1) (gA (Zd 4)) gw
           .exact bL
          .refine Zf ?_ ?_
           .refine bH ?_ ?_ ?_
            .exact aW ((bK hu)) (Zd 2) Zi
            .exact Zo (aX (Zw bT (gB gC (Zd 1) gw (gA (Zd 4))) (gB gC (Zd 1) (gA (Zw bT (Zd 4) Zi)) gw)))
            .exact bL
           .exact Zo (aX (Zw bT (Zd 1) (gO (Zc (cQ (Zc (Zd 5) (Zc (Zd 6) Zj))) Zj))))
theorem mV:dD ["uses","kind","more","at","number","time","word","value","there","some","row"] ["uses","kind","more"] (Zt Ai):=⟨rfl,rfl,rfl,by decide +kernel,rfl,by decide +kernel,by decide +kernel⟩
theorem Zf1(A:bC K mg "_law_uses_changed" Ai ["uses","kind","more"])(T:Txt K mg):aJ P w K mg base 1 "_law_uses_changed" ["uses","kind","more"] xg:=
  aJ.of (N:=["uses","kind","more","at","number","time","word","value","there","some","row"]) (k:=0) A mV λf cdv A outer s H E hr=>by
    have hu:=d8 hr;unfold Ju;refine Zf ?_ ?_
    .refine bH ?_ ?_ ?_
     .exact aW ((bK hu)) (d_ (id:="len") fG T.fC fH (Zc (Zd 0) Zj)) Zi
     .refine Zo ?_;refine aX ?_;refine gO ?_;refine Zc ?_ ?_
      .refine cQ ?_;refine Zc ?_ ?_
       .exact Zw kI (Zw dH (Zd 2) Zi) Zi
       .refine Zc ?_ ?_
        .exact Zw dH (Zw fM (Zd 2) Zi) Zi
        .exact Zc (Zx Zy (gO (Zc bA (Zc bA Zj))) (Zw dH (Zd 2) Zi)) (Zc Zi Zj)
      .exact Zj
     .exact bL
    .refine Zf ?_ ?_
     .exact bh 3 mV.nd (Zw dH (Zd 2) (d_ (id:="len") fG T.fC fH (Zc (Zd 0) Zj)))
     .refine Zf ?_ ?_
      .exact QG (Zx Zy (Zd 0) (Zd 3)) (DP rfl (jU 4 mV.nd (jU 5 mV.nd (jU 6 mV.nd (jU 7 mV.nd wN)))))
      .refine Zf ?_ ?_
       .refine bH ?_ ?_ ?_
        .exact aW ((bK hu)) (Zd 1) Zi
        .exact Zo (aX (Zw bT (gB gC (Zd 0) gw (gA (Zd 3))) (gB gC (Zd 0) (gA (Zw bT (Zd 3) Zi)) gw)))
        .exact bL
       .refine Zf ?_ ?_
        .refine bH ?_ ?_ ?_
         .exact aW ((bK hu)) (Zd 1) Zi
         .refine Zo ?_;refine aX ?_;refine Zw ?_ ?_ ?_
          .exact bT
          .exact Zw bT (gB gC (Zd 0) gw (gA (Zd 3))) (gO (Zc (Zx Zy (Zd 0) (Zd 3)) Zj))
          .exact gB gC (Zd 0) (gA (Zd 3)) gw
         .exact bL
        .refine Zf ?_ ?_
         .refine bH ?_ ?_ ?_
          .exact aW ((bK hu)) (Zd 1) Zi
          .refine Zf ?_ ?_
           .exact bh 8 mV.nd (Zw dH (Zw fM (Zd 2) Zi) (d_ (id:="len") fG T.fC fH (Zc (Zd 0) Zj)))
           .refine Zf ?_ ?_
            .exact bh 9 mV.nd (iC (T:="list") D_ T.Be Ea (Zc (Zd 0) Zj))
            .exact Zf (Zq2 rfl (cQ (Zc (Zx Zy (Zd 0) (Zd 8)) (Zc (Zx Zy (Zd 0) (Zd 3)) Zj))) (Zd 9) (Zd 3) (Zd 9) (Zd 8)) (Zo (aX (Zd 9)))
          .exact bL
         .refine Zf ?_ ?_
          .refine bh 10 ?_ ?_
           .exact mV.nd
           .refine cQ ?_;refine Zc ?_ ?_
            .exact Zd 4
            .exact Zc (Zd 5) (Zc (Zd 6) (Zc (Zw kI (Zw bT (Zd 7) Zi) (Zw oG Zi (Zw dH (Zw fM (Zd 2) Zi) Zi))) Zj))
          .refine Zf ?_ ?_
           .refine bH ?_ ?_ ?_
            .exact aW ((bK hu)) (Zd 1) Zi
            .refine Zo ?_;refine bh 10 ?_ ?_
             .exact mV.nd
             .refine cQ ?_;refine Zc ?_ ?_
              .exact Zw kI (Zw bT (Zd 4) Zi) (Zw oG Zi (Zw dH (Zw fM (Zd 2) Zi) Zi))
              .exact Zc (Zd 5) (Zc (Zd 6) (Zc (Zd 7) Zj))
            .exact bL
           .refine Zf ?_ ?_
            .refine bH ?_ ?_ ?_
             .exact aW ((bK hu)) (Zd 1) Zi
             .exact Zo (bh 10 mV.nd (cQ (Zc (Zd 4) (Zc (Zw kI (Zw dH (Zw fM (Zd 2) Zi) Zi) Zi) (Zc (Zd 6) (Zc (Zd 7) Zj))))))
             .exact bL
            .refine Zf ?_ ?_
             .refine bH ?_ ?_ ?_
              .exact aW ((bK hu)) (Zd 1) Zi
              .refine Zo ?_;refine bh 10 ?_ ?_
               .exact mV.nd
               .refine cQ ?_;refine Zc ?_ ?_
                .exact Zd 4
                .refine Zc ?_ ?_
                 .exact Zd 5
                 .exact Zc (Zx Zy (gO (Zc bA (Zc bA (Zc bA Zj)))) (Zw dH (Zw fM (Zd 2) Zi) Zi)) (Zc (Zd 7) Zj)
              .exact bL
             .refine Zf ?_ ?_
              .refine bh 9 ?_ ?_
               .exact mV.nd
               .refine Zw ?_ ?_ ?_
                .exact bT
                .exact Zw bT (gB gC (Zd 0) gw (gA (Zd 3))) (gO (Zc (Zd 10) Zj))
                .exact gB gC (Zd 0) (gA (Zw bT (Zd 3) Zi)) gw
              .refine Zo ?_;exact aX (Zx Zy (gO (Zc (Zd 9) (Zc (d_ (id:="sorted") Qx T.Ke Qm (Zc (Zd 9) Zj)) Zj))) (Zw dH (Zw fM (Zd 2) Zi) Zi))
theorem QZ:dD ["roll","steps","uses","cell","kind","more"] ["roll","steps","uses","cell"] (Zt Aj):=⟨rfl,rfl,rfl,by decide +kernel,rfl,by decide +kernel,by decide +kernel⟩
theorem ZfB(A:bC K mg "_law_tables_changed" Aj ["roll","steps","uses","cell"])(T:Txt K mg)(JR:aJ P w K mg base 1 "_law_steps_changed" ["roll","steps","kind","more"] w6)(JS:aJ P w K mg base 1 "_law_uses_changed" ["uses","kind","more"] xg):aJ P w K mg base 2 "_law_tables_changed" ["roll","steps","uses","cell"] xj:=
  aJ.of (N:=["roll","steps","uses","cell","kind","more"]) (k:=1) A QZ λf cdv A outer s H E hr=>by
    have hu:=d8 hr;unfold QS;refine Zf ?_ ?_
    .exact bh 4 QZ.nd (Zw dH (Zd 3) Zi)
    .refine Zf ?_ ?_
     .exact bh 5 QZ.nd (Zw fM (Zd 3) Zi)
     .refine Zf ?_ ?_
      .refine bH ?_ ?_ ?_
       .exact CW.ct (uO (aW IK (Zd 4) Zi) (uN (aW wR (d_ (id:="len") fG T.fC fH (Zc (Zd 1) Zj)) Zi)))
       .exact Zo (aX (gO (Zc (bY (k:=1) (ps:=["roll","steps","kind","more"]) JR (hr.mono (by decide)) (Zc (Zd 0) (Zc (Zd 1) (Zc (Zd 4) (Zc (Zd 5) Zj))))) (Zc (Zd 2) Zj))))
       .exact bL
      .refine Zf ?_ ?_
       .exact bH (aW IK (Zd 4) Zi) (Zo (aX (gO (Zc (Zd 1) (Zc (Zd 2) Zj))))) bL
       .exact Zo (aX (gO (Zc (Zd 1) (Zc (bY (k:=1) (ps:=["uses","kind","more"]) JS (hr.mono (by decide)) (Zc (Zd 2) (Zc (Zd 4) (Zc (Zd 5) Zj)))) Zj))))
theorem mW:dD ["script","roll","boxes","states","steps","uses","some","bend","at","true","lied","told_uses","kind"] ["script","roll","boxes","states"] (Zt Ak):=⟨rfl,rfl,rfl,by decide +kernel,rfl,by decide +kernel,by decide +kernel⟩
theorem Zle(A:bC K mg "_law_lied" Ak ["script","roll","boxes","states"])(T:Txt K mg)(jG:aJ P w K mg base 1 "_law_mix" ["cell","k"] g_)(qX:aJ P w K mg base 1 "_law_number" ["number"] kJ)(u6:aJ P w K mg base 1 "_law_uses" ["roll","states"] uV)(u9:aJ P w K mg base 1 "_law_cell" ["script","k"] mU)(J6:aJ P w K mg base 2 "_law_lying" ["roll","first","most","at","value"] Jt):aJ P w K mg base 3 "_law_lied" ["script","roll","boxes","states"] xq:=
  aJ.of (N:=["script","roll","boxes","states","steps","uses","some","bend","at","true","lied","told_uses","kind"]) (k:=2) A mW λf cdv A outer s H E hr=>by
    have hu:=d8 hr;unfold Jv;refine Zf ?_ ?_
    .refine bh 4 ?_ ?_
     .exact mW.nd
     .exact Zu8 (N':=["script","roll","boxes","states","steps","uses","some","bend","at","true","lied","told_uses","kind","state"]) (uT rfl (by kernel_rfl)) rfl rfl (DX (Zd 3)) (λC cl s H ex=>⟨(oE 13 ((show pU (["script","roll","boxes","states","steps","uses","some","bend","at","true","lied","told_uses","kind","state"]:List aj)by decide +kernel))),IW,(cQ (Zc (Zx Zy (Zd 13) Zi) (Zc (Zx Zy (Zd 13) Zi) Zj)))⟩)
    .refine Zf ?_ ?_
     .exact bh 5 mW.nd (iC (T:="list") D_ T.Be Ea (Zc (bY (k:=1) (ps:=["roll","states"]) u6 (hr.mono (by decide)) (Zc (Zd 1) (Zc (Zd 3) Zj))) Zj))
     .refine Zf ?_ ?_
      .refine zA (N':=["script","roll","boxes","states","steps","uses","some","bend","at","true","lied","told_uses","kind","time"]) 6 ?_ ?_ ?_ ?_ ?_ (λC cl s H ex=>⟨?_,?_,?_⟩)
       .exact uT rfl (by kernel_rfl)
       .exact rfl
       .exact rfl
       .exact mW.nd
       .exact zp T.xN (Zw kI (d_ (id:="len") fG T.fC fH (Zc (Zd 4) Zj)) Zi)
       .exact oE 13 ((show pU (["script","roll","boxes","states","steps","uses","some","bend","at","true","lied","told_uses","kind","time"]:List aj)by decide +kernel))
       .exact I_ (aW ((bK hu)) (Zx Zy (Zx Zy (Zd 1) (Zx Zy (Zx Zy (Zd 4) (Zd 13)) Zi)) Zi) bA)
       .exact Zd 13
      .refine Zf ?_ ?_
       .exact bh 7 mW.nd (bY (k:=1) (ps:=["cell","k"]) jG (hr.mono (by decide)) (Zc (bY (k:=1) (ps:=["script","k"]) u9 (hr.mono (by decide)) (Zc (Zd 0) (Zc Zi Zj))) (Zc Zi Zj)))
       .refine Zf ?_ ?_
        .refine bH ?_ ?_ ?_
         .exact CW.ct (wM (aW ((bK hu)) (Zw dH (Zd 7) Zi) Zi) (zj (aW ((bK hu)) (Zd 6) (gO Zj))))
         .exact Zo (aX (gO (Zc (Zd 4) (Zc (Zd 5) Zj))))
         .exact bL
        .refine Zf ?_ ?_
         .exact bh 8 mW.nd (Zx Zy (Zd 6) (Zw dH (Zw fM (Zd 7) Zi) (d_ (id:="len") fG T.fC fH (Zc (Zd 6) Zj))))
         .refine Zf ?_ ?_
          .refine bh 9 ?_ ?_
           .exact mW.nd
           .refine Zx ?_ ?_ ?_
            .exact Zy
            .exact Zx Zy (Zx Zy (Zd 4) (Zw bT (Zd 8) Zi)) Zi
            .exact Zx Zy (Zx Zy (Zd 1) (Zx Zy (Zx Zy (Zd 4) (Zd 8)) Zi)) Zi
          .refine Zf ?_ ?_
           .refine bh 10 ?_ ?_
            .exact mW.nd
            .refine bY (k:=2) (ps:=["roll","first","most","at","value"]) ?_ ?_ ?_
             .exact J6
             .exact hr.mono (by decide)
             .exact Zc (Zd 1) (Zc (Zd 2) (Zc Zi (Zc (Zd 8) (Zc (Zw bT (Zd 9) (bY (k:=1) (ps:=["number"]) qX (hr.mono (by decide)) (Zc (Zw fM (Zd 7) Zi) Zj))) Zj))))
           .refine Zf ?_ ?_
            .exact bh 11 mW.nd (iC (T:="list") D_ T.Be Ea (Zc (bY (k:=1) (ps:=["roll","states"]) u6 (hr.mono (by decide)) (Zc (Zd 1) (Zc (Zd 10) Zj))) Zj))
            .refine Zf ?_ ?_
             .exact bh 12 mW.nd (Zw dH (Zw fM (Zd 7) Zi) Zi)
             .refine Zf ?_ ?_
              .exact bH (aW ((bK hu)) (Zd 12) Zi) (Zo (bh 11 mW.nd (Zd 5))) bL
              .refine Zf ?_ ?_
               .refine bH ?_ ?_ ?_
                .exact aW ((bK hu)) (Zd 12) Zi
                .exact Zo (zA (N':=["script","roll","boxes","states","steps","uses","some","bend","at","true","lied","told_uses","kind","row"]) 11 (uT rfl (by kernel_rfl)) rfl rfl mW.nd (DX (Zd 11)) (λC cl s H ex=>⟨(oE 13 ((show pU (["script","roll","boxes","states","steps","uses","some","bend","at","true","lied","told_uses","kind","row"]:List aj)by decide +kernel))),(I_ (aW ((qH hu)) (Zx Zy (Zd 13) Zi) (Zd 8))),(Zd 13)⟩))
                .exact bL
               .refine Zf ?_ ?_
                .refine bH ?_ ?_ ?_
                 .exact aW ((bK hu)) (Zd 12) Zi
                 .refine Zo ?_;refine zA (N':=["script","roll","boxes","states","steps","uses","some","bend","at","true","lied","told_uses","kind","row"]) 11 ?_ ?_ ?_ ?_ ?_ (λC cl s H ex=>⟨?_,?_,?_⟩)
                  .exact uT rfl (by kernel_rfl)
                  .exact rfl
                  .exact rfl
                  .exact mW.nd
                  .exact DX (Zd 11)
                  .exact oE 13 ((show pU (["script","roll","boxes","states","steps","uses","some","bend","at","true","lied","told_uses","kind","row"]:List aj)by decide +kernel))
                  .exact IW
                  .refine Zx ?_ ?_ ?_
                   .exact Zy
                   .exact gO (Zc (Zd 13) (Zc (Zw bT (gB gC (Zd 13) gw (gA Zi)) (cQ (Zc (Zd 9) Zj))) Zj))
                   .exact iC (T:="int") QF T.Kp Qn (Zc (jD ((bK hu)) (Zx Zy (Zd 13) Zi) (Zd 8)) Zj)
                 .exact bL
                .exact Zo (aX (gO (Zc (Zd 10) (Zc (Zd 11) Zj))))
theorem pO:dD ["script","roll","boxes","states","steps","uses","k","due","right"] ["script"] (Zt sY):=⟨rfl,rfl,rfl,by decide +kernel,rfl,by decide +kernel,by decide +kernel⟩
theorem Ztu{f:Yz}{fd:mq}(F:uy K "law" "law" sY f fd)(T:Txt K mg)(Kl:aJ P w K mg base 7 "fault" ["roll","boxes","steps","uses"] Em)(jG:aJ P w K mg base 1 "_law_mix" ["cell","k"] g_)(J9:aJ P w K mg base 3 "_law_roll" ["script"] Er)(J7:aJ P w K mg base 2 "_law_boxes" ["script"] Jr)(J2:aJ P w K mg base 2 "_law_states" ["roll","first","most"] Es)(u6:aJ P w K mg base 1 "_law_uses" ["roll","states"] uV)(u9:aJ P w K mg base 1 "_law_cell" ["script","k"] mU)(JQ:aJ P w K mg base 2 "_law_tables_changed" ["roll","steps","uses","cell"] xj)(J_:aJ P w K mg base 3 "_law_lied" ["script","roll","boxes","states"] xq):o9 P w K mg base o_ 8 f fd ["script"] (zm K 1 Zoj):=
  ZX (N:=["script","roll","boxes","states","steps","uses","k","due","right"]) (k:=7) F pO λcdv A outer s H E hr=>by
    have hu:=d8 hr;unfold QT;refine Zf ?_ ?_
    .exact bh 1 pO.nd (bY (k:=3) (ps:=["script"]) J9 (hr.mono (by decide)) (Zc (Zd 0) Zj))
    .refine Zf ?_ ?_
     .exact bh 2 pO.nd (bY (k:=2) (ps:=["script"]) J7 (hr.mono (by decide)) (Zc (Zd 0) Zj))
     .refine Zf ?_ ?_
      .exact bh 3 pO.nd (bY (k:=2) (ps:=["roll","first","most"]) J2 (hr.mono (by decide)) (Zc (Zd 1) (Zc (Zd 2) (Zc Zi Zj))))
      .refine Zf ?_ ?_
       .refine Zog ?_ ?_ ?_
        .exact rfl
        .exact bY (k:=3) (ps:=["script","roll","boxes","states"]) J_ (hr.mono (by decide)) (Zc (Zd 0) (Zc (Zd 1) (Zc (Zd 2) (Zc (gB gC (Zd 3) gw (gA Zi)) Zj))))
        .exact jU 4 pO.nd (jU 5 pO.nd wN)
       .refine Zf ?_ ?_
        .refine Iv ?_ ?_ ?_ ?_ ?_
         .exact rfl
         .exact rfl
         .exact zp T.xN (Zw dH (bY (k:=1) (ps:=["cell","k"]) jG (hr.mono (by decide)) (Zc (bY (k:=1) (ps:=["script","k"]) u9 (hr.mono (by decide)) (Zc (Zd 0) (Zc Zi Zj))) (Zc Zi Zj))) Zi)
         .exact oE 6 pO.nd
         .refine Zo ?_;refine Zog ?_ ?_ ?_
          .exact rfl
          .refine bY (k:=2) (ps:=["roll","steps","uses","cell"]) ?_ ?_ ?_
           .exact JQ
           .exact hr.mono (by decide)
           .refine Zc ?_ ?_
            .exact Zd 1
            .refine Zc ?_ ?_
             .exact Zd 4
             .refine Zc ?_ ?_
              .exact Zd 5
              .refine Zc ?_ ?_
               .exact bY (k:=1) (ps:=["cell","k"]) jG (hr.mono (by decide)) (Zc (bY (k:=1) (ps:=["script","k"]) u9 (hr.mono (by decide)) (Zc (Zd 0) (Zc (Zw bT Zi (Zd 6)) Zj))) (Zc (Zw bT Zi (Zd 6)) Zj))
               .exact Zj
          .exact jU 4 pO.nd (jU 5 pO.nd wN)
        .refine Zf ?_ ?_
         .refine bh 7 ?_ ?_
          .exact pO.nd
          .refine iC (T:="tuple") ?_ ?_ ?_ ?_
           .exact mQ
           .exact T.lZ
           .exact mR
           .refine Zc ?_ ?_
            .exact Zu8 (N':=["script","roll","boxes","states","steps","uses","k","due","right","state"]) (uT rfl (by kernel_rfl)) rfl rfl (DX (Zd 3)) (λC cl s H ex=>⟨(oE 9 ((show pU (["script","roll","boxes","states","steps","uses","k","due","right","state"]:List aj)by decide +kernel))),IW,(cQ (Zc (Zx Zy (Zd 9) Zi) (Zc (Zx Zy (Zd 9) Zi) Zj)))⟩)
            .exact Zj
         .refine Zf ?_ ?_
          .refine bh 8 ?_ ?_
           .exact pO.nd
           .refine Iu ?_ ?_
            .exact jD ((bK hu)) (Zx Zy (Zx Zy (Zd 1) (Zx Zy (Zx Zy (Zd 3) (zf zq Zi)) Zi)) Zi) bA
            .refine Iu ?_ ?_
             .exact jD ((bK hu)) (iC (T:="tuple") mQ T.lZ mR (Zc (Zd 4) Zj)) (Zd 7)
             .exact PN (jD ((bK hu)) (iC (T:="tuple") mQ T.lZ mR (Zc (Zd 5) Zj)) (bY (k:=1) (ps:=["roll","states"]) u6 (hr.mono (by decide)) (Zc (Zd 1) (Zc (Zd 3) Zj))))
          .refine Zo ?_;refine aX ?_;refine jD ?_ ?_ ?_
           .exact(bK hu)
           .refine jD ?_ ?_ ?_
            .exact Qa
            .refine bY (k:=7) (ps:=["roll","boxes","steps","uses"]) ?_ ?_ ?_
             .exact Kl
             .exact hr.mono (by decide)
             .exact Zc (Zd 1) (Zc (Zd 2) (Zc (iC (T:="tuple") mQ T.lZ mR (Zc (Zd 4) Zj)) (Zc (iC (T:="tuple") mQ T.lZ mR (Zc (Zd 5) Zj)) Zj)))
            .exact jT
           .exact Zd 8
end
end Law
set_option maxHeartbeats 200000
namespace Law
open L3
theorem Ob(n d:Nat):aO n d Ye=d:=rfl
theorem Oc(n d k:Nat):aO n d (Ya (k:Int))=iJ k n:=by have h:¬((k:Int)<0):=(λz=>iN [_] [] 1 7211153 T1 z);simp only[aO,if_neg h,o4]
variable{α:Type}
theorem Jz(w:List α)(k:Nat):cutD w (Ya (k:Int)) Ye=w.drop k:=by
 unfold cutD;rw[Oc,Ob];by_cases h:k<=w.length
 .rw[KN h,tY (by simp)]
 .rw[KJ (by exact lB 1 1052737 T1 h),Uc (Yk _),Uc (by exact lB 1 1052737 T1 h)];simp
theorem xF(w:List α)(k:Nat):cutD w Ye (Ya (k:Int))=w.take k:=by
 unfold cutD;rw[Oc,Ob];by_cases h:k<=w.length
 .rw[KN h];simp
 .rw[KJ (by exact lB 1 1052737 T1 h),Nat.sub_zero,Gb,tY (Yk _),tY (by exact lB 1 1052737 T1 h)]
theorem Ew(n:Nat)(bs:List Int):below n (Zk bs)=true:=by
 unfold Zk below
 induction bs with
 |nil=>rfl|cons b bs ih=>simp only[Yy,dN,below,ih,B_]
variable{a:Nat}
theorem ZvI{bs:List Int}(h:bs.length=8)(ha:a<8):bs[a]?=Ya (bs.getD a 0):=by rw[oV,Yi (by exact lB 2 72481667054415889 T1 ha h)];rfl
theorem fL{bs:List Int}(h:bs.length=8)(ha:a<8):∃x,bs.getD a 0=x/\cO (bs.map D.int) (a:Int)=Ya (.int x):=⟨bs.getD a 0,rfl,by rw[mJ,Yx,ZvI h ha];rfl⟩
theorem qO{i j:Int}(h:-(2^64)<i/\i<2^64):fK i j=true:=by unfold fK;rw[ul];left;simp only[Y0,decide_eq_true_eq];exact h
theorem mul_r{i j:Int}(h:-(2^64)<j/\j<2^64):fK i j=true:=by unfold fK;rw[ul];right;simp only[Y0,decide_eq_true_eq];exact h
theorem kO(x:Int)(m:Nat)(h:0<m):∃a:Nat,x % (m:Int)=a/\a<m:=by have h1:=p6 x (b:=(m:Int)) (by exactλz=>iN [_] [] 2 416093702305 T1 z h);have h2:=vO x (b:=(m:Int)) (by exact iN [_] [] 1 149491217 T1 h);exact⟨(x % (m:Int)).toNat,(jh h1).symm,by exact iN [_,_] [_] 2 18698308976785 T1 h2 (jh h1)⟩
variable{n:Nat}{M:Store}
theorem ZqD{o:MO}(h:M[n]?=Ya o):M.set n o=M:=by
 apply rC;intro j;by_cases hj:j=n
 .subst hj;rw[Y2 (Yd.mp h).1,h]
 .rw[jH (cU hj)]
variable{i:Nat}{env:bI}
theorem ZnI{t:List (Int×Int)}{own:Nat}{c elt:E3}(hi:env[i]?=Ya (Ya (.ref n)))(hM:M[n]?=Ya (.dct (bF t)))(hz:t.length<=100000)(hc:∀p∈t,∀M,fZ M[n]?=Ya (bF t)->c ((env++Yj own Ye).set env.length (Ya (.int p.1))) M= .ok (.bl (decide (p.2≠0))) M)(he:∀p∈t,∀M,fZ M[n]?=Ya (bF t)->elt ((env++Yj own Ye).set env.length (Ya (.int p.1))) M= .ok (fU p) M):
  wC (Za i) own (dz env.length) [c] elt env M= .ok (.ref M.length) (M++[.lst ((t.filter λp=>decide (p.2≠0)).map fU)]):=by
 have hlt:=(Yd.mp hM).1;have e0:Za i env M= .ok (.ref n) M:=by simp only[Za,hi]
 have ek:((bF t).map λq=>keyV q.1)=t.map λp=>D.int p.1:=by simp[bF,keyV,V6]
 have rd:∀x,fZ ((M.set n (.cC (bF t))++[MO.lst []]).set M.length (MO.lst x))[n]?=Ya (bF t):=λx=>by rw[jH (by exactλz=>lB 2 25787699233 T1 z hlt),kZ (by simpa using hlt),Y2 hlt];rfl
 have lp:=Py (α:=Int×Int) (enc:=λp=>D.int p.1) (h:=fU) (p:=λp=>decide (p.2≠0)) (it:=⟨(bF t).map λq=>keyV q.1,Ye⟩) (i:=env.length) (n:=M.length) (c:=c) (elt:=elt) (env0:=env++Yj own Ye) t [] (env++Yj own Ye) (M.set n (.cC (bF t))++[.lst []]) (λ_=>rfl)
  (λp hp x=>hc p hp _ (rd x)) (λp hp _ x=>he p hp _ (rd x)) (λ_=>rfl) (by rw[tX (by simp)];simp) (by simp;exact lA 1 0xf42405b00186a05b001 T1 hz)
 unfold wC;rw[e0];simp only[R3.bind,hM];rw[show(Ge (λq=>keyV q.fst) (bF t))=t.map (λp=>D.int p.1)from ek]at lp ⊢;rw[lp];have e1:(M.set n (.cC (bF t))++[MO.lst []]).set M.length (MO.lst ([]++(t.filter λp=>decide (p.2≠0)).map fU))=M.set n (.cC (bF t))++[MO.lst ((t.filter λp=>decide (p.2≠0)).map fU)]:=by rw[Ue _ _ (by simp)];simp
 rw[e1];have e2:(M.set n (.cC (bF t))++[MO.lst ((t.filter λp=>decide (p.2≠0)).map fU)])[n]?=Ya (.cC (bF t)):=by rw[kZ (by simpa using hlt),Y2 hlt]
 simp only[e2];rw[List.set_append_left _ _ (by simpa using hlt),oY,ZqD hM]
theorem Zn6{t:List (Int×Int)}(hk:keysOk t){p:Int×Int}(hp:p∈t)(h:fZ M[n]?=Ya (bF t)):n6 (.ref n) (.int p.1) M= .ok (.int p.2) M:=by
 have hv:dW (bF t) (.inl p.1)=Ya (.int p.2):=by rw[YQ,if_pos (nC.mpr ⟨p,hp,by simp⟩),uK hk (k:=p.1) (v:=p.2) hp]
 simp only[XJ,h,Hz,HB,hv]
theorem ZlY{t:List (Int×Int)}(h:t.length<64):(t.filter λp=>decide (p.2≠0)).length<64:=xT (Ug _ _) h
theorem Znu{e:E3}{M M1:Store}{t:List (Int×Int)}(hk:keysOk t)(hl:t.length<64)(h:e env M= .ok (.ref n) M1)(hn:M1[n]?=Ya (.lst ((t.filter λp=>decide (p.2≠0)).map fU))):
  au jN (Zb e Zg) env M= .ok (.ref M1.length) (M1++[.lst ((e_ t).map fU)]):=by
 refine fD h ?_;simp only[uE,hn];rw[if_pos (Zlc (ZlY hl)),Pj (Znp (Ij t) (yX hk))];rfl
theorem Aq(c k:Int)(h0:0<=k)(h1:k<=5000):∃v:Int,∀M,g_ [.int c,.int k] M= .ok (.int v) M:=by
 by_cases h:c<= -1000000
 .exact⟨c,λM=>by simp[g_,En,Zu,ao,aq,aD,aK,dJ,bR,gq,below,dN,fK,h]⟩
 .by_cases h':(1000000:Int)<=c
  .exact⟨c,λM=>by simp[g_,En,Zu,ao,aq,aD,aK,dJ,bR,gq,below,dN,fK,h,h']⟩
  .have m1:fK 31 c=true:=qO (by omega);have m2:fK k k=true:=qO (by omega);have m3:fK 17 k=true:=qO (by omega);have m4:∀x,fK (c+1000003) x=true:=λx=>qO (by omega);have q:=p6 ((c+1000003)*(31*c+k*k+17*k+2000033)) (b:=2147483629) (by exactλz=>iN [] [] 1 0x6e7fffffed8ba1 T1 z);have q':=vO ((c+1000003)*(31*c+k*k+17*k+2000033)) (b:=2147483629) (by exact iN [] [] 0 0x7fffffed8be9 T1);generalize hn:(c+1000003)*(31*c+k*k+17*k+2000033) % 2147483629=n at q q';have m5:fK n n=true:=qO (by omega);exact⟨n*n+n / 7,λM=>by simp[g_,En,Zu,ao,aq,aD,aK,dJ,bR,gq,below,dN,h,h',m1,m2,m3,m4,hn,m5]⟩
theorem Q0(c:Int):∃v:Int,∀M,kJ [.int c] M= .ok (.int v) M:=by
 by_cases h:c % 3<2
 .exact⟨_,λM=>by simp[kJ,Eo,Zu,ao,aq,aD,aK,dJ,bR,gq,below,dN,fK,h];rfl⟩
 .by_cases h':c / 3 % 2=0
  .exact⟨_,λM=>by simp[kJ,Eo,Zu,ao,aq,aD,aK,dJ,bR,gq,below,dN,fK,h,h'];rfl⟩
  .exact⟨_,λM=>by simp[kJ,Eo,Zu,ao,aq,aD,aK,dJ,bR,gq,below,dN,fK,h,h'];rfl⟩
variable{ds:List D}
theorem ZmZ{enc:α->D}{P:D->α->Prop}{it:jx}{elt:E3}{env0 env:bI}{acc:List D}(he:∀d,env.set i (Ya d)=env0.set i (Ya d))(hf:∀d∈ds,∃a,P d a/\∀x,elt (env0.set i (Ya d)) (M.set n (.lst x))= .ok (enc a) (M.set n (.lst x)))(hl:∀x,locked it (M.set n (.lst x))=true)(hM:M[n]?=Ya (.lst acc))(hz:acc.length+ds.length<=SZ):
  ∃as:List α,as.length=ds.length/\(∀(j:Nat) d a,ds[j]?=Ya d->as[j]?=Ya a->P d a)/\gR it (dz i) [] elt n ds env M= .ok (.ref n) (M.set n (.lst (acc++as.map enc))):=by
 obtain⟨es,le,re,h⟩:=X6 (it:=it) (i:=i) (n:=n) (elt:=elt) (R:=λd e=>∃a,e=enc a/\P d a) (env0:=env0) ds acc env M he (λd hd x=>by obtain⟨a,pa,ha⟩:=hf d hd;exact⟨enc a,ha _,a,rfl,pa⟩) hl hM hz;obtain⟨as,rfl,ps⟩:=Pr (enc:=enc) (P:=λj a=>∀d,ds[j]?=Ya d->P d a) es λj e hj=>by
  have hlt:j<ds.length:=by rw[←le];exact(Yd.mp hj).1
  obtain⟨a,ea,pa⟩:=re j ds[j] e (by simp[hlt]) hj;refine⟨a,ea,λd hd=>?_⟩;rw[Yi hlt]at hd;cases hd;exact pa
 exact⟨as,by simpa using le,λj d a hd ha=>ps j a ha d hd,h⟩
theorem Zm2(n:Nat)(r:bJ):below n (Zn r)=true:=by
 unfold Zn below
 induction r with
 |nil=>rfl|cons x r ih=>simp only[Yy,dN,ih,BZ];cases x<;>rfl
variable{M':Store}{d:D}
theorem uW(h:M'.length=M.length):gq M d M'= .ok d M':=by unfold gq;rw[tY (oU h)];split <;>rfl
noncomputable def Q3:S3:=(Zu (aD (e2 aC (Za 5) (eC (.str [112,117,116]))) (aq (aR (Zb (Za 5) (Zb (Za 6) (Zb (aH kJ (Zb (e2 b_ (Za 3) (eC (.int 8))) (Zg))) (Zg)))))) (aK)) (Zu (aD (e2 qC (Za 5) (aR (Zb (eC (.str [97,100,100])) (Zb (eC (.str [115,117,98])) (Zb (eC (.str [109,111,114,101])) (Zg)))))) (aq (aR (Zb (Za 5) (Zb (Za 6) (Zb (Za 7) (Zb (Za 8) (Zg))))))) (aK)) (Zu (aD (e2 aC (Za 5) (eC (.str [106,117,109,112]))) (aq (aR (Zb (Za 5) (Zb (Za 9) (Zg))))) (aK)) (Zu (aD (e2 aC (Za 5) (eC (.str [119,104,101,110]))) (aq (aR (Zb (Za 5) (Zb (Za 6) (Zb (Za 9) (Zg)))))) (aK)) (aq (e2 Ze (b8 (Zb (aR (Zb (Za 5) (Zb (Za 6) (Zb (Za 7) (Zg))))) (Zb (aR (Zb (Za 5) (Zb (Za 6) (Zg)))) (Zg)))) (au lU (Zb (e2 aC (Za 5) (eC (.str [116,101,108,108]))) (Zg)))))))))
theorem Zw8{x:MO}:(M++[x])[M.length]?=Ya x:=dM _ _ _
noncomputable abbrev uX(cell A m p:Int)(x4:Option D)(kd:List Nat)(a b d q:Nat):bI:=[Ya (.int cell),Ya (.int A),Ya (.int m),Ya (.int p),x4,Ya (.str kd),Ya (.int a),Ya (.int b),Ya (.int d),Ya (.int q)]
section
variable {cell A m p:Int} {x4:Option D} {kd w:List Nat} {a b d q:Nat} {M:Store}
theorem sZ(h:(kd==w)=false):e2 aC (Za 5) (eC (.str w)) (uX cell A m p x4 kd a b d q) M= .ok (.bl false) M:=by show(match(Ya (decide (kd=w)):Option Bool)with|some r=>(.ok (.bl r) M:R3 D)|none=>.bad)=_;rw[decide_eq_false (by simpa using h)]
theorem Q4:e2 aC (Za 5) (eC (.str kd)) (uX cell A m p x4 kd a b d q) M= .ok (.bl true) M:=by show(match(Ya (decide (kd=kd)):Option Bool)with|some r=>(.ok (.bl r) M:R3 D)|none=>.bad)=_;rw[decide_eq_true rfl]
theorem Ar:e2 qC (Za 5) (aR (Zb (eC (.str [97,100,100])) (Zb (eC (.str [115,117,98])) (Zb (eC (.str [109,111,114,101])) (Zg))))) (uX cell A m p x4 kd a b d q) M= .ok (.bl ([97,100,100]==kd|| ([115,117,98]==kd|| [109,111,114,101]==kd))) M:=by simp[uX,gZ,wg,wj,uz,uD,qw]
theorem Q5{t:Bool}{r:D}(h:(decide (kd=[116,101,108,108]))=t)(hr:cO [.tup [.str kd,.int a,.int b],.tup [.str kd,.int a]] (if t then 1 else 0)=Ya r)(h1:(kd==[112,117,116])=false)(h2:([97,100,100]==kd|| ([115,117,98]==kd|| [109,111,114,101]==kd))=false)(h3:(kd==[106,117,109,112])=false)(h4:(kd==[119,104,101,110])=false):
  Q3 (uX cell A m p x4 kd a b d q) M= .rt r (M++[.lst [.tup [.str kd,.int a,.int b],.tup [.str kd,.int a]]]):=by
 refine(Zh (Zr (sZ h1))).trans ((Zh (Zr (Ar.trans (by rw[h2])))).trans ((Zh (Zr (sZ h3))).trans ((Zh (Zr (sZ h4))).trans (cV (Zv (a:=.ref M.length) (b:=.int (if t then 1 else 0)) (M1:=M++[.lst [.tup [.str kd,.int a,.int b],.tup [.str kd,.int a]]]) (by simp[uX]) (by subst h;rfl) ?_)))));simp only[nU,nW,nY,nZ,Zw8,hr]
end
theorem Zqm(cell A m p v:Int)(a b d q many:Nat)(kd:List Nat)(hv:∀M,kJ [.int (p / 8)] M= .ok (.int v) M)(la:a<8)(lb:b<8)(ld:d<8)(lq:q<many)(hk:kd=[112,117,116]\/kd=[97,100,100]\/kd=[115,117,98]\/kd=[109,111,114,101]\/kd=[103,101,116]\/kd=[115,101,116]\/kd=[106,117,109,112]\/kd=[119,104,101,110]\/kd=[116,101,108,108]):
  ∃r:Row,r.ok many/\∀(x4:Option D) (M:Store),∃G,Q3 (uX cell A m p x4 kd a b d q) M= .rt (Zq r) (M++G):=by
 rcases hk with h|h|h|h|h|h|h|h|h<;>subst h
 .refine⟨.put a v,la,λx4 M=>⟨[],?_⟩⟩;rw[Yr];exact cB ((bG Q4).trans (cV (by simp[uX,hv,Zq])))
 .exact⟨.add a b d,⟨la,lb,ld⟩,λx4 M=>⟨[],by rw[Yr];exact(Zh (Zr (sZ rfl))).trans (cB ((bG Ar).trans (cV (i_ rfl rfl))))⟩⟩
 .exact⟨.sub a b d,⟨la,lb,ld⟩,λx4 M=>⟨[],by rw[Yr];exact(Zh (Zr (sZ rfl))).trans (cB ((bG Ar).trans (cV (i_ rfl rfl))))⟩⟩
 .exact⟨.more a b d,⟨la,lb,ld⟩,λx4 M=>⟨[],by rw[Yr];exact(Zh (Zr (sZ rfl))).trans (cB ((bG Ar).trans (cV (i_ rfl rfl))))⟩⟩
 .exact⟨.get a b,⟨la,lb⟩,λx4 M=>⟨_,Q5 (t:=false) (by decide) rfl rfl rfl rfl rfl⟩⟩
 .exact⟨.set a b,⟨la,lb⟩,λx4 M=>⟨_,Q5 (t:=false) (by decide) rfl rfl rfl rfl rfl⟩⟩
 .exact⟨.jump q,lq,λx4 M=>⟨[],by rw[Yr];exact(Zh (Zr (sZ rfl))).trans ((Zh (Zr Ar)).trans (cB ((bG Q4).trans (cV (i_ rfl rfl)))))⟩⟩
 .exact⟨.when a q,⟨la,lq⟩,λx4 M=>⟨[],by rw[Yr];exact(Zh (Zr (sZ rfl))).trans ((Zh (Zr Ar)).trans ((Zh (Zr (sZ rfl))).trans (cB ((bG Q4).trans (cV (i_ rfl rfl))))))⟩⟩
 .exact⟨.tell a,la,λx4 M=>⟨_,Q5 (t:=true) (by decide) rfl rfl rfl rfl rfl⟩⟩
theorem ZrF(cell c A m:Int)(many:Nat)(hmix:∀M,g_ [.int cell,.int A] M= .ok (.int c) M)(h0:0<=A)(h1:A<m)(hm:m=many):∃r:Row,r.ok (many+1)/\∀M,sX [.int cell,.int A,.int m] M= .ok (Zq r) M:=by
 obtain⟨a,ha,la⟩:∃a:Nat,c / 16 % 8=a/\a<8:=⟨(c / 16 % 8).toNat,vP ((rH _)) (p7 (jh ((p6 _ (by decide))))),by exact iN [_] [_] 2 0x81b01008a181b091 T1 (vO _ (by decide)) (jh ((p6 _ (by decide))))⟩;obtain⟨b,hb,lb⟩:∃a:Nat,c / 16 / 8 % 8=a/\a<8:=⟨(c / 16 / 8 % 8).toNat,vP ((rH _)) (p7 (jh ((p6 _ (by decide))))),by exact iN [_] [_] 2 0x81b01008a181b091 T1 (vO _ (by decide)) (jh ((p6 _ (by decide))))⟩;obtain⟨d,hd,ld⟩:∃a:Nat,c / 16 / 64 % 8=a/\a<8:=⟨(c / 16 / 64 % 8).toNat,vP ((rH _)) (p7 (jh ((p6 _ (by decide))))),by exact iN [_] [_] 2 0x81b01008a181b091 T1 (vO _ (by decide)) (jh ((p6 _ (by decide))))⟩;obtain⟨v,hv⟩:=Q0 (c / 16 / 8);have p1:0<m-A:=by exact iN [] [_,_] 1 535367825 T1 h1
 have p2:0<m+1:=by exact iN [_] [_] 1 690660343985 T1 hm
 have b1:=p6 (c / 16 / 32) (b:=m-A) (by exactλz=>iN [] [_,_] 2 0x610fe91e10fa1 T1 z p1);have b2:=vO (c / 16 / 32) p1;have b3:=p6 (c / 16 / 32) (b:=m+1) (by exactλz=>iN [] [_] 2 0x6a0ce91ea0ca1 T1 z p2);have b4:=vO (c / 16 / 32) p2;obtain⟨q,hq,lq⟩:∃q:Nat,(if c / 16 / 8 % 4=0 then c / 16 / 32 % (m+1)else A+1+c / 16 / 32 % (m-A))=(q:Int)/\q<many+1:=by
  split
  .exact⟨(c / 16 / 32 % (m+1)).toNat,vP ((rH _)) (p7 (jh b3)),by exact iN [_,_] [_,_] 3 0xa0c11018a1081a1a1c091 T1 b4 hm (jh b3)⟩
  .exact⟨(A+1+c / 16 / 32 % (m-A)).toNat,by exact vP ((rH _)) (p7 (jh (iN [] [_,_] 2 0xa1cce81e810e81 T1 b1 h0))),by exact iN [_,_] [_,_,_] 3 0xa0c110a2cc18a1081a121f091 T1 b2 hm (jh (iN [] [_,_] 2 0xa1cce81e810e81 T1 b1 h0))⟩
 clear b1 b2 b3 b4 hm;obtain⟨kd,hkd,hk⟩:∃kd:List Nat,cO ([D.str [112,117,116],D.str [112,117,116],D.str [97,100,100],D.str [115,117,98],D.str [109,111,114,101],D.str [103,101,116],D.str [103,101,116],D.str [103,101,116],D.str [115,101,116],D.str [115,101,116],D.str [115,101,116],D.str [115,101,116],D.str [106,117,109,112],D.str [119,104,101,110],D.str [119,104,101,110],D.str [116,101,108,108]]) (c % 16)=Ya (D.str kd)/\(kd=[112,117,116]\/kd=[97,100,100]\/kd=[115,117,98]\/kd=[109,111,114,101]\/kd=[103,101,116]\/kd=[115,101,116]\/kd=[106,117,109,112]\/kd=[119,104,101,110]\/kd=[116,101,108,108]):=by
  obtain⟨JB,Abe,Abf⟩:=kO c 16 (lN [] 0 1059809 rfl);rw[show c % 16=(JB:Int)from Abe]
  match JB,Abf with
  |0,_=>exact⟨_,rfl,by decide⟩|1,_=>exact⟨_,rfl,by decide⟩|2,_=>exact⟨_,rfl,by decide⟩|3,_=>exact⟨_,rfl,by decide⟩
  |4,_=>exact⟨_,rfl,by decide⟩|5,_=>exact⟨_,rfl,by decide⟩|6,_=>exact⟨_,rfl,by decide⟩|7,_=>exact⟨_,rfl,by decide⟩
  |8,_=>exact⟨_,rfl,by decide⟩|9,_=>exact⟨_,rfl,by decide⟩|10,_=>exact⟨_,rfl,by decide⟩|11,_=>exact⟨_,rfl,by decide⟩
  |12,_=>exact⟨_,rfl,by decide⟩|13,_=>exact⟨_,rfl,by decide⟩|14,_=>exact⟨_,rfl,by decide⟩|15,_=>exact⟨_,rfl,by decide⟩
  |k+16,h=>exact absurd h (Nat.not_lt.mpr (KQ 16 k))
 have head:∀M,Jq [Ya (.int cell),Ya (.int A),Ya (.int m),Ye,Ye,Ye,Ye,Ye,Ye,Ye] M=(Zu (aD (e2 aC (e2 aZ (Za 3) (eC (.int 41))) (eC (.int 7))) (aq (aR (Zb (eC (.str [104,97,108,116])) (Zg)))) (aK)) (Zu (ao 6 (e2 aZ (Za 3) (eC (.int 8)))) (Zu (ao 7 (e2 aZ (e2 b_ (Za 3) (eC (.int 8))) (eC (.int 8)))) (Zu (ao 8 (e2 aZ (e2 b_ (Za 3) (eC (.int 64))) (eC (.int 8)))) (Zu (ao 9 (e2 aM (e2 aM (Za 1) (eC (.int 1))) (e2 aZ (e2 b_ (Za 3) (eC (.int 32))) (e2 eO (Za 2) (Za 1))))) (Zu (aD (e2 aC (e2 aZ (e2 b_ (Za 3) (eC (.int 8))) (eC (.int 4))) (eC (.int 0))) (ao 9 (e2 aZ (e2 b_ (Za 3) (eC (.int 32))) (e2 aM (Za 2) (eC (.int 1))))) (aK)) Q3)))))) [Ya (.int cell),Ya (.int A),Ya (.int m),Ya (.int (c / 16)),Ya (.ref M.length),Ya (.str kd),Ye,Ye,Ye,Ye] (M++[.lst [D.str [112,117,116],D.str [112,117,116],D.str [97,100,100],D.str [115,117,98],D.str [109,111,114,101],D.str [103,101,116],D.str [103,101,116],D.str [103,101,116],D.str [115,101,116],D.str [115,101,116],D.str [115,101,116],D.str [115,101,116]],.lst [D.str [106,117,109,112],D.str [119,104,101,110],D.str [119,104,101,110],D.str [116,101,108,108]],.lst ([D.str [112,117,116],D.str [112,117,116],D.str [97,100,100],D.str [115,117,98],D.str [109,111,114,101],D.str [103,101,116],D.str [103,101,116],D.str [103,101,116],D.str [115,101,116],D.str [115,101,116],D.str [115,101,116],D.str [115,101,116],D.str [106,117,109,112],D.str [119,104,101,110],D.str [119,104,101,110],D.str [116,101,108,108]])]):=λM=>by
  unfold Jq;rw[Zh (Zz (M':=M) (d:=.int c) (by simp[hmix]))];rw[Zh (Zz (M':=M++[.lst [D.str [112,117,116],D.str [112,117,116],D.str [97,100,100],D.str [115,117,98],D.str [109,111,114,101],D.str [103,101,116],D.str [103,101,116],D.str [103,101,116],D.str [115,101,116],D.str [115,101,116],D.str [115,101,116],D.str [115,101,116]]]) (d:=.ref M.length) (by simp))];rw[Zh (Zz (M':=M++[.lst [D.str [112,117,116],D.str [112,117,116],D.str [97,100,100],D.str [115,117,98],D.str [109,111,114,101],D.str [103,101,116],D.str [103,101,116],D.str [103,101,116],D.str [115,101,116],D.str [115,101,116],D.str [115,101,116],D.str [115,101,116]],.lst [D.str [106,117,109,112],D.str [119,104,101,110],D.str [119,104,101,110],D.str [116,101,108,108]],.lst ([D.str [112,117,116],D.str [112,117,116],D.str [97,100,100],D.str [115,117,98],D.str [109,111,114,101],D.str [103,101,116],D.str [103,101,116],D.str [103,101,116],D.str [115,101,116],D.str [115,101,116],D.str [115,101,116],D.str [115,101,116],D.str [106,117,109,112],D.str [119,104,101,110],D.str [119,104,101,110],D.str [116,101,108,108]])]) (d:=.str kd) (by simp[hkd]))];rw[Zh (Zz (M':=M++[.lst [D.str [112,117,116],D.str [112,117,116],D.str [97,100,100],D.str [115,117,98],D.str [109,111,114,101],D.str [103,101,116],D.str [103,101,116],D.str [103,101,116],D.str [115,101,116],D.str [115,101,116],D.str [115,101,116],D.str [115,101,116]],.lst [D.str [106,117,109,112],D.str [119,104,101,110],D.str [119,104,101,110],D.str [116,101,108,108]],.lst ([D.str [112,117,116],D.str [112,117,116],D.str [97,100,100],D.str [115,117,98],D.str [109,111,114,101],D.str [103,101,116],D.str [103,101,116],D.str [103,101,116],D.str [115,101,116],D.str [115,101,116],D.str [115,101,116],D.str [115,101,116],D.str [106,117,109,112],D.str [119,104,101,110],D.str [119,104,101,110],D.str [116,101,108,108]])]) (d:=.int (c / 16)) (by simp))];rfl
 by_cases hh:c / 16 % 41=7
 .refine⟨.halt,trivial,λM=>?_⟩;exact(lR (M':=M++[.lst [D.str [112,117,116],D.str [112,117,116],D.str [97,100,100],D.str [115,117,98],D.str [109,111,114,101],D.str [103,101,116],D.str [103,101,116],D.str [103,101,116],D.str [115,101,116],D.str [115,101,116],D.str [115,101,116],D.str [115,101,116]],.lst [D.str [106,117,109,112],D.str [119,104,101,110],D.str [119,104,101,110],D.str [116,101,108,108]],.lst ([D.str [112,117,116],D.str [112,117,116],D.str [97,100,100],D.str [115,117,98],D.str [109,111,114,101],D.str [103,101,116],D.str [103,101,116],D.str [103,101,116],D.str [115,101,116],D.str [115,101,116],D.str [115,101,116],D.str [115,101,116],D.str [106,117,109,112],D.str [119,104,101,110],D.str [119,104,101,110],D.str [116,101,108,108]])]) (d:=Zq .halt) ((head M).trans (by simp[Zu,aD,aq,hh,Zq]))).trans (Pn rfl)
 .obtain⟨r,ok,hr⟩:=Zqm cell A m (c / 16) v a b d q (many+1) kd hv la lb ld lq hk;refine⟨r,ok,λM=>?_⟩;obtain⟨M3,Ey⟩:∃M3:Store,M3=[.lst [D.str [112,117,116],D.str [112,117,116],D.str [97,100,100],D.str [115,117,98],D.str [109,111,114,101],D.str [103,101,116],D.str [103,101,116],D.str [103,101,116],D.str [115,101,116],D.str [115,101,116],D.str [115,101,116],D.str [115,101,116]],.lst [D.str [106,117,109,112],D.str [119,104,101,110],D.str [119,104,101,110],D.str [116,101,108,108]],.lst ([D.str [112,117,116],D.str [112,117,116],D.str [97,100,100],D.str [115,117,98],D.str [109,111,114,101],D.str [103,101,116],D.str [103,101,116],D.str [103,101,116],D.str [115,101,116],D.str [115,101,116],D.str [115,101,116],D.str [115,101,116],D.str [106,117,109,112],D.str [119,104,101,110],D.str [119,104,101,110],D.str [116,101,108,108]])]:=⟨_,rfl⟩;have hd':=head M;rw[←Ey]at hd';obtain⟨G,hG⟩:=hr (Ya (.ref M.length)) (M++M3);refine(lR (M':=M++(M3++G)) (d:=Zq r) (hd'.trans ?_)).trans (Pn (by cases r<;>rfl));rw[Zh (Zr (M':=M++M3) (by simp[hh]))];rw[Zh (Zz (M':=M++M3) (d:=.int a) (by simp[ha]))];rw[Zh (Zz (M':=M++M3) (d:=.int b) (by simp[hb]))];rw[Zh (Zz (M':=M++M3) (d:=.int d) (by simp[hd]))];rw[Zh (Zz (M':=M++M3) (d:=.int (A+1+c / 16 / 32 % (m-A))) (by simp[h1]))];rw[←j5,←hG];refine Zh ?_;by_cases z:c / 16 / 8 % 4=0
  .rw[if_pos z]at hq;rw[bG (M':=M++M3) (by simp[z])];exact Zz (d:=.int q) (by simp[p2,hq])
  .rw[if_neg z]at hq;rw[Zr (M':=M++M3) (by simp[z]),hq]
theorem ZtO(cell:Int)(j many:Nat)(hat:j<many)(hm:many<=64):∃r:Row,r.ok (many+1)/\∀M,sX [.int cell,.int j,.int many] M= .ok (Zq r) M:=by obtain⟨c,hc⟩:=Aq cell j (uo _) (by exact iN [_,_] [] 2 0x13884b1880111402b001 T1 hm hat);exact ZrF cell c j many many hc (uo _) (p8.2 hat) rfl
variable{j:Nat}{xs:List D}
theorem ZrD{v:D}{i:Int}(h:M[n]?=Ya (.lst xs))(hj:kE xs.length i=Ya j):yQ v (.ref n) (.int i) M= .ok .non (M.set n (.lst (xs.set j v))):=by simp only[Dg,h,hj]
variable{f:E3}
theorem Zu1{op:D->D->D->Store->R3 D}{g h:E3}{M M1 M2 M3 M4:Store}{a b c:D}(h1:f env M= .ok a M1)(h2:g env M1= .ok b M2)(h3:h env M2= .ok c M3)(h4:op a b c M3= .ok d M4):e3 op f g h env M= .ok d M4:=by simp only[e3,h1,h2,h3,h4,R3.bind]
theorem Zwo{a b:Int}(h:b<a):lG (.int a) (.int b) M= .ok (.bl true) M:=by simp only[Zsu,decide_eq_true h]
theorem ZmB{d0 d1 d4:Option D}{last:Row}{rows:List Row}(g:M[n]?=Ya (.lst (rows.map Zq)))(hz:rows.length<=60):(aq (au dF (Zb (e2 aM (Za 2) (b8 (Zb (Za 3) (Zg)))) (Zg)))) [d0,d1,Ya (.ref n),Ya (Zq last),d4] M= .rt (Zn (rows++[last])) (M++[.lst [Zq last],.lst ((rows++[last]).map Zq)]):=by
 have g':=cP g [.lst [Zq last]];have z:rows.length+1<=1000000:=lA 1 0xf42405ba0c03c2b001 T1 hz;refine cV (fD (Zv (a:=.ref n) (b:=.ref M.length) (M1:=M) (M2:=M++[.lst [Zq last]]) rfl (by simp) (M3:=M++[.lst [Zq last],.lst ((rows++[last]).map Zq)]) (d:=.ref (M++[MO.lst [Zq last]]).length) ?_) (uI ?_))
 .simp only[qx,qy,pg,qz,g',dM];simp[z]
 .rw[Y5];exact eZ _ _ 1
theorem ZrL(ns:List Int)(M:Store):∃roll:bJ,roll.length<=61/\eU roll/\Er [.aQ (ns.map D.int)] M= .ok (Zn roll) M:=by
 have ecs:cutD (ns.map D.int) Ye (Ya 60)=(ns.take 60).map D.int:=by have:=xF (ns.map D.int) 60;rw[←Gd]at this;exact this
 generalize hcs:ns.take 60=cs at ecs;have Av:cs.length<=60:=by rw[←hcs];simp;exact(q_ _ _)
 obtain⟨rows,lr,hr,h4⟩:=ZmZ (α:=Row) (enc:=Zq) (P:=λ_ r=>r.ok (cs.length+1)) (it:=⟨eQ 0 cs.length,Ye⟩) (i:=5) (n:=M.length+1) (elt:=(aH sX (Zb (e2 Ze (Za 1) (Za 5)) (Zb (Za 5) (Zb (au bw (Zb (Za 1) (Zg))) (Zg))))))
  (env0:=[Ya (.aQ (ns.map D.int)),Ya (.ref M.length),Ye,Ye,Ye,Ye]) (env:=[Ya (.aQ (ns.map D.int)),Ya (.ref M.length),Ye,Ye,Ye,Ye]) (ds:=eQ 0 cs.length) (acc:=[]) (M:=M++[.lst (cs.map D.int),.lst []]) (λ_=>rfl)
  (λd hd=>by
   obtain⟨j,hj⟩:=Bq hd;obtain⟨rfl,lj⟩:=Ie hj;obtain⟨r,ok,h⟩:=ZtO cs[j] j cs.length lj (lA 1 0x402b003c2b001 T1 Av);exact⟨r,ok,λx=>by
    have qD:((M++[MO.lst (cs.map D.int),MO.lst []]).set (M.length+1) (.lst x))[M.length]?=Ya (.lst (cs.map D.int)):=by rw[wD];simp
    generalize(M++[MO.lst (cs.map D.int),MO.lst []]).set (M.length+1) (.lst x)=M2 at qD;have e1:(e2 Ze (Za 1) (Za 5)) [Ya (.aQ (ns.map D.int)),Ya (.ref M.length),Ye,Ye,Ye,Ya (.int (j:Int))] M2= .ok (.int cs[j]) M2:=by simp[lj,qD]
    have e2:(au bw (Zb (Za 1) (Zg))) [Ya (.aQ (ns.map D.int)),Ya (.ref M.length),Ye,Ye,Ye,Ya (.int (j:Int))] M2= .ok (.int (cs.length:Int)) M2:=by simp[qD]
    show aH sX _ [Ya (.aQ (ns.map D.int)),Ya (.ref M.length),Ye,Ye,Ye,Ya (.int (j:Int))] M2=_;exact jC e1 rfl e2 (h M2)⟩)
  (λx=>rfl) (by rw[eZ];rfl) (by simp[Ds];exact lA 1 0xf42405b003c2b001 T1 Av)
 have xO:rows.length=cs.length:=by rw[Ds]at lr;exact lr
 have R_:∀x∈rows,x.ok (cs.length+1):=λx hx=>by
  obtain⟨j,hj⟩:=Bq hx;have:j<(eQ 0 cs.length).length:=by rw[←lr];exact(Yd.mp hj).1
  exact hr j (eQ 0 cs.length)[j] x (by simp[this]) hj
 have s1:(bj (Za 0) (bB) (bD (eC (.int 60)))) [Ya (.aQ (ns.map D.int)),Ye,Ye,Ye,Ye] M= .ok (.ref M.length) (M++[.lst (cs.map D.int)]):=by simp[ecs]
 have s2:(gh (jP (au bw (Zb (Za 1) (Zg)))) 1 (dz 5) [] (aH sX (Zb (e2 Ze (Za 1) (Za 5)) (Zb (Za 5) (Zb (au bw (Zb (Za 1) (Zg))) (Zg)))))) [Ya (.aQ (ns.map D.int)),Ya (.ref M.length),Ye,Ye,Ye] (M++[.lst (cs.map D.int)])= .ok (.ref (M.length+1)) (M++[.lst (cs.map D.int),.lst (rows.map Zq)]):=by
  rw[Dr (it:=⟨eQ 0 cs.length,Ye⟩) (M':=M++[.lst (cs.map D.int)]) (by
   have:((cs.length:Int))<=1000000/\ -1000000<=(cs.length:Int):=by exact⟨iN [_] [] 1 0xf42405b0883c2b001 T1 Av,iN [_] [] 0 615291837336 T1⟩
   simp[this])]
  have e:(M++[MO.lst (cs.map D.int)]).length=M.length+1:=by simp
  rw[e,j5];refine Cm h4 ?_;rw[wD];rfl
 have fin:∀(xP:List Row) (last:Row),xP.length=cs.length->(∀x∈xP,x.ok (cs.length+1))->last.ok (cs.length+1)->(last= .halt\/∃k,last= .jump k)->(∃G,Ep [Ya (.aQ (ns.map D.int)),Ye,Ye,Ye,Ye] M= .rt (Zn (xP++[last])) (M++G)) ->
   ∃roll:bJ,roll.length<=61/\eU roll/\Er [.aQ (ns.map D.int)] M= .ok (Zn roll) M:=λxP last l' ro lo ll ⟨G,h⟩=>by
  refine⟨xP++[last],by simp[l'];exact Av,⟨λx hx=>?_,xP,last,rfl,ll⟩,Rt.pure h (Zm2 _ _)⟩;rw[Y5,FQ,l'];rcases jK.mp hx with hx|hx
  .exact ro x hx
  .rw[oX.mp hx];exact lo
 have pre:∀{k:S3},Ep=Zu (ao 1 (bj (Za 0) (bB) (bD (eC (.int 60))))) (Zu (ao 2 (gh (jP (au bw (Zb (Za 1) (Zg)))) 1 (dz 5) [] (aH sX (Zb (e2 Ze (Za 1) (Za 5)) (Zb (Za 5) (Zb (au bw (Zb (Za 1) (Zg))) (Zg))))))) k) ->
   Ep [Ya (.aQ (ns.map D.int)),Ye,Ye,Ye,Ye] M=k [Ya (.aQ (ns.map D.int)),Ya (.ref M.length),Ya (.ref (M.length+1)),Ye,Ye] (M++[.lst (cs.map D.int),.lst (rows.map Zq)]):=λ{k} e=>by
  rw[e,Zh (Zz s1),Zh (Zz s2)]
 have pre':=pre rfl;rw[pre']at fin;clear pre pre' s1 s2 h4;have g0:(M++[MO.lst (cs.map D.int),.lst (rows.map Zq)])[M.length]?=Ya (.lst (cs.map D.int)):=dM _ _ _;have g1:(M++[MO.lst (cs.map D.int),.lst (rows.map Zq)])[M.length+1]?=Ya (.lst (rows.map Zq)):=eZ _ _ 1;by_cases hq:∃p0:0<cs.length,cs[0] % 4=1
 .obtain⟨p0,q1⟩:=hq;obtain⟨n,hn⟩:=Aq cs[0] 61 (by exact iN [] [] 0 4008936 T1) (by exact iN [] [] 0 1342256173752 T1);obtain⟨a,ha,la⟩:=kO n cs.length p0;obtain⟨k,hk,lk⟩:=kO (n / 64) (cs.length+1) (lA 0 658657 T1);have hk':n / 64 % ((cs.length:Int)+1)=k:=by rw[←hk];rfl
  refine fin (rows.set a .halt) (.jump k) (by simp[xO]) (λx hx=>?_) lk (.inr ⟨k,rfl⟩) ⟨[.lst (cs.map D.int),.lst ((rows.set a .halt).map Zq),.lst [Zq (.jump k)],.lst ((rows.set a .halt++[Row.jump k]).map Zq)],?_⟩
  .rcases T_ hx with h|h
   .exact R_ x h
   .rw[h];trivial
  .have Aw:(0:Int)<cs.length:=by exact iN [_,_] [] 1 417927185 T1 la
   have p1':(0:Int)<(cs.length:Int)+1:=by exact iN [_] [] 0 10521833 T1
   have hg:cO (cs.map D.int) 0=Ya (.int cs[0]):=by simp[p0]
   have i0:∀d3 d4:Option D,(e2 Ze (Za 1) (eC (.int 0))) [Ya (.aQ (ns.map D.int)),Ya (.ref M.length),Ya (.ref (M.length+1)),d3,d4] (M++[.lst (cs.map D.int),.lst (rows.map Zq)])= .ok (.int cs[0]) (M++[.lst (cs.map D.int),.lst (rows.map Zq)]):=λd3 d4=>Zv rfl rfl (sO g0 hg);have el:(rows.map Zq).length=cs.length:=by rw[Yn,xO]
   have ej:kE (rows.map Zq).length (n % ((rows.map Zq).length:Int))=Ya a:=by rw[el,ha];simp[la]
   have m1:(M++[MO.lst (cs.map D.int),.lst (rows.map Zq)]).set (M.length+1) (.lst ((rows.map Zq).set a (Zq .halt)))=M++[.lst (cs.map D.int),.lst ((rows.set a .halt).map Zq)]:=by rw[wD,Lg];rfl
   have g2:(M++[MO.lst (cs.map D.int),.lst ((rows.set a .halt).map Zq)])[M.length+1]?=Ya (.lst ((rows.set a .halt).map Zq)):=eZ _ _ 1;have el2:((rows.set a .halt).map Zq).length=cs.length:=by rw[Yn,xZ,xO]
   refine(Zh (Zz (d:=Zq .halt) (i_ rfl rfl))).trans ?_;have pu:=Dq (Zu1 (op:=yQ) (f:=Za 3) (g:=Za 2) (h:=e2 aZ (Za 4) (au bw (Zb (Za 2) (Zg)))) (env:=[Ya (.aQ (ns.map D.int)),Ya (.ref M.length),Ya (.ref (M.length+1)),Ya (Zq .halt),Ya (.int n)]) rfl rfl (Zv rfl (fD rfl (mK g1)) (pB (by rw[el];exact Aw))) (ZrD g1 ej));rw[m1]at pu;have jm:(aR (Zb (eC (.str [106,117,109,112])) (Zb (e2 aZ (e2 b_ (Za 4) (eC (.int 64))) (e2 aM (au bw (Zb (Za 2) (Zg))) (eC (.int 1)))) (Zg)))) [Ya (.aQ (ns.map D.int)),Ya (.ref M.length),Ya (.ref (M.length+1)),Ya (Zq .halt),Ya (.int n)] (M++[.lst (cs.map D.int),.lst ((rows.set a .halt).map Zq)])= .ok (Zq (.jump k)) (M++[.lst (cs.map D.int),.lst ((rows.set a .halt).map Zq)]):=by refine i_ (dh rfl (dh (Zv (a:=.int (n / 64)) (b:=.int ((cs.length:Int)+1)) (Zv rfl rfl (by simp)) (Zv (fD rfl (mK g2)) rfl (by rw[el2];rfl)) ?_) rfl)) rfl;rw[←hk'];exact pB p1'
   refine(Zh ((bG ((ou (Zv (fD rfl (mK g0)) rfl (Zwo (by rw[Yn];exact Aw)))).trans (Zv (Zv (i0 _ _) rfl (pB (by decide))) rfl (YH q1)))).trans ((Zh (Zz (iz (i0 _ _) rfl (hn _)))).trans ((Zh pu).trans (Zz jm))))).trans ?_;refine(ZmB g2 (by rw[xZ,xO];exact Av)).trans ?_;simp
 .have c1:(eN (e2 lG (au bw (Zb (Za 1) (Zg))) (eC (.int 0))) (e2 aC (e2 aZ (e2 Ze (Za 1) (eC (.int 0))) (eC (.int 4))) (eC (.int 1)))) [Ya (.aQ (ns.map D.int)),Ya (.ref M.length),Ya (.ref (M.length+1)),Ya (Zq .halt),Ye] (M++[.lst (cs.map D.int),.lst (rows.map Zq)])= .ok (.bl false) (M++[.lst (cs.map D.int),.lst (rows.map Zq)]):=by
   by_cases p0:0<cs.length
   .have Aw:(0:Int)<cs.length:=by exact iN [_] [] 1 149491217 T1 p0
    have q1:¬cs[0] % 4=1:=λh=>hq ⟨p0,h⟩;simp[g0,Aw,p0,q1]
   .have Aw:¬(0:Int)<cs.length:=by exactλz=>iN [_] [] 2 416159927953 T1 z p0
    simp[g0,Aw,p0]
  refine fin rows .halt xO R_ trivial (.inl rfl) ⟨[.lst (cs.map D.int),.lst (rows.map Zq),.lst [Zq .halt],.lst ((rows++[Row.halt]).map Zq)],?_⟩;refine(Zh (Zz (d:=Zq .halt) (M':=M++[.lst (cs.map D.int),.lst (rows.map Zq)]) (by simp[Zq]))).trans ((Zh (Zr c1)).trans ?_);refine(ZmB g1 (by rw[xO];exact Av)).trans ?_;simp
noncomputable def iD(r:Row)(bs:List Int)(t:List (Int×Int)):List (Int×Int):=match r with
 | .set a b=>iT t (bs.getD a 0) (bs.getD b 0)|_=>t
theorem set_same{o:MO}(h:M[n]?=Ya o):M.set n o=M:=by
 apply rC;intro j;by_cases hj:j=n
 .subst hj;rw[Y2 (Yd.mp h).1,h]
 .rw[jH (cU hj)]
theorem ZlV(r:Row)(p nb nt:Nat)(bs:List Int)(t:List (Int×Int))(M:Store)(many:Nat)(g0:M[nb]?=Ya (.lst (bs.map D.int)))(g1:M[nt]?=Ya (.dct (bF t)))(hne:nb≠nt)(hb:bs.length=8)(hr:r.ok many)(hl:t.length<100000):
  pN [Zq r,.int p,.ref nb,.ref nt] M= .ok (.int (r.place bs p)) ((M.set nb (.lst ((r.aF bs t).map D.int))).set nt (.dct (bF (iD r bs t)))):=by
 have z:(bF t).length<1000000:=by rw[bF,Yn];exact lA 1 0xf42405b01186a05b011 T1 hl
 have sb:M.set nb (.lst (bs.map D.int))=M:=set_same g0;have st:M.set nt (.dct (bF t))=M:=set_same g1;have sx:∀x,(M.set nb x).set nt (.dct (bF t))=M.set nb x:=λx=>set_same (by rw[jH hne];exact g1);have fin:∀{d:D} {bs':List Int},QQ [Ya (Zq r),Ya (.int (p:Int)),Ya (.ref nb),Ya (.ref nt),Ye] M= .rt d (M.set nb (.lst (bs'.map D.int))) ->
   pN [Zq r,.int p,.ref nb,.ref nt] M= .ok d ((M.set nb (.lst (bs'.map D.int))).set nt (.dct (bF t))):=λ{d bs'} h=>by rw[sx];exact(lR h).trans (uW (by simp))
 have gt:∀{a:Nat} {x:Int},cO (bs.map D.int) (a:Int)=Ya (.int x)->Ze (.ref nb) (.int (a:Int)) M= .ok (.int x) M:=λ{a x} g=>by simp only[nU,nW,nY,nZ,g0,g]
 have pl:∀{w:List Nat} {i f:E3} {a:Nat} {v:Int},f [Ya (Zq r),Ya (.int (p:Int)),Ya (.ref nb),Ya (.ref nt),Ya (.str w)] M= .ok (.int v) M->i [Ya (Zq r),Ya (.int (p:Int)),Ya (.ref nb),Ya (.ref nt),Ya (.str w)] M= .ok (.int (a:Int)) M->a<8 ->
   n_ (Za 2) i f [Ya (Zq r),Ya (.int (p:Int)),Ya (.ref nb),Ya (.ref nt),Ya (.str w)] M= .nx [Ya (Zq r),Ya (.int (p:Int)),Ya (.ref nb),Ya (.ref nt),Ya (.str w)] (M.set nb (.lst ((bs.set a v).map D.int))):=λ{w i f a v} h1 h2 ha=>by
  have hl8:a<(bs.map D.int).length:=by rw[Yn,hb];exact ha
  simp only[n_,dJ,e3,h1,h2,R3.bind,Za,Y8,Y3,Dg,g0,X8,if_pos hl8,Lg]
 have pre:∀{w:List Nat} {o:O3} {k:S3},Ze (Zq r) (.int 0) M= .ok (.str w) M->k [Ya (Zq r),Ya (.int (p:Int)),Ya (.ref nb),Ya (.ref nt),Ya (.str w)] M=o->Zu (ao 4 (e2 Ze (Za 0) (eC (.int 0)))) k [Ya (Zq r),Ya (.int (p:Int)),Ya (.ref nb),Ya (.ref nt),Ye] M=o:=λ{w o k} h1 h=>(Zh (Zz (Zv rfl rfl h1))).trans h;cases r with
 |put a n=>exact fin (bs':=bs.set a n) (pre rfl ((Zh ((bG (M':=M) rfl).trans (pl (a:=a) rfl rfl hr))).trans rfl))|add a b c=>obtain⟨x,hx,gx⟩:=fL hb hr.2.1;obtain⟨y,hy,gy⟩:=fL hb hr.2.2;simp only[Row.aF,hx,hy];exact fin (pre rfl ((Zh ((d9 (M':=M) rfl).trans ((bG (M':=M) rfl).trans (pl (a:=a) (v:=x+y) (Zv (Zv rfl (b:=.int (b:Int)) rfl (gt gx)) (Zv rfl (b:=.int (c:Int)) rfl (gt gy)) rfl) rfl hr.1)))).trans rfl))
 |sub a b c=>obtain⟨x,hx,gx⟩:=fL hb hr.2.1;obtain⟨y,hy,gy⟩:=fL hb hr.2.2;simp only[Row.aF,hx,hy];exact fin (pre rfl ((Zh ((d9 (M':=M) rfl).trans ((d9 (M':=M) rfl).trans ((bG (M':=M) rfl).trans (pl (a:=a) (v:=x-y) (Zv (Zv rfl (b:=.int (b:Int)) rfl (gt gx)) (Zv rfl (b:=.int (c:Int)) rfl (gt gy)) rfl) rfl hr.1))))).trans rfl))|more a b c=>
  obtain⟨x,hx,gx⟩:=fL hb hr.2.1;obtain⟨y,hy,gy⟩:=fL hb hr.2.2;simp only[Row.aF,hx,hy];have iv:lU [.bl (decide (y<x))] M= .ok (.int (if y<x then 1 else 0)) M:=by
   by_cases q:y<x
   .rw[decide_eq_true q,if_pos q];rfl
   .rw[decide_eq_false q,if_neg q];rfl
  exact fin (pre rfl ((Zh ((d9 (M':=M) rfl).trans ((d9 (M':=M) rfl).trans ((d9 (M':=M) rfl).trans ((bG (M':=M) rfl).trans (pl (a:=a) (fD (Zv (Zv rfl (b:=.int (b:Int)) rfl (gt gx)) (Zv rfl (b:=.int (c:Int)) rfl (gt gy)) rfl) iv) rfl hr.1)))))).trans rfl))
 | get a b=>
  obtain⟨x,hx,gx⟩:=fL hb hr.2;simp only[Row.aF,hx];have gv:(g8 yP wz (Za 3) (Zb (e2 Ze (Za 2) (e2 Ze (Za 0) (eC (.int 2)))) (Zb (eC (.int 0)) (Zg)))) [Ya (Zq (.get a b)),Ya (.int (p:Int)),Ya (.ref nb),Ya (.ref nt),Ya (.str [103,101,116])] M= .ok (.int (dG t x)) M:=by have e1:(e2 Ze (Za 2) (e2 Ze (Za 0) (eC (.int 2)))) [Ya (Zq (.get a b)),Ya (.int (p:Int)),Ya (.ref nb),Ya (.ref nt),Ya (.str [103,101,116])] M= .ok (.int x) M:=Zv rfl (b:=.int (b:Int)) rfl (gt gx);generalize(e2 Ze (Za 2) (e2 Ze (Za 0) (eC (.int 2))))=E at e1;simp only[g8,Za,Y8,Y3,R3.bind,HD,g1,XF,XH,KD,if_true,Zb,Zg,eC,e1,O6,O7,Hz,HB,Ii]
  exact fin (pre rfl ((Zh ((d9 (M':=M) rfl).trans ((d9 (M':=M) rfl).trans ((d9 (M':=M) rfl).trans ((d9 (M':=M) rfl).trans ((bG (M':=M) rfl).trans (pl (a:=a) gv rfl hr.1))))))).trans rfl))
 | set a b=>
  obtain⟨x,hx,gx⟩:=fL hb hr.1;obtain⟨y,hy,gy⟩:=fL hb hr.2;simp only[Row.aF,iD,hx,hy];rw[sb];have pd:HN (Za 3) (e2 Ze (Za 2) (e2 Ze (Za 0) (eC (.int 1)))) (e2 Ze (Za 2) (e2 Ze (Za 0) (eC (.int 2)))) [Ya (Zq (.set a b)),Ya (.int (p:Int)),Ya (.ref nb),Ya (.ref nt),Ya (.str [115,101,116])] M= .nx [Ya (Zq (.set a b)),Ya (.int (p:Int)),Ya (.ref nb),Ya (.ref nt),Ya (.str [115,101,116])] (M.set nt (.dct (bF (iT t x y)))):=by have e1:(e2 Ze (Za 2) (e2 Ze (Za 0) (eC (.int 1)))) [Ya (Zq (.set a b)),Ya (.int (p:Int)),Ya (.ref nb),Ya (.ref nt),Ya (.str [115,101,116])] M= .ok (.int x) M:=Zv rfl (b:=.int (a:Int)) rfl (gt gx);have e2':(e2 Ze (Za 2) (e2 Ze (Za 0) (eC (.int 2)))) [Ya (Zq (.set a b)),Ya (.int (p:Int)),Ya (.ref nb),Ya (.ref nt),Ya (.str [115,101,116])] M= .ok (.int y) M:=Zv rfl (b:=.int (b:Int)) rfl (gt gy);generalize(e2 Ze (Za 2) (e2 Ze (Za 0) (eC (.int 1))))=E1 at e1;generalize(e2 Ze (Za 2) (e2 Ze (Za 0) (eC (.int 2))))=E2 at e2';simp only[HN,dJ,e3,e1,e2',R3.bind,Za,Y8,Y3,XS,g1,Hz,HB,if_pos z,YM]
  exact(lR (pre rfl ((Zh ((d9 (M':=M) rfl).trans ((d9 (M':=M) rfl).trans ((d9 (M':=M) rfl).trans ((d9 (M':=M) rfl).trans ((d9 (M':=M) rfl).trans ((bG (M':=M) rfl).trans pd))))))).trans rfl))).trans (uW (by simp))
 |jump k=>refine(lR (M':=M) (d:=.int (k:Int)) (pre rfl (cB ((d9 (M':=M) rfl).trans ((d9 (M':=M) rfl).trans ((d9 (M':=M) rfl).trans ((d9 (M':=M) rfl).trans ((d9 (M':=M) rfl).trans ((d9 (M':=M) rfl).trans ((bG (M':=M) rfl).trans rfl)))))))))).trans ((uW rfl).trans ?_);simp only[Row.aF,iD,sb,st];rfl|when a k=>
  obtain⟨x,hx,gx⟩:=fL hb hr.1;have cc:(iM (e2 aC (Za 4) (eC (.str [106,117,109,112]))) (eN (e2 aC (Za 4) (eC (.str [119,104,101,110]))) (e2 lG (e2 Ze (Za 2) (e2 Ze (Za 0) (eC (.int 1)))) (eC (.int 0))))) [Ya (Zq (.when a k)),Ya (.int (p:Int)),Ya (.ref nb),Ya (.ref nt),Ya (.str [119,104,101,110])] M= .ok (.bl (decide (0<x))) M:=(uJ (M1:=M) rfl).trans ((ou (M1:=M) rfl).trans (Zv (Zv rfl (b:=.int (a:Int)) rfl (gt gx)) rfl rfl));simp only[Row.aF,Row.place,iD,sb,st,hx];by_cases q:0<x
  .rw[decide_eq_true q]at cc;rw[if_pos q];exact(lR (M':=M) (d:=.int (k:Int)) (pre rfl (cB ((d9 (M':=M) rfl).trans ((d9 (M':=M) rfl).trans ((d9 (M':=M) rfl).trans ((d9 (M':=M) rfl).trans ((d9 (M':=M) rfl).trans ((d9 (M':=M) rfl).trans ((bG cc).trans rfl)))))))))).trans (uW rfl)
  .rw[decide_eq_false q]at cc;rw[if_neg q];exact(lR (M':=M) (d:=.int ((p:Int)+1)) (pre rfl ((Zh ((d9 (M':=M) rfl).trans ((d9 (M':=M) rfl).trans ((d9 (M':=M) rfl).trans ((d9 (M':=M) rfl).trans ((d9 (M':=M) rfl).trans ((d9 (M':=M) rfl).trans (Zr cc)))))))).trans rfl))).trans (uW rfl)
 |tell a=>refine(lR (M':=M) (d:=.int ((p:Int)+1)) rfl).trans ((uW rfl).trans ?_);simp only[Row.aF,iD,sb,st];rfl|halt=>refine(lR (M':=M) (d:=.int ((p:Int)+1)) rfl).trans ((uW rfl).trans ?_);simp only[Row.aF,iD,sb,st];rfl
theorem Zp9(ns:List Int)(M:Store):∃bs:List Int,bs.length=8/\Jr [.aQ (ns.map D.int)] M= .ok (Zk bs) M:=by
 obtain⟨e',M',hl,bs,x,y,lb,rfl,rfl⟩:=Pk (it:=⟨eQ 0 8,Ye⟩) (g:=dz 2)
  (body:=(Zu (ao 3 (eC (.int 0))) (Zu (aD (e2 lG (au bw (Zb (Za 0) (Zg))) (eC (.int 0))) (ao 3 (e2 Ze (Za 0) (e2 aZ (e2 aM (e2 gY (eC (.int 5)) (Za 2)) (eC (.int 3))) (au bw (Zb (Za 0) (Zg)))))) (aK)) (dJ (g8 jz jy (Za 1) (Zb (aH kJ (Zb (aH g_ (Zb (Za 3) (Zb (e2 aM (eC (.int 100)) (Za 2)) (Zg)))) (Zg))) (Zg)))))))
  (P:=λj env M'=>∃(bs:List Int) (x y:Option D),bs.length=j/\env=[Ya (.aQ (ns.map D.int)),Ya (.ref M.length),x,y]/\M'=M++[.lst (bs.map D.int)])
  (eQ 0 8) 0 [Ya (.aQ (ns.map D.int)),Ya (.ref M.length),Ye,Ye] (M++[.lst []]) ⟨[],Ye,Ye,rfl,rfl,rfl⟩ (λ_ _ _ _=>rfl)
  (λk d hd env M' ⟨bs,x,y,lb,he,hm⟩=>by
   obtain⟨rfl,lk⟩:=Ie hd;subst he hm;have key:∀c:Int,∃e' M',dJ (g8 jz jy (Za 1) (Zb (aH kJ (Zb (aH g_ (Zb (Za 3) (Zb (e2 aM (eC (.int 100)) (Za 2)) (Zg)))) (Zg))) (Zg))) [Ya (.aQ (ns.map D.int)),Ya (.ref M.length),Ya (.int (k:Int)),Ya (.int c)] (M++[.lst (bs.map D.int)])= .nx e' M'/\
     ∃(bs:List Int) (x y:Option D),bs.length=0+k+1/\e'=[Ya (.aQ (ns.map D.int)),Ya (.ref M.length),x,y]/\M'=M++[.lst (bs.map D.int)]:=λc=>by
    obtain⟨v,hv⟩:=Aq c (100+k) (by exact iN [_] [] 0 2252520680 T1) (by exact iN [_] [] 1 0x13884b08642bc881b011 T1 lk);obtain⟨w,hw⟩:=Q0 v;refine⟨_,M++[.lst ((bs++[w]).map D.int)],Dq (d:=.non) ?_,bs++[w],_,_,by simp[lb],rfl,rfl⟩;have:(bs.length:Nat)<1000000:=lB 2 0xf42405b110ec12181b011 T1 lk lb;simp[hv,hw,this]
   have m5:fK 5 (k:Int)=true:=qO (by omega);by_cases p0:0<ns.length
   .obtain⟨a,ha,la⟩:=kO (5*(k:Int)+3) ns.length p0;obtain⟨e',M',h,hP⟩:=key ns[a];refine⟨_,e',M',rfl,?_,hP⟩;rw[←h];simp[Zu,ao,aD,p0,m5,ha,la]
   .obtain⟨e',M',h,hP⟩:=key 0;refine⟨_,e',M',rfl,?_,hP⟩;rw[←h];simp[Zu,ao,aD,p0,aK])
 rw[Ds]at lb;refine⟨bs,lb,Rt.pure (env:=[Ya (.aQ (ns.map D.int)),Ye,Ye,Ye]) (G:=[.lst (bs.map D.int)]) ?_ (Ew _ _)⟩;refine(Zh (Zz (d:=.ref M.length) (M':=M++[.lst []]) (by simp))).trans ((Zh ((Ib (it:=⟨eQ 0 8,Ye⟩) (M':=M++[.lst []]) (by simp)).trans hl)).trans (cV ?_));simp[Zk]
theorem ZrE(r:Row)(p:Nat)(bs:List Int)(t:List (Int×Int))(A G:Store)(many:Nat)(hb:bs.length=8)(hr:r.ok many)(hl:t.length<100000):
  pN [Zq r,.int p,.ref A.length,.ref (A.length+1)] (A++ .lst (bs.map D.int):: .dct (bF t)::G)= .ok (.int (r.place bs p)) (A++ .lst ((r.aF bs t).map D.int):: .dct (bF (iD r bs t))::G):=by
 rw[ZlV r p A.length (A.length+1) bs t _ many (dM _ _ _) (eZ _ _ 1) (λz=>lA 1 111198257 T1 z) hb hr hl];rw[show(A++MO.lst (bs.map D.int):: .dct (bF t)::G).set A.length (.lst ((r.aF bs t).map D.int))=A++ .lst ((r.aF bs t).map D.int):: .dct (bF t)::G from wD A _ 0 _,wD A _ 1 _];rfl
variable{r:Row}
theorem Zl5{bs:List Int}{t:List (Int×Int)}(hk:keysOk t):r.aF bs (e_ t)=r.aF bs t:=by cases r<;>first|exact rfl|simp[Row.aF,Zpi hk]
theorem ZmJ{bs:List Int}{t:List (Int×Int)}(hk:keysOk t):r.cells bs (e_ t)=e_ (iD r bs t):=by
 cases r<;>first|exact rfl|simp only[Row.cells,iD]
 rw[Zpt hk]
theorem Zrr{bs:List Int}{t:List (Int×Int)}(hk:keysOk t):keysOk (iD r bs t):=by cases r<;>simp only[iD]<;>first|exact hk|exact Dt _ _ hk
theorem Zqi(t:List (Int×Int))(n v:Int):(iT t n v).length<=t.length+1:=by unfold iT;split <;>simp
theorem ZnY(r:Row)(bs:List Int)(t:List (Int×Int)):(iD r bs t).length<=t.length+1:=by cases r<;>simp only[iD]<;>first|omega|exact Zqi _ _ _
noncomputable def jc:Row->List Nat
 | .put ..=>[112,117,116]| .add ..=>[97,100,100]| .sub ..=>[115,117,98]| .more ..=>[109,111,114,101]| .get ..=>[103,101,116]| .set ..=>[115,101,116]| .jump ..=>[106,117,109,112]| .when ..=>[119,104,101,110]| .tell ..=>[116,101,108,108]| .halt=>[104,97,108,116]
theorem uY(r:Row)(M:Store):Ze (Zq r) (.int 0) M= .ok (.str (jc r)) M:=by cases r<;>first|exact rfl|simp[Zq,jc]
theorem Q6(r:Row):r.eF=decide ((jc r)=[104,97,108,116]):=by cases r<;>rfl
theorem ZmU{c:E3}{body:S3}{e:bI}{M M1 M':Store}(h:c env M= .ok (.bl true) M1)(h':body env M1= .nx e M'):mH c body (n+1) env M=mH c body n e M':=by show(match c env M with| .ok (.bl true) M1=>_| .ok (.bl false) M1=>_| .exc x M1=>_|_=>_)=_;rw[h];simp only[h']
theorem Ax{c:E3}{body:S3}{M M1:Store}(h:c env M= .ok (.bl false) M1):mH c body (n+1) env M= .nx env M1:=by show(match c env M with| .ok (.bl true) M1=>_| .ok (.bl false) M1=>_| .exc x M1=>_|_=>_)=_;rw[h]
theorem ZmL(r:Row):∃nm,(r.eF=decide (nm=[104,97,108,116]))/\∀M,Ze (Zq r) (.int 0) M= .ok (.str nm) M:=⟨_,Q6 r,uY r⟩
variable{roll:bJ}
theorem tD{p:Nat}(h:roll[p]?=Ya r):Ze (Zn roll) (.int (p:Int)) M= .ok (Zq r) M:=wG (by rw[mJ,Yx,h];rfl)
theorem ZmR(roll:bJ)(R:eU roll)(d1:D)(most:Nat)(A:Store)(hm:most<=2001)(J:Nat->cW->List (Int×Int)->Prop)(hJ:∀k s t,J k s t->t.length<64)(hS:∀k s t r,J k s t->roll[s.place]?=Ya r->r.eF=false->k<most->J (k+1) ⟨r.place s.aF s.place,r.aF s.aF t,e_ (iD r s.aF t)⟩ (iD r s.aF t)):
  ∀(k:Nat) (pre:List cW) (s:cW) (t:List (Int×Int)) (fuel:Nat) (G:Store) (y:Option D),pre.length+k=most->k<fuel->Good roll s->keysOk t->s.cells=e_ t->J pre.length s t ->
  ∃(p':Nat) (bs':List Int) (t':List (Int×Int)) (G':Store) (y':Option D),mH (eN (e2 dw (e2 Ze (e2 Ze (Za 0) (Za 3)) (eC (.int 0))) (eC (.str [104,97,108,116]))) (e2 nQ (au bw (Zb (Za 6) (Zg))) (Za 2))) (Zu (ao 3 (aH pN (Zb (e2 Ze (Za 0) (Za 3)) (Zb (Za 3) (Zb (Za 4) (Zb (Za 5) (Zg))))))) (Zu (ao 7 (wC (Za 5) 1 (dz 8) [e2 dw (e2 n6 (Za 5) (Za 8)) (eC (.int 0))] (aR (Zb (Za 8) (Zb (e2 n6 (Za 5) (Za 8)) (Zg)))))) (dJ (g8 jz jy (Za 6) (Zb (aR (Zb (Za 3) (Zb (au dF (Zb (Za 4) (Zg))) (Zb (au dF (Zb (au jN (Zb (Za 7) (Zg))) (Zg))) (Zg))))) (Zg)))))) fuel
   [Ya (Zn roll),Ya d1,Ya (.int (most:Int)),Ya (.int (s.place:Int)),Ya (.ref A.length),Ya (.ref (A.length+1)),Ya (.ref (A.length+2)),y] (A++ .lst (s.aF.map D.int):: .dct (bF t):: .lst ((pre++[s]).map cX)::G)=
   .nx [Ya (Zn roll),Ya d1,Ya (.int (most:Int)),Ya (.int (p':Int)),Ya (.ref A.length),Ya (.ref (A.length+1)),Ya (.ref (A.length+2)),y'] (A++ .lst (bs'.map D.int):: .dct (bF t'):: .lst ((pre++cY roll k s).map cX)::G'):=by
 intro k
 induction k with
 | zero=>
  intro pre s t fuel G y hk hf g kt es hj;cases fuel with
  |zero=>exact(lN [] 1 454161 rfl hf).elim|succ fuel=>
   refine⟨s.place,s.aF,t,G,y,?_⟩;have gp:=g.pl;have hr:roll[s.place]?=Ya roll[s.place]:=by simp[g.pl]
   obtain⟨nm,hn,hi⟩:=ZmL roll[s.place];generalize hM:A++MO.lst (s.aF.map D.int):: .dct (bF t):: .lst ((pre++[s]).map cX)::G=M;have g2:M[A.length+2]?=Ya (.lst ((pre++[s]).map cX)):=by rw[←hM];exact eZ _ _ 2
   have c0:(e2 Ze (e2 Ze (Za 0) (Za 3)) (eC (.int 0))) [Ya (Zn roll),Ya d1,Ya (.int (most:Int)),Ya (.int (s.place:Int)),Ya (.ref A.length),Ya (.ref (A.length+1)),Ya (.ref (A.length+2)),y] M= .ok (.str nm) M:=by exact Zv (Zv rfl rfl (tD hr)) rfl (hi M)
   by_cases hq:nm=[104,97,108,116]
   .rw[Ax (wH (M1:=M) (Zv c0 rfl (Ih hq)))];exact congrArg _ hM.symm
   .have c2:(e2 nQ (au bw (Zb (Za 6) (Zg))) (Za 2)) [Ya (Zn roll),Ya d1,Ya (.int (most:Int)),Ya (.int (s.place:Int)),Ya (.ref A.length),Ya (.ref (A.length+1)),Ya (.ref (A.length+2)),y] M= .ok (.bl false) M:=by
     exact Zv (fD rfl (mK g2)) rfl (YG (by rw[Yn,Y5,FQ];exactλz=>iN [_,_] [] 2 0x61e0c3118a0c881 T1 z hk))
    rw[Ax ((ou (M1:=M) (Zv c0 rfl (Ig hq))).trans c2)];exact congrArg _ hM.symm
 | succ k ih=>
  intro pre s t fuel G y hk hf g kt es hj;cases fuel with
  |zero=>exact(lA 1 116001809 T1 hf).elim|succ fuel=>
   have gp:=g.pl;have hr:roll[s.place]?=Ya roll[s.place]:=by simp[g.pl]
   have ro:=R.rows _ (Y1 g.pl);obtain⟨nm,hn,hi⟩:=ZmL roll[s.place];generalize hrr:roll[s.place]=r at hr ro hn hi;have tl:=hJ _ _ _ hj;generalize hM:A++MO.lst (s.aF.map D.int):: .dct (bF t):: .lst ((pre++[s]).map cX)::G=M;have g2:M[A.length+2]?=Ya (.lst ((pre++[s]).map cX)):=by rw[←hM];exact eZ _ _ 2
   have ci:∀M,(e2 Ze (Za 0) (Za 3)) [Ya (Zn roll),Ya d1,Ya (.int (most:Int)),Ya (.int (s.place:Int)),Ya (.ref A.length),Ya (.ref (A.length+1)),Ya (.ref (A.length+2)),y] M= .ok (Zq r) M:=λM=>Zv rfl rfl (tD hr);have c0:(e2 Ze (e2 Ze (Za 0) (Za 3)) (eC (.int 0))) [Ya (Zn roll),Ya d1,Ya (.int (most:Int)),Ya (.int (s.place:Int)),Ya (.ref A.length),Ya (.ref (A.length+1)),Ya (.ref (A.length+2)),y] M= .ok (.str nm) M:=Zv (ci M) rfl (hi M);by_cases hq:nm=[104,97,108,116]
   .refine⟨s.place,s.aF,t,G,y,?_⟩;rw[Ax (wH (M1:=M) (Zv c0 rfl (Ih hq)))];have:gU roll s=Ye:=by simp[gU,hr,oA,hn,hq]
    rw[Y_ k this,hM]
   .have c2:(e2 nQ (au bw (Zb (Za 6) (Zg))) (Za 2)) [Ya (Zn roll),Ya d1,Ya (.int (most:Int)),Ya (.int (s.place:Int)),Ya (.ref A.length),Ya (.ref (A.length+1)),Ya (.ref (A.length+2)),y] M= .ok (.bl true) M:=by
     exact Zv (fD rfl (mK g2)) rfl (YF (by rw[Yn,Y5,FQ];exact iN [_,_,_] [] 1 0x28a0c882a1c0c21 T1 hk))
    have cc:(eN (e2 dw (e2 Ze (e2 Ze (Za 0) (Za 3)) (eC (.int 0))) (eC (.str [104,97,108,116]))) (e2 nQ (au bw (Zb (Za 6) (Zg))) (Za 2))) [Ya (Zn roll),Ya d1,Ya (.int (most:Int)),Ya (.int (s.place:Int)),Ya (.ref A.length),Ya (.ref (A.length+1)),Ya (.ref (A.length+2)),y] M= .ok (.bl true) M:=(ou (M1:=M) (Zv c0 rfl (Ig hq))).trans c2;have nh:r.eF=false:=by rw[hn];simp[hq]
    have st:gU roll s=Ya ⟨r.place s.aF s.place,r.aF s.aF t,e_ (iD r s.aF t)⟩:=by simp only[gU,hr,iV,oA,nh,es,Zl5 kt,ZmJ kt];rfl
    have j':=hS _ _ _ r hj hr nh (lC 1 2204024704033 T1 hk);have JC:=Zrr (r:=r) (bs:=s.aF) kt;have tl':=hJ _ _ _ j';have go:=ZrE r s.place s.aF t A (.lst ((pre++[s]).map cX)::G) roll.length g.bx ro (lA 1 0x186a05b01402b011 T1 tl);rw[hM]at go;have gd:=(Ik R g st).1;generalize r.place s.aF s.place=p2 at *;generalize r.aF s.aF t=oJ at *;generalize iD r s.aF t=t2 at *;generalize qD:A++MO.lst (oJ.map D.int):: .dct (bF t2):: .lst ((pre++[s]).map cX)::G=M2 at go;have k0:M2[A.length]?=Ya (.lst (oJ.map D.int)):=by rw[←qD];exact dM _ _ _
    have k1:M2[A.length+1]?=Ya (.dct (bF t2)):=by rw[←qD];exact eZ _ _ 1
    have k2:M2[A.length+2]?=Ya (.lst ((pre++[s]).map cX)):=by rw[←qD];exact eZ _ _ 2
    have b1:(aH pN (Zb (e2 Ze (Za 0) (Za 3)) (Zb (Za 3) (Zb (Za 4) (Zb (Za 5) (Zg)))))) [Ya (Zn roll),Ya d1,Ya (.int (most:Int)),Ya (.int (s.place:Int)),Ya (.ref A.length),Ya (.ref (A.length+1)),Ya (.ref (A.length+2)),y] M= .ok (.int (p2:Int)) M2:=yW (ci M) rfl rfl rfl go;have b2:=ZnI (i:=5) (env:=[Ya (Zn roll),Ya d1,Ya (.int (most:Int)),Ya (.int (p2:Int)),Ya (.ref A.length),Ya (.ref (A.length+1)),Ya (.ref (A.length+2)),y]) (t:=t2) (n:=A.length+1) (own:=1) (M:=M2) (c:=e2 dw (e2 n6 (Za 5) (Za 8)) (eC (.int 0))) (elt:=aR (Zb (Za 8) (Zb (e2 n6 (Za 5) (Za 8)) (Zg)))) rfl k1 (lA 1 0x186a05b00402b011 T1 tl')
     (λp hp M hM=>by have:=Zn6 JC hp hM;have e:(e2 n6 (Za 5) (Za 8)) ([Ya (Zn roll),Ya d1,Ya (.int (most:Int)),Ya (.int (p2:Int)),Ya (.ref A.length),Ya (.ref (A.length+1)),Ya (.ref (A.length+2)),y,Ya (.int p.1)]) M= .ok (.int p.2) M:=Zv rfl rfl this;exact(Zv e rfl (by simp)))
     (λp hp M hM=>by have:=Zn6 JC hp hM;have e:(e2 n6 (Za 5) (Za 8)) ([Ya (Zn roll),Ya d1,Ya (.int (most:Int)),Ya (.int (p2:Int)),Ya (.ref A.length),Ya (.ref (A.length+1)),Ya (.ref (A.length+2)),y,Ya (.int p.1)]) M= .ok (.int p.2) M:=Zv rfl rfl this;generalize(e2 n6 (Za 5) (Za 8))=E at e;show aR (Zb (Za 8) (Zb E Zg)) [Ya (Zn roll),Ya d1,Ya (.int (most:Int)),Ya (.int (p2:Int)),Ya (.ref A.length),Ya (.ref (A.length+1)),Ya (.ref (A.length+2)),y,Ya (.int p.1)] M=_;exact i_ (dh rfl (dh e rfl)) rfl)
    have g9:(M2++[MO.lst ((t2.filter λp=>decide (p.2≠0)).map fU)])[M2.length]?=Ya (.lst ((t2.filter λp=>decide (p.2≠0)).map fU)):=dM _ _ _;have so:=Znu (e:=Za 7) (env:=[Ya (Zn roll),Ya d1,Ya (.int (most:Int)),Ya (.int (p2:Int)),Ya (.ref A.length),Ya (.ref (A.length+1)),Ya (.ref (A.length+2)),Ya (.ref M2.length)]) (M:=M2++[MO.lst ((t2.filter λp=>decide (p.2≠0)).map fU)]) (n:=M2.length) JC tl' rfl g9;generalize Ey:M2++[MO.lst ((t2.filter λp=>decide (p.2≠0)).map fU)]=M3 at b2 g9 so;have k0':M3[A.length]?=Ya (.lst (oJ.map D.int)):=by rw[←Ey];exact cP k0 _
    have k2':M3[A.length+2]?=Ya (.lst ((pre++[s]).map cX)):=by rw[←Ey];exact cP k2 _
    have ar:(aR (Zb (Za 3) (Zb (au dF (Zb (Za 4) (Zg))) (Zb (au dF (Zb (au jN (Zb (Za 7) (Zg))) (Zg))) (Zg))))) [Ya (Zn roll),Ya d1,Ya (.int (most:Int)),Ya (.int (p2:Int)),Ya (.ref A.length),Ya (.ref (A.length+1)),Ya (.ref (A.length+2)),Ya (.ref M2.length)] M3= .ok (cX ⟨p2,oJ,e_ t2⟩) (M3++[.lst ((e_ t2).map fU)]):=by
     have t1:au dF (Zb (Za 4) (Zg)) [Ya (Zn roll),Ya d1,Ya (.int (most:Int)),Ya (.int (p2:Int)),Ya (.ref A.length),Ya (.ref (A.length+1)),Ya (.ref (A.length+2)),Ya (.ref M2.length)] M3= .ok (Zk oJ) M3:=fD rfl (uI k0');have t2':au dF (Zb (au jN (Zb (Za 7) (Zg))) (Zg)) [Ya (Zn roll),Ya d1,Ya (.int (most:Int)),Ya (.int (p2:Int)),Ya (.ref A.length),Ya (.ref (A.length+1)),Ya (.ref (A.length+2)),Ya (.ref M2.length)] M3= .ok (gM (e_ t2)) (M3++[.lst ((e_ t2).map fU)]):=by exact fD so (uI (dM _ _ _))
     generalize au dF (Zb (Za 4) (Zg))=E1 at t1;generalize au dF (Zb (au jN (Zb (Za 7) (Zg))) (Zg))=E2 at t2';exact i_ (dh rfl (dh t1 (dh t2' rfl))) rfl
    have bd:=Dq (YD (o:=Za 6) (arg:=(aR (Zb (Za 3) (Zb (au dF (Zb (Za 4) (Zg))) (Zb (au dF (Zb (au jN (Zb (Za 7) (Zg))) (Zg))) (Zg)))))) (env:=[Ya (Zn roll),Ya d1,Ya (.int (most:Int)),Ya (.int (p2:Int)),Ya (.ref A.length),Ya (.ref (A.length+1)),Ya (.ref (A.length+2)),Ya (.ref M2.length)]) (M:=M3) (M2:=M3++[.lst ((e_ t2).map fU)]) (n:=A.length+2) (xs:=(pre++[s]).map cX) (ys:=(pre++[s]).map cX) (d:=cX ⟨p2,oJ,e_ t2⟩) rfl k2' ar (cP k2' _) (by simp;exact lC 2 0xf42405ba0c17d13b2012a1c0c21 T1 hk hm));obtain⟨p',bs',t',G',y',h'⟩:=ih (pre++[s]) ⟨p2,oJ,e_ t2⟩ t2 fuel (G++[MO.lst ((t2.filter λp=>decide (p.2≠0)).map fU),.lst ((e_ t2).map fU)]) (Ya (.ref M2.length)) (by simp;exact Yt (lC 1 0x21a0cc02a1c0c21 T1 hk) (lC 1 0x1a0cc202a1c0c31 T1 hk)) (lB 1 1106520968209 T1 hf) gd JC rfl (by simpa using j');have e1:(M3++[MO.lst ((e_ t2).map fU)]).set (A.length+2) (.lst ((pre++[s]).map cX++[cX ⟨p2,oJ,e_ t2⟩]))=A++ .lst (oJ.map D.int):: .dct (bF t2):: .lst ((pre++[s]++[(⟨p2,oJ,e_ t2⟩:cW)]).map cX)::(G++[MO.lst ((t2.filter λp=>decide (p.2≠0)).map fU),.lst ((e_ t2).map fU)]):=by rw[←Ey,←qD,j5,j5,wD];simp
    refine⟨p',bs',t',G',y',(ZmU cc ((Zh (Zz (i:=3) b1)).trans ((Zh (Zz (i:=7) b2)).trans bd))).trans ?_⟩;rw[e1];refine h'.trans ?_;rw[YZ k st];simp
theorem Znt(roll:bJ)(R:eU roll)(bs:List Int)(most:Nat)(M:Store)(hm:most<=2001)(hb:bs.length=8)(J:Nat->cW->List (Int×Int)->Prop)(hJ:∀k s t,J k s t->t.length<64)(hS:∀k s t r,J k s t->roll[s.place]?=Ya r->r.eF=false->k<most->J (k+1) ⟨r.place s.aF s.place,r.aF s.aF t,e_ (iD r s.aF t)⟩ (iD r s.aF t))(h0:J 0 ⟨0,bs,[]⟩ []):
  ∃n G,M.length<=n/\Es [Zn roll,Zk bs,.int (most:Int)] M= .ok (.ref n) (M++G)/\(M++G)[n]?=Ya (.lst ((cY roll most ⟨0,bs,[]⟩).map cX)):=by
 have pos:0<roll.length:=by obtain⟨q,x,e,_⟩:=R.last;rw[e];simp
 obtain⟨p',bs',t',G',y',lp⟩:=ZmR roll R (Zk bs) most M hm J hJ hS most [] ⟨0,bs,[]⟩ [] 1000000 [] Ye (by simp) (lA 1 0xf42405b017d13b001 T1 hm) ⟨pos,hb,by simp[iB]⟩ (by simp[keysOk]) rfl h0;refine⟨M.length+2,.lst (bs'.map D.int):: .dct (bF t'):: .lst (([]++cY roll most ⟨0,bs,[]⟩).map cX)::G',Y6 _ _,?_,by rw[eZ];rfl⟩;refine(lR (env:=[Ya (Zn roll),Ya (Zk bs),Ya (.int (most:Int)),Ye,Ye,Ye,Ye,Ye]) (d:=.ref (M.length+2)) (M':=M++ .lst (bs'.map D.int):: .dct (bF t'):: .lst (([]++cY roll most ⟨0,bs,[]⟩).map cX)::G') ?_).trans (by simp[gq,below]);refine(Zh (Zz (d:=.int 0) (M':=M) rfl)).trans ((Zh (Zz (d:=.ref M.length) (M':=M++[.lst (bs.map D.int)]) (by exact rfl))).trans ((Zh (Zz (d:=.ref (M.length+1)) (M':=M++[.lst (bs.map D.int),.dct (bF [])]) (by simp[bF]))).trans ((Zh (Zz (d:=.ref (M.length+2)) (M':=M++[.lst (bs.map D.int),.dct (bF []),.lst (([]++[(⟨0,bs,[]⟩:cW)]).map cX)]) (by simp[cX,Zk,gM]))).trans ((Zh (f:=Dl _ _) lp).trans (cV rfl)))))
structure Use where
 num:Int
 time:Int
 word:List Nat
 val:Int
noncomputable abbrev GET:List Nat:=[103,101,116]
noncomputable abbrev SET:List Nat:=[115,101,116]
noncomputable def Zm(u:Use):D:=.tup [.int u.num,.int u.time,.str u.word,.int u.val]
noncomputable def oK:Option Use->D
 |none=>.non|some u=>Zm u
theorem Zpg(n:Nat)(u:Use):below n (Zm u)=true:=rfl
theorem Zig(bs:List Int)(a:Nat)(v:Int)(M:Store)(ha:a<bs.length)(hl:bs.length<=1000):qK [Zk bs,.int a,.int v] M= .ok (Zk (bs.set a v)) M:=by
 have h1:(e2 aM (e2 aM (bj (Za 0) (bB) (bD (Za 1))) (aR (Zb (Za 2) (Zg)))) (bj (Za 0) (bD (e2 aM (Za 1) (eC (.int 1)))) (bB))) [Ya (Zk bs),Ya (.int a),Ya (.int v)] M= .ok (Zk (bs.set a v)) M:=by
  have c1:cutD (bs.map D.int) Ye (Ya (a:Int))=(bs.take a).map D.int:=by rw[xF,Gd]
  have c2:cutD (bs.map D.int) (Ya ((a:Int)+1)) Ye=(bs.drop (a+1)).map D.int:=by rw[show((a:Int)+1)=((a+1:Nat):Int)by exact rfl,Jz,Uv]
  have s1:bj (Za 0) (bB) (bD (Za 1)) [Ya (Zk bs),Ya (.int a),Ya (.int v)] M= .ok (.tup ((bs.take a).map D.int)) M:=by simp only[bj,Za,bB,bD,Zk,Y8,Y3,R3.bind,lJ,lK,lM,lO,c1]
  have s2:bj (Za 0) (bD (e2 aM (Za 1) (eC (.int 1)))) (bB) [Ya (Zk bs),Ya (.int a),Ya (.int v)] M= .ok (.tup ((bs.drop (a+1)).map D.int)) M:=by simp only[bj,e2,eC,qx,qy,pg,qz,Za,bB,bD,Zk,Y8,Y3,R3.bind,lJ,lK,lM,lO,c2]
  have s3:aR (Zb (Za 2) (Zg)) [Ya (Zk bs),Ya (.int a),Ya (.int v)] M= .ok (.tup [.int v]) M:=by simp
  have a1:aM (.tup ((bs.take a).map D.int)) (.tup [.int v]) M= .ok (.tup ((bs.take a).map D.int++[.int v])) M:=by simp only[qx,qy,pg,qz];rw[if_pos (by simp;exact lB 2 0xf423f5b1001013e83b001 T1 hl (tR _ _))]
  refine(Zv (Zv s1 s3 a1) s2 ?_);simp only[qx,qy,pg,qz];rw[if_pos (by simp;exact lD 3 0xf42405b3a1cc00a2c3c2121013e83b001 T1 hl (q_ _ _) (Yc (lB 1 6991908881 T1 ha))),Zk,T7,if_pos ha];simp
 exact Rt.pure (G:=[]) (env:=[Ya (Zk bs),Ya (.int a),Ya (.int v)]) (by rw[Yr];exact cV h1) (Ew _ _)
theorem ZjU(cs:List (Int×Int))(n:Int)(M:Store)(h:keysOk cs)(hl:cs.length<=5000):Ei [gM cs,.int n] M= .ok (.int (dG cs n)) M:=by
 have h1:(g8 yP wz (au yR (Zb (Za 0) (Zg))) (Zb (Za 1) (Zb (eC (.int 0)) (Zg)))) [Ya (gM cs),Ya (.int n)] M= .ok (.int (dG cs n)) (M++[.dct (dictOf (bF cs))]):=by
  have hz:(bF cs).length<=100000:=by simp[bF];exact lA 1 0x186a05b0013884b001 T1 hl
  have b1:au yR (Zb (Za 0) (Zg)) [Ya (gM cs),Ya (.int n)] M= .ok (.ref M.length) (M++[.dct (dictOf (bF cs))]):=by refine fD (a:=gM cs) (M1:=M) rfl ?_;simp only[gM,HF,O8,Zm9];rw[if_pos hz];rfl
  simp only[g8,b1,R3.bind,HD,Zb,Za,eC,Zg,Y8,Y3];simp only[dM,XF,XH,KD,if_true,O6,O7,Hz,HB];rw[Zph h]
 exact Rt.pure (env:=[Ya (gM cs),Ya (.int n)]) (cV h1) rfl
theorem ZjT(r:Row)(bs:List Int)(p many:Nat)(M:Store)(hb:bs.length=8)(hr:r.ok many):zE [Zq r,.int p,Zk bs] M= .ok (.int (r.place bs p)) M:=by
 refine Rt.pure (G:=[]) (env:=[Ya (Zq r),Ya (.int p),Ya (Zk bs)]) ?_ rfl;rw[Yr];cases r with
 | when a k=>
  obtain⟨x,hx,gx⟩:=fL hb hr.1;have g:Ze (Zk bs) (.int (a:Int)) M= .ok (.int x) M:=by simp only[Zk,nU,nW,nY,nZ,gx]
  have cc:(eN (e2 aC (e2 Ze (Za 0) (eC (.int 0))) (eC (.str [119,104,101,110]))) (e2 lG (e2 Ze (Za 2) (e2 Ze (Za 0) (eC (.int 1)))) (eC (.int 0)))) [Ya (Zq (.when a k)),Ya (.int p),Ya (Zk bs)] M= .ok (.bl (decide (0<x))) M:=(ou (M1:=M) rfl).trans (Zv (Zv (b:=.int (a:Int)) rfl rfl g) rfl rfl);have s0:(e2 aC (e2 Ze (Za 0) (eC (.int 0))) (eC (.str [106,117,109,112]))) [Ya (Zq (.when a k)),Ya (.int p),Ya (Zk bs)] M= .ok (.bl false) M:=rfl;simp only[Row.place,hx];by_cases c:0<x
  .rw[decide_eq_true c]at cc;rw[if_pos c];exact(Zh (Zr s0)).trans (cB ((bG cc).trans rfl))
  .rw[decide_eq_false c]at cc;rw[if_neg c];exact(Zh (Zr s0)).trans ((Zh (Zr cc)).trans rfl)
 |_=>rfl
theorem Znd(x y:Int)(M:Store):pK [.str [97,100,100],.int x,.int y] M= .ok (.int (x+y)) M:=by simp[pK,Eh,Zu,ao,aq,aD,aK,dJ,bR,gq,below,dN,fK]
theorem Zne(x y:Int)(M:Store):pK [.str [115,117,98],.int x,.int y] M= .ok (.int (x-y)) M:=by simp[pK,Eh,Zu,ao,aq,aD,aK,dJ,bR,gq,below,dN,fK]
theorem Zmy(x y:Int)(M:Store):pK [.str [109,111,114,101],.int x,.int y] M= .ok (.int (if y<x then 1 else 0)) M:=by by_cases c:y<x<;>simp[pK,Eh,Zu,ao,aq,aD,aK,dJ,bR,gq,below,dN,fK,c]
theorem ZjI(r:Row)(bs:List Int)(cs:List (Int×Int))(many:Nat)(M:Store)(hb:bs.length=8)(hr:r.ok many)(hk:keysOk cs)(hl:cs.length<=5000):Jl [Zq r,Zk bs,gM cs] M= .ok (Zk (r.aF bs cs)) M:=by
 have wb:∀(a:Nat) (v:Int),a<8->qK [Zk bs,.int a,.int v] M= .ok (Zk (bs.set a v)) M:=λa v ha=>Zig bs a v M (by rw[hb];exact ha) (by rw[hb];decide);have cv:∀(n:Int),Ei [gM cs,.int n] M= .ok (.int (dG cs n)) M:=λn=>ZjU cs n M hk hl;have gt:∀{a:Nat} {x:Int},cO (bs.map D.int) (a:Int)=Ya (.int x)->Ze (Zk bs) (.int (a:Int)) M= .ok (.int x) M:=λ{a x} g=>by simp only[Zk,nU,nW,nY,nZ,g]
 have tp:∀env,(aR (Zb (eC (.str [97,100,100])) (Zb (eC (.str [115,117,98])) (Zb (eC (.str [109,111,114,101])) (Zg))))) env M= .ok (.tup [.str [97,100,100],.str [115,117,98],.str [109,111,114,101]]) M:=λenv=>by simp
 refine Rt.pure (G:=[]) (env:=[Ya (Zq r),Ya (Zk bs),Ya (gM cs),Ye]) ?_ (Ew _ _);rw[Yr];have pre:∀{w:List Nat} {o:O3} {k:S3},Ze (Zq r) (.int 0) M= .ok (.str w) M->k [Ya (Zq r),Ya (Zk bs),Ya (gM cs),Ya (.str w)] M=o->Zu (ao 3 (e2 Ze (Za 0) (eC (.int 0)))) k [Ya (Zq r),Ya (Zk bs),Ya (gM cs),Ye] M=o:=λ{w o k} h1 h=>(Zh (Zz (Zv rfl rfl h1))).trans h;have sk:∀{w v:List Nat} {f k:S3} {o:O3},decide (w=v)=false->k [Ya (Zq r),Ya (Zk bs),Ya (gM cs),Ya (.str w)] M=o->Zu (aD (e2 aC (Za 3) (eC (.str v))) f aK) k [Ya (Zq r),Ya (Zk bs),Ya (gM cs),Ya (.str w)] M=o:=λ{w v f k o} h1 h=>(Zh (Zr (M':=M) (Zv rfl rfl (by simp only[aC,nR,ph,pq,pA,nT,h1])))).trans h;have wk:∀{w:List Nat} {a b c:Nat} {x y z:Int},Zq r= .tup [.str w,.int a,.int b,.int c]->pK [.str w,.int x,.int y] M= .ok (.int z) M->a<8->cO (bs.map D.int) (b:Int)=Ya (.int x)->cO (bs.map D.int) (c:Int)=Ya (.int y)->qC (.str w) (.tup [.str [97,100,100],.str [115,117,98],.str [109,111,114,101]]) M= .ok (.bl true) M ->
   (Zu (aD (e2 qC (Za 3) (aR (Zb (eC (.str [97,100,100])) (Zb (eC (.str [115,117,98])) (Zb (eC (.str [109,111,114,101])) (Zg)))))) (aq (aH qK (Zb (Za 1) (Zb (e2 Ze (Za 0) (eC (.int 1))) (Zb (aH pK (Zb (Za 3) (Zb (e2 Ze (Za 1) (e2 Ze (Za 0) (eC (.int 2)))) (Zb (e2 Ze (Za 1) (e2 Ze (Za 0) (eC (.int 3)))) (Zg))))) (Zg)))))) (aK)) (aq (Za 1))) [Ya (Zq r),Ya (Zk bs),Ya (gM cs),Ya (.str w)] M= .rt (Zk (bs.set a z)) M:=λ{w a b c x y z} he hw ha gx gy hin=>by
  rw[he];exact cB ((bG (Zv rfl (tp _) hin)).trans (cV (jC rfl (b:=.int (a:Int)) (M2:=M) rfl (jC rfl (Zv rfl (b:=.int (b:Int)) (M2:=M) rfl (gt gx)) (Zv rfl (b:=.int (c:Int)) (M2:=M) rfl (gt gy)) hw) (wb a z ha))))
 have no:∀{w:List Nat},Ze (Zq r) (.int 0) M= .ok (.str w) M->decide (w=[112,117,116])=false->decide (w=[103,101,116])=false->qC (.str w) (.tup [.str [97,100,100],.str [115,117,98],.str [109,111,114,101]]) M= .ok (.bl false) M->QJ [Ya (Zq r),Ya (Zk bs),Ya (gM cs),Ye] M= .rt (Zk bs) M:=λ{w} h1 h2 h3 h4=>pre h1 (sk h2 (sk h3 ((Zh (Zr (Zv rfl (tp _) h4))).trans rfl)));cases r with
 |put a n=>exact pre rfl (cB ((bG (M':=M) rfl).trans (cV (jC rfl rfl rfl (wb a n hr)))))|get a b=>obtain⟨x,hx,gx⟩:=fL hb hr.2;simp only[Row.aF,hx];exact pre rfl (sk rfl (cB ((bG (M':=M) rfl).trans (cV (jC rfl (b:=.int (a:Int)) (M2:=M) rfl (iz rfl (Zv rfl (b:=.int (b:Int)) (M2:=M) rfl (gt gx)) (cv x)) (wb a _ hr.1))))))
 |add a b c=>obtain⟨x,hx,gx⟩:=fL hb hr.2.1;obtain⟨y,hy,gy⟩:=fL hb hr.2.2;simp only[Row.aF,hx,hy];exact pre rfl (sk rfl (sk rfl (wk rfl (Znd x y M) hr.1 gx gy rfl)))|sub a b c=>obtain⟨x,hx,gx⟩:=fL hb hr.2.1;obtain⟨y,hy,gy⟩:=fL hb hr.2.2;simp only[Row.aF,hx,hy];exact pre rfl (sk rfl (sk rfl (wk rfl (Zne x y M) hr.1 gx gy rfl)))|more a b c=>obtain⟨x,hx,gx⟩:=fL hb hr.2.1;obtain⟨y,hy,gy⟩:=fL hb hr.2.2;simp only[Row.aF,hx,hy];exact pre rfl (sk rfl (sk rfl (wk rfl (Zmy x y M) hr.1 gx gy rfl)))|_=>exact no rfl rfl rfl rfl
noncomputable def fV(p:Int)(bs:List Int):D:=.tup [.int p,Zk bs]
theorem Zhn(a b:Int)(M:Store):sW [.int a,.int b] M= .ok (.bl (decide (0<=a)&&decide (a<b))) M:=by by_cases h:0<=a<;>simp[sW,QK,Zu,ao,aq,aD,aK,dJ,bR,gq,below,dN,fK,h]
theorem Zj1(roll:bJ)(p:Int)(M:Store):qM [Zn roll,.int p] M= .ok (if 0<=p/\p<roll.length then(match roll[p.toNat]? with|some r=>Zq r|none=>.non)else .non) M:=by
 have w:=Zhn p roll.length M;have e1:aH sW (Zb (Za 1) (Zb (au bw (Zb (Za 0) (Zg))) (Zg))) [Ya (Zn roll),Ya (.int p)] M= .ok (.bl (decide (0<=p)&&decide (p<roll.length))) M:=iz rfl (by simp[Zn]) w;by_cases h:0<=p/\p<roll.length
 .rw[if_pos h];obtain⟨k,rfl⟩:=yt h.1;have hk:k<roll.length:=p8.1 h.2;have e2:(e2 Ze (Za 0) (Za 1)) [Ya (Zn roll),Ya (.int (k:Int))] M= .ok (Zq roll[k]) M:=by simp[Zn,hk]
  have hb:below M.length (Zq roll[k])=true:=by cases roll[k]<;>rfl
  refine(Rt.pure (G:=[]) (env:=[Ya (Zn roll),Ya (.int (k:Int))]) (d:=Zq roll[k]) ?_ hb).trans (by simp[hk]);rw[Yr];refine cV ((YK (M1:=M) ?_).trans e2);rw[e1];simp[hk]
 .rw[if_neg h];refine Rt.pure (G:=[]) (env:=[Ya (Zn roll),Ya (.int p)]) ?_ rfl;rw[Yr];refine cV ((YL (M1:=M) ?_).trans rfl);rw[e1];have:(decide (0<=p)&&decide (p<roll.length))=false:=by
   rw[←Mm];exact decide_eq_false h
  rw[this]
theorem Zku:∀a b:List Int,fQ (a.map D.int) (b.map D.int)=decide (a=b)
 |[],[]=>by exact rfl|[],_::_=>by exact rfl|_::_,[]=>by exact rfl|x::a,y::b=>by simp only[Yy,yJ,rZ,wg,wj,uz,uD,qw,Zku a b,Cg,Mm];rfl
theorem Zmc(a b:List Int):eG (Zk a) (Zk b)=decide (a=b):=by simp only[Zk,wg,wj,uz,uD,qw];exact Zku a b
noncomputable def qP(r:Row)(bs bs':List Int):List Int:=match r with
 | .get a _=>bs.set a (bs'.getD a 0)|r=>r.aF bs []
noncomputable def qQ(roll:bJ)(p:Int)(bs:List Int)(p':Int)(bs':List Int):Bool:=if 0<=p/\p<roll.length then(match roll[p.toNat]? with
 |some r=>if r.eF then false else decide (p'=(r.place bs p.toNat:Nat))&&decide (bs'=qP r bs bs')|none=>false)else false
theorem Zir(r:Row)(bs bs':List Int)(many:Nat)(M:Store)(hr:r.ok many)(hb:bs.length=8)(hb':bs'.length=8):wY [Zq r,Zk bs,Zk bs'] M= .ok (Zk (qP r bs bs')) M:=by
 have other:(∀a b,r≠ .get a b)->wY [Zq r,Zk bs,Zk bs'] M= .ok (Zk (r.aF bs [])) M:=λhg=>by have nb:=ZjI r bs [] many M hb hr (by simp[keysOk]) (by simp);refine Rt.pure (G:=[]) (env:=[Ya (Zq r),Ya (Zk bs),Ya (Zk bs')]) ?_ (Ew _ _);rw[Yr];refine(Zh (Zr (M':=M) ?_)).trans (cV (jC (c:=gM []) rfl rfl (by simp[gM]) nb));cases r<;>first|exact rfl|simp[Zq]<;>exact absurd rfl (hg _ _)
 cases r with
 |get a b=>obtain⟨x,hx,gx⟩:=fL hb' hr.1;have wb:=Zig bs a x M (by rw[hb];exact hr.1) (lA 1 0x3e83b0081b021 T1 hb);refine Rt.pure (G:=[]) (env:=[Ya (Zq (.get a b)),Ya (Zk bs),Ya (Zk bs')]) ?_ (Ew _ _);rw[Yr];simp only[qP,hx];refine cB ((bG (M':=M) (by exact rfl)).trans (cV (jC (a:=Zk bs) (b:=.int (a:Int)) (c:=.int x) (M1:=M) (M2:=M) (M3:=M) rfl (by exact rfl) ?_ wb)));simp[Zq,Zk,-sJ,gx]|_=>exact other (λa b h=>by cases h)
theorem Zli(roll:bJ)(R:eU roll)(p:Int)(bs:List Int)(p':Int)(bs':List Int)(M:Store)(hb:bs.length=8)(hb':bs'.length=8):
  zF [Zn roll,fV p bs,fV p' bs'] M= .ok (.bl (qQ roll p bs p' bs')) M:=by
 have ra:=Zj1 roll p M;refine Rt.pure (G:=[]) (env:=[Ya (Zn roll),Ya (fV p bs),Ya (fV p' bs'),Ye,Ye,Ye]) ?_ rfl;rw[Yr];refine(Zh (Zz (d:=.int p) (M':=M) (by exact rfl))).trans ((Zh (Zz (d:=Zk bs) (M':=M) (by exact rfl))).trans ((Zh (Zz (iz rfl rfl ra))).trans ?_));unfold qQ;by_cases h:0<=p/\p<roll.length
 .rw [if_pos h,if_pos h];obtain⟨k,rfl⟩:=yt h.1;have hk:k<roll.length:=p8.1 h.2;have hr:roll[k]?=Ya roll[k]:=by simp[hk]
  have ro:=R.rows _ (Y1 hk);simp only[Mr,o4,hr];generalize roll[k]=r at hr ro;by_cases hh:r.eF=true
  .rw[if_pos hh];have:r= .halt:=by cases r<;>simp at hh ⊢
   subst this;exact cB ((bG (M':=M) (by exact rfl)).trans rfl)
  .rw [if_neg hh];have np:=ZjT r bs k roll.length M hb ro;have bb:=Zir r bs bs' roll.length M ro hb hb';have hp1:b7 DEEP (.int p')=true:=uG _ _;have hp2:b7 DEEP (Zk bs')=true:=Pq _ _;have hp3:b7 DEEP (Zk (qP r bs bs'))=true:=Pq _ _;have hp4:b7 DEEP (.int ((r.place bs k:Nat):Int))=true:=uG _ _;refine(Zh (Zr (M':=M) ?_)).trans (cV ?_)
   .cases r<;>first|exact rfl|simp[Zq]at hh ⊢
   .refine Zv (a:=fV p' bs') (b:=fV (r.place bs k:Nat) (qP r bs bs')) (M1:=M) (M2:=M) rfl ?_ ?_
    .have x1:aH zE (Zb (Za 5) (Zb (Za 3) (Zb (Za 4) (Zg)))) [Ya (Zn roll),Ya (fV (k:Int) bs),Ya (fV p' bs'),Ya (.int (k:Int)),Ya (Zk bs),Ya (Zq r)] M= .ok (.int ((r.place bs k:Nat):Int)) M:=jC rfl rfl rfl np;have x2:aH wY (Zb (Za 5) (Zb (Za 4) (Zb (e2 Ze (Za 2) (eC (.int 1))) (Zg)))) [Ya (Zn roll),Ya (fV (k:Int) bs),Ya (fV p' bs'),Ya (.int (k:Int)),Ya (Zk bs),Ya (Zq r)] M= .ok (Zk (qP r bs bs')) M:=jC rfl rfl (by exact rfl) bb;generalize aH zE (Zb (Za 5) (Zb (Za 3) (Zb (Za 4) (Zg))))=E1 at x1;generalize aH wY (Zb (Za 5) (Zb (Za 4) (Zb (e2 Ze (Za 2) (eC (.int 1))) (Zg))))=E2 at x2;simp only[aR,Zb,Zg,R3.bind,x1,x2];simp[fV]
    .have hd:fQ [.int p',Zk bs'] [.int ((r.place bs k:Nat):Int),Zk (qP r bs bs')]=(decide (p'=((r.place bs k:Nat):Int))&&decide (bs'=qP r bs bs')):=by
      simp only[yJ,rZ,wg,wj,uz,uD,qw,Zmc,BZ];rfl
     simp only[aC,nR,ph,pq,pA,nT,fV,t7,Bu,hp1,hp2,hp3,hp4,B_,if_true,hd]
 .rw[if_neg h,if_neg h];exact cB ((bG (M':=M) (by exact rfl)).trans rfl)
noncomputable def qR(a:Option Use)(r:Use):Bool:=match a with
 |none=>decide (r.word≠GET)|| decide (r.val=0)|some a=>if r.num<a.num\/(r.num=a.num/\r.time<=a.time)then false else if r.word≠GET then true else if a.num=r.num then decide (r.val=a.val)else decide (r.val=0)
theorem Zl9(a:Option Use)(r:Use)(M:Store)(c:Bool)(v:Int)(h1:(eN (e2 lH (Za 0) (eC .non)) (e2 aC (e2 Ze (Za 0) (eC (.int 0))) (e2 Ze (Za 1) (eC (.int 0))))) [Ya (oK a),Ya (Zm r),Ye] M= .ok (.bl c) M)(h2:(nP (Za 2) (e2 Ze (Za 0) (eC (.int 3))) (eC (.int 0))) [Ya (oK a),Ya (Zm r),Ya (.bl c)] M= .ok (.int v) M):
  (Zu (aD (e2 dw (e2 Ze (Za 1) (eC (.int 2))) (eC (.str [103,101,116]))) (aq (eC (.bl true))) (aK)) (Zu (ao 2 (eN (e2 lH (Za 0) (eC .non)) (e2 aC (e2 Ze (Za 0) (eC (.int 0))) (e2 Ze (Za 1) (eC (.int 0)))))) (aq (e2 aC (e2 Ze (Za 1) (eC (.int 3))) (nP (Za 2) (e2 Ze (Za 0) (eC (.int 3))) (eC (.int 0))))))) [Ya (oK a),Ya (Zm r),Ye] M= .rt (.bl (decide (r.word≠GET)|| decide (r.val=v))) M:=by
 have c2:(e2 dw (e2 Ze (Za 1) (eC (.int 2))) (eC (.str [103,101,116]))) [Ya (oK a),Ya (Zm r),Ye] M= .ok (.bl (!decide (r.word=GET))) M:=Zv (a:=.str r.word) rfl rfl rfl;by_cases h:r.word=GET
 .rw[decide_eq_true h]at c2;refine(Zh (Zr c2)).trans ((Zh (Zz h1)).trans (cV (Zv (a:=.int r.val) rfl h2 ?_)));rw[decide_eq_false (λz=>z h)];rfl
 .rw[decide_eq_false h]at c2;refine cB ((bG c2).trans ?_);rw[decide_eq_true h];rfl
theorem ZmE(a:Option Use)(r:Use)(M:Store):wZ [oK a,Zm r] M= .ok (.bl (qR a r)) M:=by
 refine Rt.pure (G:=[]) (env:=[Ya (oK a),Ya (Zm r),Ye]) ?_ rfl;rw[Yr];cases a with
 |none=>exact(Zh (Zr (M':=M) rfl)).trans (Zl9 Ye r M false 0 rfl rfl)|some a=>
  have c1:(eN (e2 lH (Za 0) (eC .non)) (e2 za (bj (Za 1) (bB) (bD (eC (.int 2)))) (bj (Za 0) (bB) (bD (eC (.int 2)))))) [Ya (oK (Ya a)),Ya (Zm r),Ye] M= .ok (.bl (decide (r.num<a.num)|| (decide (r.num=a.num)&&decide (r.time<=a.time)))) M:=rfl;have c3:(eN (e2 lH (Za 0) (eC .non)) (e2 aC (e2 Ze (Za 0) (eC (.int 0))) (e2 Ze (Za 1) (eC (.int 0))))) [Ya (oK (Ya a)),Ya (Zm r),Ye] M= .ok (.bl (decide (a.num=r.num))) M:=rfl;simp only[qR];by_cases h:r.num<a.num\/(r.num=a.num/\r.time<=a.time)
  .rw[show(decide (r.num<a.num)|| (decide (r.num=a.num)&&decide (r.time<=a.time)))=true by simpa using h]at c1;rw[if_pos h];exact cB (bG c1)
  .rw[show(decide (r.num<a.num)|| (decide (r.num=a.num)&&decide (r.time<=a.time)))=false by simpa using h]at c1;rw[if_neg h];refine(Zh (Zr c1)).trans ((Zl9 (Ya a) r M (decide (a.num=r.num)) (if a.num=r.num then a.val else 0) c3 ?_).trans ?_)
   .by_cases z:a.num=r.num
    .rw[decide_eq_true z,if_pos z];rfl
    .rw[decide_eq_false z,if_neg z];rfl
   .by_cases w:r.word≠GET
    .rw[if_pos w,decide_eq_true w];rfl
    .rw[if_neg w,decide_eq_false w];split <;>rfl
noncomputable def gD(roll:bJ)(p:Int):Option Row:=if 0<=p/\p<roll.length then roll[p.toNat]? else Ye
noncomputable def Ay:Option Row->D
 |none=>.non|some r=>Zq r
theorem ZjB(roll:bJ)(p:Int)(M:Store):qM [Zn roll,.int p] M= .ok (Ay (gD roll p)) M:=by
 rw[Zj1];unfold gD;by_cases h:0<=p/\p<roll.length
 .rw[if_pos h,if_pos h];cases roll[p.toNat]?<;>rfl
 .rw[if_neg h,if_neg h];rfl
theorem ZrS(R:eU roll){p:Int}(h:gD roll p=Ya r):r.ok roll.length:=by
 unfold gD at h;split at h
 .exact R.rows _ (jo h)
 .cases h
noncomputable abbrev bM:=Int×List Int
noncomputable def aU(s:bM):D:=fV s.1 s.2
noncomputable def cu(ts:List bM):D:=.tup (ts.map aU)
noncomputable def tE(o:Option Row)(bs bs':List Int)(u:Use):Bool:=match o with
 |some (.get a b)=>decide (u.word=GET)&&decide (u.num=bs.getD b 0)&&decide (u.val=bs'.getD a 0)|some (.set a b)=>decide (u.word=SET)&&decide (u.num=bs.getD a 0)&&decide (u.val=bs.getD b 0)|_=>false
noncomputable def jl(roll:bJ)(ts:List bM)(u:Use):Bool:=if 0<=u.time/\u.time+1<ts.length then(match ts[u.time.toNat]?,ts[u.time.toNat+1]? with
 |some s,Ya s'=>tE (gD roll s.1) s.2 s'.2 u|_,_=>false)else false
noncomputable def qT:Row->Bool
 | .get ..=>true|.set ..=>true|_=>false
theorem Zo8(r:Row):(∃a b,r= .get a b)\/(∃a b,r= .set a b)\/(qT r=false/\∀bs bs' u,tE (Ya r) bs bs' u=false):=by
 cases r with
 |get a b=>exact .inl ⟨a,b,rfl⟩|set a b=>exact .inr (.inl ⟨a,b,rfl⟩)|_=>exact .inr (.inr ⟨rfl,λ_ _ _=>rfl⟩)
theorem JD(r:Row)(M:Store):pM [Zq r] M= .ok (.bl (qT r)) M:=by
 have e:qT r=([103,101,116]==jc r|| [115,101,116]==jc r):=by cases r<;>rfl
 refine(lR (env:=[Ya (Zq r)]) (M':=M) (d:=.bl (qT r)) (cV (Zv (Zv rfl rfl (uY r M)) (i_ rfl rfl) ?_))).trans (uW rfl);rw[e];simp[gZ,wg,wj,uz,uD,qw]
theorem Zis(a b:Nat)(bs:List Int)(M:Store)(hb:bs.length=8)(lb:b<8):qL [Zq (.get a b),Zk bs] M= .ok (.int (bs.getD b 0)) M:=by obtain⟨x,hx,gx⟩:=fL hb lb;rw[hx];simp[qL,Jm,Zu,ao,aq,aD,aK,dJ,bR,gq,below,dN,fK,Zq,Zk,-sJ,gx]
theorem Zim(a b:Nat)(bs:List Int)(M:Store)(hb:bs.length=8)(la:a<8):qL [Zq (.set a b),Zk bs] M= .ok (.int (bs.getD a 0)) M:=by obtain⟨x,hx,gx⟩:=fL hb la;rw[hx];simp[qL,Jm,Zu,ao,aq,aD,aK,dJ,bR,gq,below,dN,fK,Zq,Zk,-sJ,gx]
noncomputable abbrev oM(roll:bJ)(ts:List bM)(n:Int)(k:Nat)(w:List Nat)(v:Int)(bs:List Int)(o:Option Row):bI:=[Ya (Zn roll),Ya (cu ts),Ya (Zm ⟨n,(k:Int),w,v⟩),Ya (.int (k:Int)),Ya (Zk bs),Ya (Ay o)]
theorem ZiW(roll:bJ)(R:eU roll)(ts:List bM)(h8:∀s∈ts,s.2.length=8)(u:Use)(M:Store):
  w5 [Zn roll,cu ts,Zm u] M= .ok (.bl (jl roll ts u)) M:=by
 obtain⟨n,t,w,v⟩:=u;have iw:=Zhn t ((ts.length:Int)-1) M;refine Rt.pure (G:=[]) (env:=[Ya (Zn roll),Ya (cu ts),Ya (Zm ⟨n,t,w,v⟩),Ye,Ye,Ye]) ?_ rfl;rw[Yr];have c0:aH sW (Zb (Za 3) (Zb (e2 eO (au bw (Zb (Za 1) (Zg))) (eC (.int 1))) (Zg))) [Ya (Zn roll),Ya (cu ts),Ya (Zm ⟨n,t,w,v⟩),Ya (.int t),Ye,Ye] M= .ok (.bl (decide (0<=t)&&decide (t<(ts.length:Int)-1))) M:=iz rfl (by simp[cu]) iw;refine(Zh (Zz (d:=.int t) (M':=M) (by exact rfl))).trans ?_;unfold jl;by_cases h:0<=t/\t+1<ts.length
 .rw [if_pos h];obtain⟨k,rfl⟩:=yt h.1;have hk:k+1<ts.length:=by exact iN [_,_] [] 1 458226179017873 T1 h.2
  have gs:ts[k]?=Ya ts[k]:=by simp[show k<ts.length by exact lB 1 4313451537 T1 hk]
  have gs':ts[k+1]?=Ya ts[k+1]:=by simp[hk]
  have l8:=h8 _ (Y1 (show k<ts.length by exact lB 1 4313451537 T1 hk));have l8':=h8 _ (Y1 hk);simp only[Mr,o4,gs,gs'];generalize ts[k]=s at gs l8;generalize ts[k+1]=s' at gs' l8';obtain⟨p,bs⟩:=s;obtain⟨p',bs'⟩:=s';have n0:(decide (0<=(k:Int))&&decide ((k:Int)<(ts.length:Int)-1))=true:=by simp;exact iN [_,_] [] 1 0xa18f0891a0c11 T1 hk
  have gi:(cu ts)= .tup (ts.map aU):=rfl;refine(Zh (Zr (M':=M) (uH c0 (by simp[n0];exact iN [_,_] [] 1 0xa18f0891a0c11 T1 hk)))).trans ?_;refine(Zh (Zz (d:=Zk bs) (M':=M) (by simp[cu,gs,aU,fV]))).trans ?_;have ra:=ZjB roll p M;refine(Zh (Zz (d:=Ay (gD roll p)) (M':=M) (iz (b:=.int p) (M1:=M) (M2:=M) rfl (by simp[cu,gs,aU,fV]) ra))).trans ?_;show Zu _ _ (oM roll ts n k w v bs (gD roll p)) M=_;simp only[tE];have no:∀r,gD roll p=Ya r->qT r=false->Zu (aD (iM (e2 su (Za 5) (eC .non)) (iM (e1 jj (aH pM (Zb (Za 5) (Zg)))) (e2 dw (e2 Ze (Za 2) (eC (.int 2))) (e2 Ze (Za 5) (eC (.int 0)))))) (aq (eC (.bl false))) (aK)) (Zu (aD (e2 dw (e2 Ze (Za 2) (eC (.int 0))) (aH qL (Zb (Za 5) (Zb (Za 4) (Zg))))) (aq (eC (.bl false))) (aK)) (Zu (aD (e2 aC (e2 Ze (Za 5) (eC (.int 0))) (eC (.str [103,101,116]))) (aq (e2 aC (e2 Ze (Za 2) (eC (.int 3))) (e2 Ze (e2 Ze (e2 Ze (Za 1) (e2 aM (Za 3) (eC (.int 1)))) (eC (.int 1))) (e2 Ze (Za 5) (eC (.int 1)))))) (aK)) (aq (e2 aC (e2 Ze (Za 2) (eC (.int 3))) (e2 Ze (Za 4) (e2 Ze (Za 5) (eC (.int 2))))))))
    (oM roll ts n k w v bs (Ya r)) M= .rt (.bl false) M:=λr hr hu=>by
   have iu:=JD r M;rw[hu]at iu;refine cB ((bG (M':=M) ?_).trans rfl);rw[uJ (M1:=M) (by cases r<;>first|exact rfl|simp[oM,Ay,Zq]),YJ (M1:=M) (uH (wF rfl iu) rfl)]
  cases hr:gD roll p with
  |none=>exact cB ((bG (M':=M) (by exact rfl)).trans rfl)|some r=>
   have ro:=ZrS R hr;rcases Zo8 r with⟨a,b,rfl⟩|⟨a,b,rfl⟩|⟨n1,n2⟩
   ·
    have iu:=JD (.get a b) M;have cn:=Zis a b bs M l8 ro.2;obtain⟨y,hy,gy⟩:=fL l8' ro.1;have x1:(e2 dw (e2 Ze (Za 2) (eC (.int 2))) (e2 Ze (Za 5) (eC (.int 0)))) (oM roll ts n k w v bs (Ya (.get a b))) M= .ok (.bl (!decide (w=GET))) M:=by exact rfl
    have e0:(iM (e2 su (Za 5) (eC .non)) (iM (e1 jj (aH pM (Zb (Za 5) (Zg)))) (e2 dw (e2 Ze (Za 2) (eC (.int 2))) (e2 Ze (Za 5) (eC (.int 0)))))) (oM roll ts n k w v bs (Ya (.get a b))) M= .ok (.bl (!decide (w=GET))) M:=by rw[uJ (M1:=M) (by exact rfl),uJ (M1:=M) (uH (wF rfl iu) rfl),x1]
    by_cases hw:w=GET
    .rw [decide_eq_true hw]at e0;refine(Zh (Zr e0)).trans ?_;have e2':(e2 dw (e2 Ze (Za 2) (eC (.int 0))) (aH qL (Zb (Za 5) (Zb (Za 4) (Zg))))) (oM roll ts n k w v bs (Ya (.get a b))) M= .ok (.bl (!decide (n=bs.getD b 0))) M:=Zv (a:=.int n) (M1:=M) (by exact rfl) (iz rfl rfl cn) (by exact rfl);by_cases hn:n=bs.getD b 0
     .rw[decide_eq_true hn]at e2';refine(Zh (Zr e2')).trans (cB ((bG (M':=M) (by exact rfl)).trans (cV ?_)));have e3':(e2 Ze (e2 Ze (e2 Ze (Za 1) (e2 aM (Za 3) (eC (.int 1)))) (eC (.int 1))) (e2 Ze (Za 5) (eC (.int 1)))) (oM roll ts n k w v bs (Ya (.get a b))) M= .ok (.int y) M:=by
       have gk:cO (ts.map aU) ((k:Int)+1)=Ya (aU (p',bs')):=by rw[show((k:Int)+1)=((k+1:Nat):Int)by exact rfl,mJ,Yx,gs'];rfl
       simp only[oM,e2,Za,eC,cu,Ay,Zq,Y3,Y8,R3.bind,qx,qy,pg,qz,nU,nW,nY,nZ,gk,aU,fV,Zk,Zqw,gy]
      refine Zv (a:=.int v) (M1:=M) (by exact rfl) e3' ?_;simp only[aC,nR,ph,pq,pA,nT,hy,decide_eq_true hw,decide_eq_true hn,yr]
     .rw[decide_eq_false hn]at e2';refine(cB ((bG e2').trans ?_));simp only[decide_eq_true hw,decide_eq_false hn,yr,Mp];rfl
    .rw[decide_eq_false hw]at e0;refine(cB ((bG e0).trans ?_));simp[aq,hw]
   ·
    have iu:=JD (.set a b) M;have cn:=Zim a b bs M l8 ro.1;obtain⟨y,hy,gy⟩:=fL l8 ro.2;have x1:(e2 dw (e2 Ze (Za 2) (eC (.int 2))) (e2 Ze (Za 5) (eC (.int 0)))) (oM roll ts n k w v bs (Ya (.set a b))) M= .ok (.bl (!decide (w=SET))) M:=by exact rfl
    have e0:(iM (e2 su (Za 5) (eC .non)) (iM (e1 jj (aH pM (Zb (Za 5) (Zg)))) (e2 dw (e2 Ze (Za 2) (eC (.int 2))) (e2 Ze (Za 5) (eC (.int 0)))))) (oM roll ts n k w v bs (Ya (.set a b))) M= .ok (.bl (!decide (w=SET))) M:=by rw[uJ (M1:=M) (by exact rfl),uJ (M1:=M) (uH (wF rfl iu) rfl),x1]
    by_cases hw:w=SET
    .rw[decide_eq_true hw]at e0;refine(Zh (Zr e0)).trans ?_;have e2':(e2 dw (e2 Ze (Za 2) (eC (.int 0))) (aH qL (Zb (Za 5) (Zb (Za 4) (Zg))))) (oM roll ts n k w v bs (Ya (.set a b))) M= .ok (.bl (!decide (n=bs.getD a 0))) M:=Zv (a:=.int n) (M1:=M) (by exact rfl) (iz rfl rfl cn) (by exact rfl);by_cases hn:n=bs.getD a 0
     .rw[decide_eq_true hn]at e2';refine(Zh (Zr e2')).trans ((Zh (Zr (M':=M) (by exact rfl))).trans (cV ?_));refine Zv (a:=.int v) (b:=.int y) (M1:=M) (M2:=M) (by exact rfl) (by simp[oM,Ay,Zq,Zk,-sJ,gy]) ?_;simp only[aC,nR,ph,pq,pA,nT,hy,decide_eq_true hw,decide_eq_true hn,yr]
     .rw[decide_eq_false hn]at e2';refine(cB ((bG e2').trans ?_));simp only[decide_eq_true hw,decide_eq_false hn,yr,Mp];rfl
    .rw[decide_eq_false hw]at e0;refine(cB ((bG e0).trans ?_));simp[aq,hw]
   .have:=no r hr n1;have e:=n2 bs bs' ⟨n,(k:Int),w,v⟩;simp only[tE]at e;exact this.trans (congrArg (λb=>O3.rt (D.bl b) M) e.symm)
 .rw[if_neg h];have n0:(decide (0<=t)&&decide (t<(ts.length:Int)-1))=false:=by
   rw[←Mm];exact decide_eq_false (by omega)
  rw[n0]at c0;exact cB ((bG (uH c0 rfl)).trans rfl)
theorem Zpf(lo:Int)(n:Nat):eQ lo (n+1)= .int lo::eQ (lo+1) n:=by unfold eQ;rw[Ub];simp only[Yy,oZ,vQ,Int.natCast_zero,Cg,true_and];apply Br;intro k _;simp only[Function.comp_apply,D.int.injEq];omega
noncomputable def jd:Option Nat->D
 |none=>.non|some k=>.int (k:Int)
theorem Q7(n:Nat)(o:Option Nat):below n (jd o)=true:=by cases o<;>rfl
theorem Zkf{it:jx}(hit:it.lock=Ye){i:Nat}{body:S3}{q:Nat->Bool}{I:bI->Prop}{M:Store}:∀(m j:Nat) (env:bI),I env ->
  (∀k env,j<=k->k<j+m->I env->(q k=true->body (env.set i (Ya (.int (k:Int)))) M= .rt (.int (k:Int)) M)/\(q k=false->∃e',I e'/\body (env.set i (Ya (.int (k:Int)))) M= .nx e' M)) ->
  ∃e',I e'/\mG it (dz i) body (eQ (j:Int) m) env M=(match(Li j m).find? q with|some k=>.rt (.int (k:Int)) M|none=>.nx e' M)
 |0,j,env,hI,_=>⟨env,hI,by simp[eQ,Dk,yS,locked,hit]⟩|m+1,j,env,hI,h=>by
  obtain⟨h1,h2⟩:=h j env (Yk _) (lB 0 169610241 T1) hI;rw[Zpf];simp only[yS,locked,hit,if_true,dz,List.range'_succ,vA];cases hq:q j with
  |true=>exact⟨env,hI,by rw[h1 hq]⟩|false=>obtain⟨e',hI',hb⟩:=h2 hq;obtain⟨e2,hI2,ih⟩:=Zkf hit m (j+1) e' hI' λk env a b c=>h k env (lB 1 4296674305 T1 a) (lC 1 0xa2c1c012a1cc011 T1 b) c;refine⟨e2,hI2,?_⟩;rw[hb];rw[show((j:Int)+1)=((j+1:Nat):Int)by exact rfl];exact ih
noncomputable def mX{α:Type}(p:α->Bool):List α->Nat->Option Nat
 |[],_=>Ye|r::rs,k=>if p r then mX p rs (k+1)else Ya k
theorem ZqX(n:Nat):dm n=Li 0 n:=by rw[List.range_eq_range']
noncomputable def jW:Option Use->List Use->Nat->Option Nat
 |_,[],_=>Ye|a,r::rs,k=>if qR a r then jW (Ya r) rs (k+1)else Ya k
theorem ZiT(d0 d1:D)(M:Store):∀(rs:List Use) (k:Nat) (a:Option Use) (x3 x4:Option D),
  pD [] (jA [3,4]) (Zu (aD (e1 jj (aH wZ (Zb (Za 2) (Zb (Za 4) (Zg))))) (aq (Za 3)) (aK)) (ao 2 (Za 4))) (lV k (rs.map Zm)) [Ya d0,Ya d1,Ya (oK a),x3,x4] M=
   match jW a rs k with
   |none=>(match rs.getLast? with|none=>.nx [Ya d0,Ya d1,Ya (oK a),x3,x4] M|some r=>.nx [Ya d0,Ya d1,Ya (Zm r),Ya (.int ((k+rs.length-1:Nat):Int)),Ya (Zm r)] M)
   |some j=>.rt (.int (j:Int)) M
 |[],k,a,x3,x4=>by exact rfl|r ::rs,k,a,x3,x4=>by
  have uf:=ZmE a r M;have ih:=ZiT d0 d1 M rs (k+1) (Ya r) (Ya (.int (k:Int))) (Ya (Zm r));simp only[Yy,lV,Du,pC,Bu,if_true,jA,HS,HW,xW,xX,jW];cases h:qR a r with
  |false=>rw[h]at uf;simp[Zu,aD,aq,uf]|true=>
   rw[h]at uf;simp only[if_true];have b:(Zu (aD (e1 jj (aH wZ (Zb (Za 2) (Zb (Za 4) (Zg))))) (aq (Za 3)) (aK)) (ao 2 (Za 4))) [Ya d0,Ya d1,Ya (oK a),Ya (.int (k:Int)),Ya (Zm r)] M= .nx [Ya d0,Ya d1,Ya (Zm r),Ya (.int (k:Int)),Ya (Zm r)] M:=by simp[Zu,aD,aK,ao,uf]
   rw[b];refine Cm ih ?_;cases hf:jW (Ya r) rs (k+1)with
   |some j=>rfl|none=>
    cases rs with
    |nil=>simp[oK]|cons r2 rs=>
     cases hgl:(r2::rs).getLast? with
     |none=>simp at hgl|some z=>
      have:(r::r2::rs).getLast?=Ya z:=by rw[List.getLast?_cons_cons];exact hgl
      rw[this];simp only[gW];rw[show k+1+(rs.length+1)-1=k+(rs.length+1+1)-1 by exact Yt (lD 2 0x300a3caa2cc1c01a2ca1cca0c21 T1 (Yc (lB 0 43429973152 T1)) (bZ _ _)) (lD 2 0x230aa1cc0ca3c21a2ca1ca0cc01 T1 (bZ _ _) (Yc (lB 0 45664177312 T1)))]
noncomputable def tG(roll:bJ)(ts:List bM)(k:Nat):Bool:=match ts[k]?,ts[k+1]? with
 |some s,Ya s'=>qQ roll s.1 s.2 s'.1 s'.2|_,_=>false
noncomputable def pP(roll:bJ)(ts:List bM):Option Nat:=(dm (ts.length-1)).find? λk=>!tG roll ts k
noncomputable def gV(us:List Use):D:=.tup (us.map Zm)
variable{ts:List bM}
theorem Eg{k:Nat}(h:k<ts.length):cO (ts.map aU) ((k:Nat):Int)=Ya (aU ts[k]):=by rw[mJ,Yx,Yi h];rfl
theorem Zgv(roll:bJ)(R:eU roll)(ts:List bM)(h8:∀s∈ts,s.2.length=8)(M:Store)(hz:ts.length<=5000):Jo [Zn roll,cu ts] M= .ok (jd (pP roll ts)) M:=by
 obtain⟨e',⟨y,rfl⟩,lp⟩:=Zkf (it:=⟨eQ 0 (ts.length-1),Ye⟩) rfl (i:=2) (body:=(aD (e1 jj (aH zF (Zb (Za 0) (Zb (e2 Ze (Za 1) (Za 2)) (Zb (e2 Ze (Za 1) (e2 aM (Za 2) (eC (.int 1)))) (Zg)))))) (aq (Za 2)) (aK))) (q:=λk=>!tG roll ts k) (I:=λenv=>∃y,env=[Ya (Zn roll),Ya (cu ts),y]) (M:=M) (ts.length-1) 0 [Ya (Zn roll),Ya (cu ts),Ye] ⟨Ye,rfl⟩
  (λk env _ hk ⟨y,he⟩=>by
   subst he;have hk1:k+1<ts.length:=lC 2 0x2a0c12a1c211ec011 T1 hk (Yc (lC 2 739013566578705 T1 hk (j4 _ _)));have hk0:k<ts.length:=lB 1 4313451537 T1 hk1;have sf:=Zli roll R ts[k].1 ts[k].2 ts[k+1].1 ts[k+1].2 M (h8 _ (Y1 hk0)) (h8 _ (Y1 hk1));have hf:tG roll ts k=qQ roll ts[k].1 ts[k].2 ts[k+1].1 ts[k+1].2:=by simp[tG,hk0,hk1]
   have g1:(e2 Ze (Za 1) (Za 2)) [Ya (Zn roll),Ya (cu ts),Ya (.int (k:Int))] M= .ok (aU ts[k]) M:=by simp only[e2,Za,cu,Y3,Y8,R3.bind,nU,nW,nY,nZ,Eg hk0]
   have g2:(e2 Ze (Za 1) (e2 aM (Za 2) (eC (.int 1)))) [Ya (Zn roll),Ya (cu ts),Ya (.int (k:Int))] M= .ok (aU ts[k+1]) M:=by simp only[e2,Za,eC,cu,Y3,Y8,R3.bind,qx,qy,pg,qz,nU,nW,nY,nZ,show((k:Int)+1)=((k+1:Nat):Int)by exact rfl,Eg hk1]
   have cc:(e1 jj (aH zF (Zb (Za 0) (Zb (e2 Ze (Za 1) (Za 2)) (Zb (e2 Ze (Za 1) (e2 aM (Za 2) (eC (.int 1)))) (Zg)))))) [Ya (Zn roll),Ya (cu ts),Ya (.int (k:Int))] M= .ok (.bl (!tG roll ts k)) M:=by rw[hf];exact uH (jC rfl g1 g2 sf) rfl
   refine⟨λhq=>?_,λhq=>?_⟩
   .exact(bG (cc.trans (by rw[hq]))).trans rfl
   .exact⟨_,⟨_,rfl⟩,Zr (cc.trans (by rw[hq]))⟩)
 have ir:(jP (e2 eO (au bw (Zb (Za 1) (Zg))) (eC (.int 1)))) [Ya (Zn roll),Ya (cu ts),Ye] M= .ok ⟨eQ 0 (ts.length-1),Ye⟩ M:=by
  have b:((ts.length:Int)-1)<=1000000/\ -1000000<=((ts.length:Int)-1):=⟨iN [_] [] 1 0xf42405ba08f813884b001 T1 hz,iN [_] [] 0 0xa08ff42405b98 T1⟩;have e:((ts.length:Int)-1).toNat=ts.length-1:=by omega
  simp[cu,b,e]
 refine Rt.pure (G:=[]) (env:=[Ya (Zn roll),Ya (cu ts),Ye]) ?_ (Q7 _ _);rw[Yr];have tH:=(Ib (g:=dz 2) ir).trans lp;unfold pP;rw[ZqX];cases hf:(Li 0 (ts.length-1)).find? λk=>!tG roll ts k with
 |some j=>rw[hf]at tH;exact cB tH|none=>rw[hf]at tH;exact(Zh tH).trans rfl
theorem ZgS(us:List Use)(M:Store):Ej [.non,gV us] M= .ok (jd (jW Ye us 0)) M:=by
 have lp:=ZiT .non (gV us) M us 0 Ye Ye Ye;have e0:QL [Ya .non,Ya (gV us),Ye,Ye,Ye] M= .rt (jd (jW Ye us 0)) M:=by
  refine(Zh (Zz (d:=.non) (M':=M) rfl)).trans ?_;have e1:(y_ (Dw (Za 1)) (jA [3,4]) (Zu (aD (e1 jj (aH wZ (Zb (Za 2) (Zb (Za 4) (Zg))))) (aq (Za 3)) (aK)) (ao 2 (Za 4)))) [Ya .non,Ya (gV us),Ya .non,Ye,Ye] M=_:=Cm (by exact rfl) lp;cases hf:jW Ye us 0 with
  |some j=>rw[hf]at e1;exact cB e1|none=>
   rw[hf]at e1;simp only at e1;cases hl:us.getLast? with
   |none=>rw[hl]at e1;exact(Zh e1).trans rfl|some z=>rw[hl]at e1;exact(Zh e1).trans rfl
 exact Rt.pure (G:=[]) (env:=[Ya .non,Ya (gV us),Ye,Ye,Ye]) (by rw[Yr];exact e0) (Q7 _ _)
theorem Zgg(roll:bJ)(R:eU roll)(ts:List bM)(h8:∀s∈ts,s.2.length=8)(d2:D)(M:Store):∀(us:List Use) (k:Nat) (x3 x4:Option D),
  ∃e',pD [] (jA [3,4]) (aD (e1 jj (aH w5 (Zb (Za 0) (Zb (Za 1) (Zb (Za 4) (Zg)))))) (aq (Za 3)) (aK)) (lV k (us.map Zm)) [Ya (Zn roll),Ya (cu ts),Ya d2,x3,x4] M=
   match mX (jl roll ts) us k with
   |none=>.nx e' M|some j=>.rt (.int (j:Int)) M
 |[],k,x3,x4=>⟨_,by first|exact rfl|simp[lV,PB,Du,pC,mX];rfl⟩
 |u::us,k,x3,x4=>by
  have um:=ZiW roll R ts h8 u M;have cc:(e1 jj (aH w5 (Zb (Za 0) (Zb (Za 1) (Zb (Za 4) (Zg)))))) [Ya (Zn roll),Ya (cu ts),Ya d2,Ya (.int (k:Int)),Ya (Zm u)] M= .ok (.bl (!jl roll ts u)) M:=uH (jC rfl rfl rfl um) rfl;obtain⟨e',ih⟩:=Zgg roll R ts h8 d2 M us (k+1) (Ya (.int (k:Int))) (Ya (Zm u));simp only[Yy,lV,Du,pC,Bu,if_true,jA,HS,HW,xW,xX,mX];cases h:jl roll ts u with
  |false=>exact⟨[],by rw[bG (cc.trans (by rw[h];rfl))];simp[aq]⟩|true=>exact⟨e',by rw[Zr (cc.trans (by rw[h];rfl))];simpa using ih⟩
theorem Zfu(roll:bJ)(R:eU roll)(ts:List bM)(h8:∀s∈ts,s.2.length=8)(us:List Use)(M:Store):Ek [Zn roll,cu ts,gV us] M= .ok (jd (mX (jl roll ts) us 0)) M:=by
 obtain⟨e',lp⟩:=Zgg roll R ts h8 (gV us) M us 0 Ye Ye;refine Rt.pure (G:=[]) (env:=[Ya (Zn roll),Ya (cu ts),Ya (gV us),Ye,Ye]) ?_ (Q7 _ _);rw[Yr];have tH:(y_ (Dw (Za 2)) (jA [3,4]) (aD (e1 jj (aH w5 (Zb (Za 0) (Zb (Za 1) (Zb (Za 4) (Zg)))))) (aq (Za 3)) (aK))) [Ya (Zn roll),Ya (cu ts),Ya (gV us),Ye,Ye] M=_:=Cm (by exact rfl) lp;cases hf:mX (jl roll ts) us 0 with
 |some j=>rw[hf]at tH;exact cB tH|none=>rw[hf]at tH;exact(Zh tH).trans rfl
noncomputable abbrev BEGIN:List Nat:=[98,101,103,105,110]
noncomputable abbrev STEP:List Nat:=[115,116,101,112]
noncomputable abbrev END:List Nat:=[101,110,100]
noncomputable abbrev USE:List Nat:=[117,115,101]
noncomputable abbrev MATCH:List Nat:=[109,97,116,99,104]
noncomputable abbrev COUNT:List Nat:=[99,111,117,110,116]
noncomputable def mY:Option (List Nat×Nat)->D
 |none=>.non|some (w,k)=>.tup [.str w,.int (k:Int)]
theorem Zn2(n:Nat)(o:Option (List Nat×Nat)):below n (mY o)=true:=by
 cases o with
 |none=>rfl|some p=>rfl
noncomputable def lX(roll:bJ)(p:Int):Bool:=match gD roll p with
 |some r=>r.eF|none=>false
noncomputable def jX(roll:bJ)(bs:List Int)(ts:List bM):Option (List Nat×Nat):=match ts with
 |[]=>Ya (BEGIN,0)|s::_=>if s≠(0,bs)then Ya (BEGIN,0)else match pP roll ts with
  |some t=>Ya (STEP,t)|none=>if lX roll (ts.getLastD (0,[])).1 then Ye else Ya (END,ts.length-1)
noncomputable def jY(roll:bJ)(ts:List bM):List bM:=ts.dropLast.filter λs=>match gD roll s.1 with|some r=>qT r|none=>false
noncomputable def xG(roll:bJ)(ts:List bM)(us:List Use):Option (List Nat×Nat):=match jW Ye us 0 with
 |some k=>Ya (USE,k)|none=>match mX (jl roll ts) us 0 with
  |some k=>Ya (MATCH,k)|none=>if us.length≠(jY roll ts).length then Ya (COUNT,us.length)else Ye
noncomputable def mZ(roll:bJ)(bs:List Int)(ts:List bM)(us:List Use):Option (List Nat×Nat):=match jX roll bs ts with
 |some f=>Ya f|none=>xG roll ts us
theorem find_none{q:Nat->Bool}(h:(dm n).find? q=Ye){k:Nat}(hk:k<n):q k=false:=by have:=Uj.mp h k (by simpa using hk);simpa using this
theorem Zo6{p p':Int}{bs bs':List Int}(h:qQ roll p bs p' bs'=true):∃k r,p=((k:Nat):Int)/\roll[k]?=Ya r/\r.eF=false/\p'=(r.place bs k:Nat):=by
 unfold qQ at h;split at h
 .rename_i hp;obtain⟨k,rfl⟩:=yt hp.1;have hk:k<roll.length:=p8.1 hp.2;have hr:roll[k]?=Ya roll[k]:=by simp[hk]
  simp only[Mr,o4,hr]at h;split at h
  .cases h
  .rename_i hh;rw[Y0,decide_eq_true_eq]at h;exact⟨k,roll[k],rfl,hr,by simpa using hh,h.1⟩
 .cases h
theorem place_lt(R:eU roll){k:Nat}{bs:List Int}(hb:bs.length=8)(hr:roll[k]?=Ya r)(hh:r.eF=false):r.place bs k<roll.length:=by
 have hk:k<roll.length:=(Yd.mp hr).1;have g:Good roll ⟨k,bs,[]⟩:=⟨hk,hb,by simp[iB]⟩;have st:gU roll ⟨k,bs,[]⟩=Ya ⟨r.place bs k,r.aF bs [],r.cells bs []⟩:=by simp[gU,hr,oA,hh]
 exact(Ik R g st).1.pl
theorem Zj5(R:eU roll)(h8:∀s∈ts,s.2.length=8){bs:List Int}{s:bM}(h0:ts[0]?=Ya s)(hs:s=(0,bs))(hf:pP roll ts=Ye):∀(k:Nat) (x:bM),ts[k]?=Ya x->∃j r,x.1=((j:Nat):Int)/\roll[j]?=Ya r
 |0,x,hx=>by
  rw[h0]at hx;cases hx;have pos:0<roll.length:=by obtain⟨q,x,e,_⟩:=R.last;rw[e];simp
  rw[hs];exact⟨0,roll[0],rfl,by simp[pos]⟩
 |k+1,x,hx=>by
  have hk1:k+1<ts.length:=(Yd.mp hx).1;have hk0:k<ts.length:=lB 1 4313451537 T1 hk1;have q:=find_none hf (k:=k) (lC 2 0x201a2c1011a0c11 T1 hk1 (bZ _ _));simp only[Va]at q;have e0:ts[k]?=Ya ts[k]:=by simp[hk0]
  unfold tG at q;rw[e0,hx]at q;obtain⟨j,r,hj,hr,hh,hp⟩:=Zo6 q;have:=place_lt R (h8 _ (Y1 hk0)) hr hh;exact⟨r.place ts[k].2 j,roll[r.place ts[k].2 j],hp,by simp[this]⟩
theorem m7(hr:roll[j]?=Ya r):gD roll (j:Int)=Ya r:=by have hj:j<roll.length:=(Yd.mp hr).1;simp only[gD,o4,hr];rw[if_pos (⟨uo _,p8.2 hj⟩)]
theorem Zn0(s t:bM):fQ [.int s.1,Zk s.2] [.int t.1,Zk t.2]=decide (s=t):=by
 simp only[yJ,rZ,wg,wj,uz,uD,qw,Zmc,BZ];rw[Ml];simp only[Y0,decide_eq_true_eq,beq_iff_eq];constructor
 .rintro⟨h1,h2⟩;exact Np h1 h2
 .intro h;rw[h];exact⟨rfl,rfl⟩
theorem Zt2(s t:bM)(M:Store):dw (aU s) (aU t) M= .ok (.bl (!decide (s=t))) M:=by have p1:∀i:Int,b7 DEEP (.int i)=true:=λi=>uG _ _;have p2:∀b:List Int,b7 DEEP (Zk b)=true:=λb=>Pq _ _;simp only[dw,nR,ph,pq,pA,nT,aU,fV,t7,Bu,p1,p2,B_,if_true,Zn0]
theorem ZmS(r:Row)(M:Store):dw (Zq r) (.tup [.str [104,97,108,116]]) M= .ok (.bl (!r.eF)) M:=by cases r<;>first|exact rfl|simp[Zq,Oo,Oq,Ot,Ou,Ov,uG,YB,yJ,rZ,wg,wj,uz,uD,qw]
theorem Zhm(roll:bJ)(R:eU roll)(bs:List Int)(ts:List bM)(h8:∀s∈ts,s.2.length=8)(M:Store)(hz:ts.length<=5000):
  Jp [Zn roll,Zk bs,cu ts] M= .ok (mY (jX roll bs ts)) M:=by
 refine Rt.pure (G:=[]) (env:=[Ya (Zn roll),Ya (Zk bs),Ya (cu ts),Ye,Ye]) ?_ (Zn2 _ _);rw[Yr];have fu:=Zgv roll R ts h8 M hz;have e0:(aR (Zb (eC (.int 0)) (Zb (Za 1) (Zg)))) [Ya (Zn roll),Ya (Zk bs),Ya (cu ts),Ye,Ye] M= .ok (aU (0,bs)) M:=by simp[aU,fV]
 cases ts with
 |nil=>exact cB ((bG (M':=M) (by exact rfl)).trans (by simp[aq,jX,mY]))|cons s rest=>
  have c1:(e2 dw (e2 Ze (Za 2) (eC (.int 0))) (aR (Zb (eC (.int 0)) (Zb (Za 1) (Zg))))) [Ya (Zn roll),Ya (Zk bs),Ya (cu (s::rest)),Ye,Ye] M= .ok (.bl (!decide (s=(0,bs)))) M:=Zv (a:=aU s) (M1:=M) (by simp[cu]) e0 (Zt2 s (0,bs) M);have c0:(iM (e2 aC (au bw (Zb (Za 2) (Zg))) (eC (.int 0))) (e2 dw (e2 Ze (Za 2) (eC (.int 0))) (aR (Zb (eC (.int 0)) (Zb (Za 1) (Zg)))))) [Ya (Zn roll),Ya (Zk bs),Ya (cu (s::rest)),Ye,Ye] M= .ok (.bl (!decide (s=(0,bs)))) M:=by rw[uJ (M1:=M) (by have:¬((rest.length:Int)+1=0):=(λz=>iN [_] [] 1 1856015521 T1 z);simp[cu,this])];exact c1
  by_cases hs:s=(0,bs)
  .rw[decide_eq_true hs]at c0;refine(Zh (Zr c0)).trans ((Zh (Zz (iz rfl rfl fu))).trans ?_);have fs:jX roll bs (s::rest)=(match pP roll (s::rest)with|some t=>Ya (STEP,t)|none=>if lX roll ((s::rest).getLastD (0,[])).1 then Ye else Ya (END,(s::rest).length-1)):=by
    simp only[jX];rw[if_neg (by simpa using hs)]
   rw[fs];cases hf:pP roll (s::rest)with
   |some t=>exact cB ((bG (M':=M) (by exact rfl)).trans (by simp[aq,jd,mY]))|none=>
    refine(Zh (Zr (M':=M) (by exact rfl))).trans ?_;have hl:(s::rest).length-1<(s::rest).length:=by simp
    obtain⟨j,r,hj,hr⟩:=Zj5 R h8 (s:=s) (by exact rfl) hs hf ((s::rest).length-1) ((s::rest)[(s::rest).length-1]) (by simp);have gl:(s::rest).getLastD (0,[])=(s::rest)[(s::rest).length-1]:=by rw[Fz,T9];simp
    rw[gl];have tg:=Eg (ts:=s::rest) hl;generalize hx:(s::rest)[(s::rest).length-1]=x at hj tg;have e4:(e2 eO (au bw (Zb (Za 2) (Zg))) (eC (.int 1))) [Ya (Zn roll),Ya (Zk bs),Ya (cu (s::rest)),Ya (jd Ye),Ye] M= .ok (.int (((s::rest).length-1:Nat):Int)) M:=by simp[cu]
    refine(Zh (Zz e4)).trans ?_;have ra:=ZjB roll x.1 M;rw[hj,m7 hr]at ra;have e5:(e2 Ze (e2 Ze (Za 2) (Za 4)) (eC (.int 0))) [Ya (Zn roll),Ya (Zk bs),Ya (cu (s::rest)),Ya (jd Ye),Ya (.int (((s::rest).length-1:Nat):Int))] M= .ok (.int (j:Int)) M:=by refine Zv (a:=aU x) (M1:=M) (b:=.int 0) (M2:=M) ?_ rfl (by simp[aU,fV,hj]);simp only[e2,Za,cu,Y3,Y8,R3.bind,nU,nW,nY,nZ,tg]
    have e6:(e2 dw (aH qM (Zb (Za 0) (Zb (e2 Ze (e2 Ze (Za 2) (Za 4)) (eC (.int 0))) (Zg)))) (aR (Zb (eC (.str [104,97,108,116])) (Zg)))) [Ya (Zn roll),Ya (Zk bs),Ya (cu (s::rest)),Ya (jd Ye),Ya (.int (((s::rest).length-1:Nat):Int))] M= .ok (.bl (!r.eF)) M:=Zv (iz rfl e5 ra) (by simp) (ZmS r M);have hA:lX roll x.1=r.eF:=by simp only[lX,hj,m7 hr]
    rw[hA];cases hh:r.eF with
    |true=>rw[hh]at e6;exact(Zh (Zr e6)).trans rfl|false=>rw[hh]at e6;exact cB ((bG e6).trans (by simp[aq,mY]))
  .rw[decide_eq_false hs]at c0;refine cB ((bG c0).trans ?_);have fs:jX roll bs (s::rest)=Ya (BEGIN,0):=by simp only[jX];rw[if_pos hs]
   rw[fs];simp[aq,mY]
theorem Zhv{bs:List Int}(h:jX roll bs ts=Ye):(∃s,ts[0]?=Ya s/\s=(0,bs))/\pP roll ts=Ye:=by
 cases ts with
 |nil=>simp[jX]at h|cons s rest=>
  simp only[jX]at h;by_cases hs:s=(0,bs)
  .rw[if_neg (by simpa using hs)]at h;refine⟨⟨s,by simp,hs⟩,?_⟩;cases hf:pP roll (s::rest)with
   |some t=>rw[hf]at h;cases h|none=>rfl
  .rw[if_pos hs]at h;cases h
theorem ZhS(roll:bJ)(R:eU roll)(bs:List Int)(ts:List bM)(h8:∀s∈ts,s.2.length=8)(us:List Use)(M:Store)(hz:ts.length<=5000)(hf:jX roll bs ts=Ye):
  El [Zn roll,cu ts,gV us] M= .ok (mY (xG roll ts us)) M:=by
 obtain⟨⟨s0,h0,hs0⟩,hS⟩:=Zhv hf;have pl:=Zj5 R h8 h0 hs0 hS;have f1:=ZgS us M;have f2:=Zfu roll R ts h8 us M;have fin:∀{d:D} (G:Store),below M.length d=true->QM [Ya (Zn roll),Ya (cu ts),Ya (gV us),Ye,Ye,Ye] M= .rt d (M++G)->El [Zn roll,cu ts,gV us] M= .ok d M:=λ{d} G hb h=>Rt.pure h hb;unfold xG;cases h1:jW Ye us 0 with
 |some k=>rw[h1]at f1;refine fin [] rfl ?_;rw[Yr];exact(Zh (Zz (iz rfl rfl f1))).trans (cB ((bG (M':=M) (by exact rfl)).trans (by simp[aq,jd,mY])))|none=>
  rw[h1]at f1;cases h2:mX (jl roll ts) us 0 with
  |some k=>rw[h2]at f2;refine fin [] rfl ?_;rw[Yr];exact(Zh (Zz (iz rfl rfl f1))).trans ((Zh (Zr (M':=M) (by exact rfl))).trans ((Zh (Zz (jC rfl rfl rfl f2))).trans (cB ((bG (M':=M) (by exact rfl)).trans (by simp[aq,jd,mY])))))|none=>
   rw [h2]at f2;have lc:(gh (jO (bj (Za 1) (bB) (bD (e1 mF (eC (.int 1)))))) 1 (dz 6) [aH pM (Zb (e2 Ze (Za 0) (e2 Ze (Za 6) (eC (.int 0)))) (Zg))] (Za 6)) [Ya (Zn roll),Ya (cu ts),Ya (gV us),Ya (jd Ye),Ya (jd Ye),Ye] M= .ok (.ref M.length) (M++[.lst ((jY roll ts).map aU)]):=by
    refine ZoR (α:=bM) (enc:=aU) (h:=aU) (p:=λs=>match gD roll s.1 with|some r=>qT r|none=>false) (own:=1) (i:=6) (lock:=Ye) (as:=ts.dropLast) (M1:=M) ?_ (λ_ h=>by cases h) (λx hx M'=>?_) (λx hx _ M'=>by exact rfl) (by simp;exact lA 1 0x186a15b0013884b001 T1 hz)
    .have:=X_ (ts.map aU);simp only[jO,bj,Za,bB,bD,e1,eC,cu,Y3,Y8,R3.bind,Oz,lJ,lK,lM,lO,this];rw[K8]
    .obtain⟨k,hk⟩:=Bq hx;have hk':ts[k]?=Ya x:=by
      rw[List.getElem?_dropLast]at hk;split at hk
      .exact hk
      .cases hk
     obtain⟨j,r,hj,hr⟩:=pl k x hk';have iu:=JD r M';have gi:(e2 Ze (Za 0) (e2 Ze (Za 6) (eC (.int 0)))) [Ya (Zn roll),Ya (cu ts),Ya (gV us),Ya (jd Ye),Ya (jd Ye),Ye,Ya (aU x)] M'= .ok (Zq r) M':=by simp[aU,fV,hj,Zn,hr]
     simp only[hj,m7 hr];exact wF gi iu
   have e7:(e2 dw (au bw (Zb (Za 2) (Zg))) (au bw (Zb (Za 5) (Zg)))) [Ya (Zn roll),Ya (cu ts),Ya (gV us),Ya (jd Ye),Ya (jd Ye),Ya (.ref M.length)] (M++[.lst ((jY roll ts).map aU)])= .ok (.bl (!decide (us.length=(jY roll ts).length))) (M++[.lst ((jY roll ts).map aU)]):=by
    have:(((us.length:Int))=((jY roll ts).length:Int))=(us.length=(jY roll ts).length):=by simp[Vg]
    simp[gV,this]
   have pre:∀{k':S3} {o:O3},k' [Ya (Zn roll),Ya (cu ts),Ya (gV us),Ya (jd Ye),Ya (jd Ye),Ya (.ref M.length)] (M++[.lst ((jY roll ts).map aU)])=o->Zu (ao 3 (aH Ej (Zb (eC .non) (Zb (Za 2) (Zg))))) (Zu (aD (e2 lH (Za 3) (eC .non)) (aq (aR (Zb (eC (.str [117,115,101])) (Zb (Za 3) (Zg))))) (aK)) (Zu (ao 4 (aH Ek (Zb (Za 0) (Zb (Za 1) (Zb (Za 2) (Zg)))))) (Zu (aD (e2 lH (Za 4) (eC .non)) (aq (aR (Zb (eC (.str [109,97,116,99,104])) (Zb (Za 4) (Zg))))) (aK)) (Zu (ao 5 (gh (jO (bj (Za 1) (bB) (bD (e1 mF (eC (.int 1)))))) 1 (dz 6) [aH pM (Zb (e2 Ze (Za 0) (e2 Ze (Za 6) (eC (.int 0)))) (Zg))] (Za 6))) k')))) [Ya (Zn roll),Ya (cu ts),Ya (gV us),Ye,Ye,Ye] M=o:=λ{k' o} h=>(Zh (Zz (iz rfl rfl f1))).trans ((Zh (Zr (M':=M) (by exact rfl))).trans ((Zh (Zz (jC rfl rfl rfl f2))).trans ((Zh (Zr (M':=M) (by exact rfl))).trans ((Zh (Zz lc)).trans h))));by_cases hc:us.length=(jY roll ts).length
   .rw[if_neg (by simpa using hc)];rw[decide_eq_true hc]at e7;exact fin [.lst ((jY roll ts).map aU)] rfl (pre ((Zh (Zr e7)).trans rfl))
   .rw[if_pos hc];rw[decide_eq_false hc]at e7;exact fin [.lst ((jY roll ts).map aU)] rfl (pre (cB ((bG e7).trans (by simp[aq,gV,mY]))))
theorem ZpS(roll:bJ)(R:eU roll)(bs:List Int)(ts:List bM)(h8:∀s∈ts,s.2.length=8)(us:List Use)(M:Store)(hz:ts.length<=5000):
  Em [Zn roll,Zk bs,cu ts,gV us] M= .ok (mY (mZ roll bs ts us)) M:=by
 have f1:=Zhm roll R bs ts h8 M hz;refine Rt.pure (G:=[]) (env:=[Ya (Zn roll),Ya (Zk bs),Ya (cu ts),Ya (gV us),Ye]) ?_ (Zn2 _ _);rw[Yr];refine(Zh (Zz (jC rfl rfl rfl f1))).trans (cV ?_);unfold mZ;cases hf:jX roll bs ts with
 |some f=>exact(YK (M1:=M) (by cases f;simp[mY])).trans rfl|none=>have f2:=ZhS roll R bs ts h8 us M hz hf;exact(YL (M1:=M) (by exact rfl)).trans (jC rfl rfl rfl f2)
variable{us:List Use}
theorem Q8(h:us.length<64):HJ (us.map Zm):=by
 refine⟨by simpa using h,.inl (jJ.mpr λd hd=>by obtain⟨p,_,rfl⟩:=iR.mp hd;rfl),λa ha b hb=>?_⟩;obtain⟨p,_,rfl⟩:=iR.mp ha;obtain⟨q,_,rfl⟩:=iR.mp hb;simp only[Dn,Dp,Zm,sH,sI];split
 .split
  .split
   .split
    .rfl
    .rfl
   .rfl
  .rfl
 .rfl
theorem ZoU(us:List Use):∃us':List Use,us'.length=us.length/\wB (us.map Zm)=us'.map Zm:=by
 unfold wB;split
 .rename_i h;have hp:=h.choose_spec.1;obtain⟨us',e,_⟩:=Pr (enc:=Zm) (P:=λ_ _=>True) h.choose λj d hd=>by
   have hm:d∈us.map Zm:=hp.mem_iff.mp (jo hd);obtain⟨u,_,rfl⟩:=iR.mp hm;exact⟨u,rfl,trivial⟩
  refine⟨us',?_,e⟩;have:=hp.length_eq;rw[e]at this;simpa using this
 .exact⟨us,rfl,rfl⟩
variable{lo:sy}
theorem yH{b:Nat}{E:E3}(h1:env[i]?=Ya (Ya (.ref n)))(hM:M[n]?=Ya (.lst xs))(ha:env[j]?=Ya (Ya (.int (a:Int))))(hE:∀G,E env (M++G)= .ok d (M++G))(hlo:∀M',lo env M'= .ok (Ya (b:Int)) M')(hz:xs.length<=10000):
  e2 aM (e2 aM (bj (Za i) bB (bD (Za j))) (b8 (Zb E Zg))) (bj (Za i) lo bB) env M= .ok (.ref (M.length+4)) (M++[.lst (xs.take a),.lst [d],.lst (xs.take a++[d]),.lst (xs.drop b),.lst (xs.take a++[d]++xs.drop b)]):=by
 have s1:bj (Za i) bB (bD (Za j)) env M= .ok (.ref M.length) (M++[.lst (xs.take a)]):=by simp only[bj,Za,bB,bD,h1,ha,R3.bind,lJ,lK,lM,lO,hM,xF,alloc]
 have s2:b8 (Zb E Zg) env (M++[.lst (xs.take a)])= .ok (.ref (M.length+1)) (M++[.lst (xs.take a),.lst [d]]):=by simp only[b8,Zb,Zg,R3.bind,hE];simp
 have a1:aM (.ref M.length) (.ref (M.length+1)) (M++[.lst (xs.take a),.lst [d]])= .ok (.ref (M.length+2)) (M++[.lst (xs.take a),.lst [d],.lst (xs.take a++[d])]):=by have g1:(M++[MO.lst (xs.take a),.lst [d]])[M.length]?=Ya (.lst (xs.take a)):=dM _ _ _;have g2:(M++[MO.lst (xs.take a),.lst [d]])[M.length+1]?=Ya (.lst [d]):=eZ _ _ 1;simp only[qx,qy,pg,qz,g1,g2];rw[if_pos (by simp;exact lB 2 0xf423f5b10010127104b001 T1 hz (tR _ _))];simp
 have s3:bj (Za i) lo bB env (M++[.lst (xs.take a),.lst [d],.lst (xs.take a++[d])])= .ok (.ref (M.length+3)) (M++[.lst (xs.take a),.lst [d],.lst (xs.take a++[d]),.lst (xs.drop b)]):=by simp only[bj,Za,bB,h1,hlo,R3.bind,lJ,lK,lM,lO,cP hM,Jz,alloc];simp
 refine Zv (Zv s1 s2 a1) s3 ?_;have g1:(M++[MO.lst (xs.take a),.lst [d],.lst (xs.take a++[d]),.lst (xs.drop b)])[M.length+2]?=Ya (.lst (xs.take a++[d])):=eZ _ _ 2;have g2:(M++[MO.lst (xs.take a),.lst [d],.lst (xs.take a++[d]),.lst (xs.drop b)])[M.length+3]?=Ya (.lst (xs.drop b)):=eZ _ _ 3;simp only[qx,qy,pg,qz,g1,g2];rw[if_pos (by simp;exact lC 3 0xf42405b2a1cc00201010127104b002 T1 hz (tR _ _) (j4 _ _))];simp
theorem Zkg{b:Nat}(h1:env[i]?=Ya (Ya (.ref n)))(hM:M[n]?=Ya (.lst xs))(ha:env[j]?=Ya (Ya (.int (a:Int))))(hlo:∀M',lo env M'= .ok (Ya (b:Int)) M')(hz:xs.length<=10000):
  e2 aM (bj (Za i) bB (bD (Za j))) (bj (Za i) lo bB) env M= .ok (.ref (M.length+2)) (M++[.lst (xs.take a),.lst (xs.drop b),.lst (xs.take a++xs.drop b)]):=by
 have s1:bj (Za i) bB (bD (Za j)) env M= .ok (.ref M.length) (M++[.lst (xs.take a)]):=by simp only[bj,Za,bB,bD,h1,ha,R3.bind,lJ,lK,lM,lO,hM,xF,alloc]
 have s3:bj (Za i) lo bB env (M++[.lst (xs.take a)])= .ok (.ref (M.length+1)) (M++[.lst (xs.take a),.lst (xs.drop b)]):=by simp only[bj,Za,bB,h1,hlo,R3.bind,lJ,lK,lM,lO,cP hM,Jz,alloc];simp
 refine Zv s1 s3 ?_;have g1:(M++[MO.lst (xs.take a),.lst (xs.drop b)])[M.length]?=Ya (.lst (xs.take a)):=dM _ _ _;have g2:(M++[MO.lst (xs.take a),.lst (xs.drop b)])[M.length+1]?=Ya (.lst (xs.drop b)):=eZ _ _ 1;simp only[qx,qy,pg,qz,g1,g2];rw[if_pos (by simp;exact lC 3 0xf42405b21c00201010127104b002 T1 hz (tR _ _) (j4 _ _))];simp
theorem Ez{ps:Nat}{body:S3}{G:Store}{m:Nat}(h:body env M= .rt (.ref m) (M++G))(hm:M.length<=m)(hl:ds.length=ps:=by rfl)(he:ds.map Ya++Yj (n-ps) Ye=env:=by rfl):bR ps n body ds M= .ok (.ref m) (M++G):=by
 rw[lR h hl he];have:below M.length (.ref m)=false:=by simp[below];exact hm
 simp[gq,this]
theorem Zh2(roll:bJ)(ts:List bM)(h8:∀s∈ts,s.2.length=8)(h0:0<ts.length)(hz:ts.length<=1000)(n:Nat)(kind:Nat)(hk:kind<6)(c:Int)(M:Store)(hM:M[n]?=Ya (.lst (ts.map aU))):
  ∃(ts':List bM) (m:Nat) (G:Store),(∀s∈ts',s.2.length=8)/\ts'.length<=ts.length+1/\w6 [Zn roll,.ref n,.int (kind:Int),.int c] M= .ok (.ref m) (M++G)/\(M++G)[m]?=Ya (.lst (ts'.map aU)):=by
 obtain⟨a,ha,la⟩:=kO c ts.length h0;obtain⟨q,hq,lq⟩:=kO (c / 64) 8 (lN [] 0 531425 rfl);have hq':c / 64 % 8=(q:Int):=hq;have ga:cO (ts.map aU) ((a:Nat):Int)=Ya (aU ts[a]):=Eg la;have l8:=h8 _ (Y1 la);have hmem:=Y1 la;generalize hs:ts[a]=s at ga l8 hmem;obtain⟨p,bs⟩:=s;replace l8:bs.length=8:=l8;have s4:(e2 aZ (Za 3) (au bw (Zb (Za 1) (Zg)))) [Ya (Zn roll),Ya (.ref n),Ya (.int (kind:Int)),Ya (.int c),Ye,Ye,Ye,Ye,Ye] M= .ok (.int (a:Int)) M:=by simp[hM,h0,ha]
 have s5:mL (e2 Ze (Za 1) (Za 4)) (jA [5,6]) [Ya (Zn roll),Ya (.ref n),Ya (.int (kind:Int)),Ya (.int c),Ya (.int (a:Int)),Ye,Ye,Ye,Ye] M= .nx [Ya (Zn roll),Ya (.ref n),Ya (.int (kind:Int)),Ya (.int c),Ya (.int (a:Int)),Ya (.int p),Ya (Zk bs),Ye,Ye] M:=by simp[mL,hM,-sJ,ga,aU,fV]
 have s7:(e2 aZ (e2 b_ (Za 3) (eC (.int 64))) (eC (.int 8))) [Ya (Zn roll),Ya (.ref n),Ya (.int (kind:Int)),Ya (.int c),Ya (.int (a:Int)),Ya (.int p),Ya (Zk bs),Ye,Ye] M= .ok (.int (q:Int)) M:=by simp[hq']
 have spl:∀(x:bM) (b:Nat),x.2.length=8->a<=b->b<=a+1->∀(m:Nat) (G:Store),(M++G)[m]?=Ya (.lst ((ts.map aU).take a++[aU x]++(ts.map aU).drop b))->∃ts':List bM,(∀s∈ts',s.2.length=8)/\ts'.length<=ts.length+1/\(M++G)[m]?=Ya (.lst (ts'.map aU)):=λx b hx hb1 hb2 m G h=>by
  refine⟨ts.take a++[x]++ts.drop b,λs hs=>?_,by simp;exact lE 3 0xa4ca3c2c0413c2102011001 T1 hb1 (q_ _ _) (Yc (lC 2 563091983155201 T1 hb2 la)),by rw[h];simp⟩;rcases jK.mp hs with hs|hs
  .rcases jK.mp hs with hs|hs
   .exact h8 s (K4 hs)
   .rw[oX.mp hs];exact hx
  .exact h8 s (Uh hs)
 have l1:∀(env:bI),env[4]?=Ya (Ya (.int (a:Int)))->∀M',bD (e2 aM (Za 4) (eC (.int 1))) env M'= .ok (Ya ((a+1:Nat):Int)) M':=λenv h M'=>by simp[h]
 have fin:∀{m:Nat} {G:Store},QR [Ya (Zn roll),Ya (.ref n),Ya (.int (kind:Int)),Ya (.int c),Ye,Ye,Ye,Ye,Ye] M= .rt (.ref m) (M++G)->M.length<=m->(∃ts':List bM,(∀s∈ts',s.2.length=8)/\ts'.length<=ts.length+1/\(M++G)[m]?=Ya (.lst (ts'.map aU))) ->
   ∃(ts':List bM) (m:Nat) (G:Store),(∀s∈ts',s.2.length=8)/\ts'.length<=ts.length+1/\w6 [Zn roll,.ref n,.int (kind:Int),.int c] M= .ok (.ref m) (M++G)/\(M++G)[m]?=Ya (.lst (ts'.map aU)):=λ{m G} h hm ⟨ts',t8,lt,hg⟩=>⟨ts',m,G,t8,lt,Ez h hm,hg⟩
 have pre:∀{k':S3} {o:O3},k' [Ya (Zn roll),Ya (.ref n),Ya (.int (kind:Int)),Ya (.int c),Ya (.int (a:Int)),Ya (.int p),Ya (Zk bs),Ya (.int (q:Int)),Ye] M=o->Zu (ao 4 (e2 aZ (Za 3) (au bw (Zb (Za 1) (Zg))))) (Zu (mL (e2 Ze (Za 1) (Za 4)) (jA [5,6])) (Zu (ao 7 (e2 aZ (e2 b_ (Za 3) (eC (.int 64))) (eC (.int 8)))) k')) [Ya (Zn roll),Ya (.ref n),Ya (.int (kind:Int)),Ya (.int c),Ye,Ye,Ye,Ye,Ye] M=o:=λ{k' o} h=>(Zh (Zz s4)).trans ((Zh s5).trans ((Zh (Zz s7)).trans h));have kc:∀(env:bI) (v:Nat),env[2]?=Ya (Ya (.int (kind:Int)))->(e2 aC (Za 2) (eC (.int (v:Int)))) env M= .ok (.bl (decide (kind=v))) M:=λenv v h=>by
  have:((kind:Int)=(v:Int))=(kind=v):=by rw[eq_iff_iff];omega
  simp only[e2,Za,eC,h,R3.bind,aC,nR,ph,pq,pA,nT,this]
 have hlen:(ts.map aU).length<=10000:=by simp;exact lA 1 0x27104b003e83b001 T1 hz
 have kk:kind=0\/kind=1\/kind=2\/kind=3\/kind=4\/kind=5:=by omega
 rcases kk with rfl|rfl|rfl|rfl|rfl|rfl
 .obtain⟨x,hx,gx⟩:=fL l8 lq;have c1:cutD (bs.map D.int) Ye (Ya (q:Int))=(bs.take q).map D.int:=by rw[xF,Gd]
  have c2:cutD (bs.map D.int) (Ya ((q:Int)+1)) Ye=(bs.drop (q+1)).map D.int:=by rw[show((q:Int)+1)=((q+1:Nat):Int)by exact rfl,Jz,Uv]
  have z1:iJ q 8+(1:Nat)<=1000000:=lA 1 0xf42405ba0c081b001 T1 (tR _ _);have z2:iJ q 8+1+(7-q)<=1000000:=lC 2 0xf42405b2a0cc071b12c211001 T1 (q_ _ _) (Yc (lA 1 7812554010641 T1 lq));have c3:∀z:Int,List.take q (Ge D.int bs)++D.int z::List.drop (q+1) (Ge D.int bs)=Ge D.int (bs.set q z):=λz=>by rw[T7,if_pos (by exact lB 2 4927672106987569 T1 l8 lq)];simp
  have m2:fK 2 (c / 512 % 2)=true:=qO (by omega);have s8:(e2 eO (e2 aM (e2 Ze (Za 6) (Za 7)) (eC (.int 1))) (e2 gY (eC (.int 2)) (e2 aZ (e2 b_ (Za 3) (eC (.int 512))) (eC (.int 2))))) [Ya (Zn roll),Ya (.ref n),Ya (.int ((0:Nat):Int)),Ya (.int c),Ya (.int (a:Int)),Ya (.int p),Ya (Zk bs),Ya (.int (q:Int)),Ye] M= .ok (.int (x+1-2*(c / 512 % 2))) M:=by simp[Zk,-sJ,gx,m2]
  have sp:=yH (env:=[Ya (Zn roll),Ya (.ref n),Ya (.int ((0:Nat):Int)),Ya (.int c),Ya (.int (a:Int)),Ya (.int p),Ya (Zk bs),Ya (.int (q:Int)),Ya (.int (x+1-2*(c / 512 % 2)))]) (i:=1) (j:=4) (a:=a) (b:=a+1) (d:=aU (p,bs.set q (x+1-2*(c / 512 % 2)))) (E:=aR (Zb (Za 5) (Zb (e2 aM (e2 aM (bj (Za 6) (bB) (bD (Za 7))) (aR (Zb (Za 8) (Zg)))) (bj (Za 6) (bD (e2 aM (Za 7) (eC (.int 1)))) (bB))) (Zg)))) rfl hM rfl (λG=>by simp[aU,fV,Zk,c1,c2,l8,z1,z2,c3]) (l1 _ rfl) hlen;exact fin (pre (cB ((bG (kc _ 0 rfl)).trans ((Zh (Zz s8)).trans (cV sp))))) (Y6 _ _) (spl (p,bs.set q _) (a+1) (by simpa using l8) (Y6 _ _) (Yk _) _ _ (eZ _ _ 4))
 .have q0:(0:Int)<(roll.length:Int)+2:=iN [_] [] 0 565218537 T1;have sp:=yH (env:=[Ya (Zn roll),Ya (.ref n),Ya (.int ((1:Nat):Int)),Ya (.int c),Ya (.int (a:Int)),Ya (.int p),Ya (Zk bs),Ya (.int (q:Int)),Ye]) (i:=1) (j:=4) (a:=a) (b:=a+1) (d:=aU (c / 64 % ((roll.length:Int)+2)-1,bs)) (E:=aR (Zb (e2 eO (e2 aZ (e2 b_ (Za 3) (eC (.int 64))) (e2 aM (au bw (Zb (Za 0) (Zg))) (eC (.int 2)))) (eC (.int 1))) (Zb (Za 6) (Zg)))) rfl hM rfl (λG=>by
   simp[aU,fV,Zn,q0]) (l1 _ rfl) hlen
  exact fin (pre ((Zh (Zr (kc _ 0 rfl))).trans (cB ((bG (kc _ 1 rfl)).trans (cV sp))))) (Y6 _ _) (spl (_,bs) (a+1) l8 (Y6 _ _) (Yk _) _ _ (eZ _ _ 4))
 .have sl:(bj (Za 1) (bB) (bD (e1 mF (eC (.int 1))))) [Ya (Zn roll),Ya (.ref n),Ya (.int ((2:Nat):Int)),Ya (.int c),Ya (.int (a:Int)),Ya (.int p),Ya (Zk bs),Ya (.int (q:Int)),Ye] M= .ok (.ref M.length) (M++[.lst (ts.dropLast.map aU)]):=by
   have:=X_ (ts.map aU);simp only[bj,Za,bB,bD,e1,eC,Y3,Y8,R3.bind,Oz,lJ,lK,lM,lO,hM,this,alloc];rw[K8]
  exact fin (pre ((Zh (Zr (kc _ 0 rfl))).trans ((Zh (Zr (kc _ 1 rfl))).trans (cB ((bG (kc _ 2 rfl)).trans (cV sl)))))) (Yk _) ⟨ts.dropLast,λs hs=>h8 s ((List.dropLast_sublist _).subset hs),by simp;exact lA 0 178310144 T1,dM _ _ _⟩
 .have sp:=yH (env:=[Ya (Zn roll),Ya (.ref n),Ya (.int ((3:Nat):Int)),Ya (.int c),Ya (.int (a:Int)),Ya (.int p),Ya (Zk bs),Ya (.int (q:Int)),Ye]) (i:=1) (j:=4) (a:=a) (b:=a) (d:=aU (p,bs)) (E:=e2 Ze (Za 1) (Za 4)) (lo:=bD (Za 4)) rfl hM rfl (λG=>by
   simp[cP hM,-sJ,ga]) (λM'=>by exact rfl) hlen
  exact fin (pre ((Zh (Zr (kc _ 0 rfl))).trans ((Zh (Zr (kc _ 1 rfl))).trans ((Zh (Zr (kc _ 2 rfl))).trans (cB ((bG (kc _ 3 rfl)).trans (cV sp))))))) (Y6 _ _) (spl (p,bs) a l8 (Yk _) (Y6 _ _) _ _ (eZ _ _ 4))
 .have sp:=Zkg (env:=[Ya (Zn roll),Ya (.ref n),Ya (.int ((4:Nat):Int)),Ya (.int c),Ya (.int (a:Int)),Ya (.int p),Ya (Zk bs),Ya (.int (q:Int)),Ye]) (i:=1) (j:=4) (a:=a) (b:=a+1) rfl hM rfl (l1 _ rfl) hlen;refine fin (pre ((Zh (Zr (kc _ 0 rfl))).trans ((Zh (Zr (kc _ 1 rfl))).trans ((Zh (Zr (kc _ 2 rfl))).trans ((Zh (Zr (kc _ 3 rfl))).trans (cB ((bG (kc _ 4 rfl)).trans (cV sp)))))))) (Y6 _ _) ⟨ts.take a++ts.drop (a+1),λs hs=>?_,by simp;exact lD 2 0xa3c20c03a1c2c211001 T1 (q_ _ _) (Yc (lB 1 6991908881 T1 la)),?_⟩
  .rcases jK.mp hs with hs|hs
   .exact h8 s (K4 hs)
   .exact h8 s (Uh hs)
  .rw[eZ];simp
 .have z:ts.length+1<=1000000:=lA 1 0xf42405ba0c03e83b001 T1 hz;have sp:(e2 aM (Za 1) (b8 (Zb (aR (Zb (Za 5) (Zb (Za 6) (Zg)))) (Zg)))) [Ya (Zn roll),Ya (.ref n),Ya (.int ((5:Nat):Int)),Ya (.int c),Ya (.int (a:Int)),Ya (.int p),Ya (Zk bs),Ya (.int (q:Int)),Ye] M= .ok (.ref (M.length+1)) (M++[.lst [aU (p,bs)],.lst ((ts++[(p,bs)]).map aU)]):=by
   have g1:=cP hM [.lst [aU (p,bs)]];refine Zv (a:=.ref n) (b:=.ref M.length) (M1:=M) (M2:=M++[.lst [aU (p,bs)]]) rfl (by simp[aU,fV]) ?_;simp only[qx,qy,pg,qz,g1,dM];rw[if_pos (by simp;exact lA 1 0xf423f5b00f42405ba0c01 T1 z)];simp
  refine fin (pre ((Zh (Zr (kc _ 0 rfl))).trans ((Zh (Zr (kc _ 1 rfl))).trans ((Zh (Zr (kc _ 2 rfl))).trans ((Zh (Zr (kc _ 3 rfl))).trans ((Zh (Zr (kc _ 4 rfl))).trans (cV sp))))))) (Y6 _ _) ⟨ts++[(p,bs)],λs hs=>?_,by simp,eZ _ _ 1⟩;rcases jK.mp hs with hs|hs
  .exact h8 s hs
  .rw[oX.mp hs];exact l8
theorem Zor{k:Nat}(h:k<us.length):cO (us.map Zm) ((k:Nat):Int)=Ya (Zm us[k]):=by rw[mJ,Yx,Yi h];rfl
theorem xH{i j:Int}(h:0<j/\j<1073741824):b_ (.int i) (.int j) M= .ok (.int (i / j)) M:=by simp only[XC,if_pos h]
theorem Zts{i j:Int}(h:fK i j=true):gY (.int i) (.int j) M= .ok (.int (i*j)) M:=by simp only[ZpZ,Zqc,Zre,if_pos h]
theorem Az{g:iK}(h:g env M= .ok ds M')(hl:decide (ds.length<=100)=true):b8 g env M= .ok (.ref M'.length) (M'++[.lst ds]):=by have z:ds.length<=SZ:=Y4 (of_decide_eq_true hl) (by decide);simp only[b8,h,R3.bind,if_pos z,alloc]
theorem ZsO{kind x:Nat}(h:env[1]?=Ya (Ya (.int (kind:Int)))):(e2 aC (Za 1) (eC (.int (x:Int)))) env M= .ok (.bl (decide (kind=x))) M:=by have:((kind:Int)=(x:Int))=(kind=x):=propext Vg;simp only[e2,Za,eC,h,R3.bind,aC,nR,ph,pq,pA,nT,this]
theorem A_{kind x:Nat}(e:kind=x)(h:env[1]?=Ya (Ya (.int (kind:Int)))):(e2 aC (Za 1) (eC (.int (x:Int)))) env M= .ok (.bl true) M:=(ZsO h).trans (by rw[decide_eq_true e])
theorem kW{kind x:Nat}(e:¬kind=x)(h:env[1]?=Ya (Ya (.int (kind:Int)))):(e2 aC (Za 1) (eC (.int (x:Int)))) env M= .ok (.bl false) M:=(ZsO h).trans (by rw[decide_eq_false e])
theorem ZpI{g:G3}{env':bI}{M M1:Store}(h:f env M= .ok d M1)(hg:g d env=Ya env'):mL f g env M= .nx env' M1:=by rw[mL,h];simp only[hg]
theorem Zri{c:Int}(hpos:0<us.length)(ha:c % (us.length:Int)=a):aZ (.int c) (.int ((us.map Zm).length:Int)) M= .ok (.int a) M:=by rw[Yn,pB (p8.2 hpos),ha]
theorem Q9(f g h:S3)(env:bI)(M:Store):Zu (Zu f g) h env M=Zu f (Zu g h) env M:=by unfold Zu;cases f env M<;>rfl
theorem Zvm{p q r s k:S3}{env':bI}(h:Zu p (Zu q (Zu r s)) env M= .nx env' M'):Zu p (Zu q (Zu r (Zu s k))) env M=k env' M':=by
 have e:∀g:S3,Zu (Zu q (Zu r s)) k=Zu q (Zu r (Zu s k)):=λ_=>by
  funext e1 M1;rw[Q9];have z:Zu (Zu r s) k=Zu r (Zu s k):=by funext e2 M2;exact Q9 _ _ _ _ _
  rw[z]
 rw[←e p,←Q9];exact Zh h
theorem Zsc(n a:Nat)(kind:Nat)(c nu t v:Int)(w:List Nat)(M:Store):∃(x:Use) (G:Store),(Zu (ao 10 (aR (Zb (Za 4) (Zb (Za 5) (Zb (Za 6) (Zb (e2 eO (e2 aM (Za 7) (eC (.int 1))) (e2 gY (eC (.int 2)) (e2 aZ (e2 b_ (Za 2) (eC (.int 64))) (eC (.int 2))))) (Zg))))))) (Zu (aD (e2 aC (Za 1) (eC (.int 9))) (ao 10 (aR (Zb (e2 eO (e2 aM (Za 4) (eC (.int 1))) (e2 gY (eC (.int 2)) (e2 aZ (e2 b_ (Za 2) (eC (.int 64))) (eC (.int 2))))) (Zb (Za 5) (Zb (Za 6) (Zb (Za 7) (Zg))))))) (aK)) (Zu (aD (e2 aC (Za 1) (eC (.int 10))) (ao 10 (aR (Zb (Za 4) (Zb (e2 eO (e2 aZ (e2 b_ (Za 2) (eC (.int 64))) (eC (.int 70))) (eC (.int 2))) (Zb (Za 6) (Zb (Za 7) (Zg))))))) (aK)) (aD (e2 aC (Za 1) (eC (.int 11))) (ao 10 (aR (Zb (Za 4) (Zb (Za 5) (Zb (e2 Ze (b8 (Zb (eC (.str [103,101,116])) (Zb (eC (.str [115,101,116])) (Zb (eC (.str [116,101,108,108])) (Zg))))) (e2 aZ (e2 b_ (Za 2) (eC (.int 64))) (eC (.int 3)))) (Zb (Za 7) (Zg))))))) (aK))))) [Ya (.ref n),Ya (.int (kind:Int)),Ya (.int c),Ya (.int (a:Int)),Ya (.int nu),Ya (.int t),Ya (.str w),Ya (.int v),Ye,Ye,Ye] M= .nx [Ya (.ref n),Ya (.int (kind:Int)),Ya (.int c),Ya (.int (a:Int)),Ya (.int nu),Ya (.int t),Ya (.str w),Ya (.int v),Ye,Ye,Ya (Zm x)] (M++G):=by
 have q2:∀(env:bI),env[2]?=Ya (Ya (.int c))->∀x:Int,∀e:E3,(∀M,e env M= .ok (.int x) M)->∀M,(e2 eO (e2 aM e (eC (.int 1))) (e2 gY (eC (.int 2)) (e2 aZ (e2 b_ (Za 2) (eC (.int 64))) (eC (.int 2))))) env M= .ok (.int (x+1-2*(c / 64 % 2))) M:=λenv h x e he M=>Zv (Zv (he M) rfl rfl) (Zv rfl (Zv (Zv (by simp only[Za,h]) rfl (xH (by decide))) rfl (pB (by decide))) (Zts (qO (by omega)))) rfl;have s0:∀M,(aR (Zb (Za 4) (Zb (Za 5) (Zb (Za 6) (Zb (e2 eO (e2 aM (Za 7) (eC (.int 1))) (e2 gY (eC (.int 2)) (e2 aZ (e2 b_ (Za 2) (eC (.int 64))) (eC (.int 2))))) (Zg)))))) [Ya (.ref n),Ya (.int (kind:Int)),Ya (.int c),Ya (.int (a:Int)),Ya (.int nu),Ya (.int t),Ya (.str w),Ya (.int v),Ye,Ye,Ye] M= .ok (Zm ⟨nu,t,w,v+1-2*(c / 64 % 2)⟩) M:=λM=>i_ (dh rfl (dh rfl (dh rfl (dh (q2 _ rfl v (Za 7) (λ_=>rfl) M) rfl)))) rfl;by_cases k9:kind=9
 .refine⟨⟨nu+1-2*(c / 64 % 2),t,w,v⟩,[],?_⟩;rw[Yr];exact(Zh (Zz (s0 M))).trans ((Zh ((bG (A_ k9 rfl)).trans (Zz (d:=Zm ⟨nu+1-2*(c / 64 % 2),t,w,v⟩) (i_ (dh (q2 _ rfl nu (Za 4) (λ_=>rfl) M) (dh rfl (dh rfl (dh rfl rfl)))) rfl)))).trans ((Zh (Zr (kW (x:=10) (by rw[k9];decide) rfl))).trans (Zr (kW (x:=11) (by rw[k9];decide) rfl))))
 by_cases k10:kind=10
 .refine⟨⟨nu,c / 64 % 70-2,w,v⟩,[],?_⟩;rw[Yr];exact(Zh (Zz (s0 M))).trans ((Zh (Zr (kW k9 rfl))).trans ((Zh ((bG (A_ k10 rfl)).trans (Zz (d:=Zm ⟨nu,c / 64 % 70-2,w,v⟩) (i_ (dh rfl (dh (Zv (Zv (Zv rfl rfl (xH (by decide))) rfl (pB (by decide))) rfl rfl) (dh rfl (dh rfl rfl)))) rfl)))).trans (Zr (kW (x:=11) (by rw[k10];decide) rfl))))
 by_cases k11:kind=11
 .obtain⟨w3,hw3⟩:∃w,cO [D.str [103,101,116],D.str [115,101,116],D.str [116,101,108,108]] (c / 64 % 3)=Ya (.str w):=by
   obtain⟨i,e,l⟩:=kO (c / 64) 3 (by decide);rw[show c / 64 % 3=(i:Int)from e,mJ];rcases(by decide:∀i:Nat,i<3->i=0\/i=1\/i=2) i l with h|h|h<;>subst h<;>exact⟨_,rfl⟩
  refine⟨⟨nu,t,w3,v⟩,[.lst [.str [103,101,116],.str [115,101,116],.str [116,101,108,108]]],?_⟩;exact(Zh (Zz (s0 M))).trans ((Zh (Zr (kW k9 rfl))).trans ((Zh (Zr (kW k10 rfl))).trans ((bG (A_ k11 rfl)).trans (Zz (d:=Zm ⟨nu,t,w3,v⟩) (i_ (dh rfl (dh rfl (dh (Zv (Az rfl rfl) (Zv (Zv rfl rfl (xH (by decide))) rfl (pB (by decide))) (sO (dM _ _ _) hw3)) (dh rfl rfl)))) rfl)))))
 .refine⟨⟨nu,t,w,v+1-2*(c / 64 % 2)⟩,[],?_⟩;rw[Yr];exact(Zh (Zz (s0 M))).trans ((Zh (Zr (kW k9 rfl))).trans ((Zh (Zr (kW k10 rfl))).trans (Zr (kW k11 rfl))))
theorem Zio(us:List Use)(hz:us.length<64)(n:Nat)(kind:Nat)(hk:6<=kind)(hk':kind<13)(c:Int)(M:Store)(hM:M[n]?=Ya (.lst (us.map Zm))):
  ∃(us':List Use) (m:Nat) (G:Store),us'.length<=us.length+1/\xg [.ref n,.int (kind:Int),.int c] M= .ok (.ref m) (M++G)/\(M++G)[m]?=Ya (.lst (us'.map Zm)):=by
 have fin:∀{m:Nat} {G:Store},Ju [Ya (.ref n),Ya (.int (kind:Int)),Ya (.int c),Ye,Ye,Ye,Ye,Ye,Ye,Ye,Ye] M= .rt (.ref m) (M++G)->M.length<=m->(∃us':List Use,us'.length<=us.length+1/\(M++G)[m]?=Ya (.lst (us'.map Zm))) ->
   ∃(us':List Use) (m:Nat) (G:Store),us'.length<=us.length+1/\xg [.ref n,.int (kind:Int),.int c] M= .ok (.ref m) (M++G)/\(M++G)[m]?=Ya (.lst (us'.map Zm)):=λ{m G} h hm ⟨us',lt,hg⟩=>⟨us',m,G,lt,Ez h hm,hg⟩
 obtain⟨w2,hw2⟩:∃w,cO [D.str [103,101,116],D.str [115,101,116]] (c % 2)=Ya (.str w):=by
  have h:c % 2=0\/c % 2=1:=by omega
  rcases h with h|h<;>rw[h]<;>exact⟨_,rfl⟩
 by_cases h0:us.length=0
 .have e:us=[]:=List.length_eq_zero_iff.mp h0;subst e;refine fin (m:=M.length+1) (G:=[.lst [.str [103,101,116],.str [115,101,116]],.lst [Zm ⟨c % 5-2,c / 5 % 3,w2,0⟩]]) (cB ((bG (M':=M) (by simp[hM])).trans (cV ?_))) (Y6 _ _) ⟨[⟨c % 5-2,c / 5 % 3,w2,0⟩],by simp,eZ _ _ 1⟩;simp[hw2,Zm]
 .have hpos:0<us.length:=(iG (eV _) (cU h0));obtain⟨a,ha,la⟩:=kO c us.length hpos;have ga:cO (us.map Zm) ((a:Nat):Int)=Ya (Zm us[a]):=Zor la;generalize hs:us[a]=u at ga;obtain⟨nu,t,w,v⟩:=u;have s3:(e2 aZ (Za 2) (au bw (Zb (Za 0) (Zg)))) [Ya (.ref n),Ya (.int (kind:Int)),Ya (.int c),Ye,Ye,Ye,Ye,Ye,Ye,Ye,Ye] M= .ok (.int (a:Int)) M:=Zv rfl (fD rfl (mK hM)) (Zri hpos ha);have s4:mL (e2 Ze (Za 0) (Za 3)) (jA [4,5,6,7]) [Ya (.ref n),Ya (.int (kind:Int)),Ya (.int c),Ya (.int (a:Int)),Ye,Ye,Ye,Ye,Ye,Ye,Ye] M= .nx [Ya (.ref n),Ya (.int (kind:Int)),Ya (.int c),Ya (.int (a:Int)),Ya (.int nu),Ya (.int t),Ya (.str w),Ya (.int v),Ye,Ye,Ye] M:=ZpI (Zv rfl rfl (sO hM ga)) rfl;have l1:∀(env:bI),env[3]?=Ya (Ya (.int (a:Int)))->∀M',bD (e2 aM (Za 3) (eC (.int 1))) env M'= .ok (Ya ((a+1:Nat):Int)) M':=λenv h M'=>by simp[h]
  have hlen:(us.map Zm).length<=10000:=by simp;exact lA 1 0x27104b00402b011 T1 hz
  have pre:∀{k':S3} {o:O3},k' [Ya (.ref n),Ya (.int (kind:Int)),Ya (.int c),Ya (.int (a:Int)),Ya (.int nu),Ya (.int t),Ya (.str w),Ya (.int v),Ye,Ye,Ye] M=o->Zu (aD (e2 aC (au bw (Zb (Za 0) (Zg))) (eC (.int 0))) (aq (b8 (Zb (aR (Zb (e2 eO (e2 aZ (Za 2) (eC (.int 5))) (eC (.int 2))) (Zb (e2 aZ (e2 b_ (Za 2) (eC (.int 5))) (eC (.int 3))) (Zb (e2 Ze (b8 (Zb (eC (.str [103,101,116])) (Zb (eC (.str [115,101,116])) (Zg)))) (e2 aZ (Za 2) (eC (.int 2)))) (Zb (eC (.int 0)) (Zg)))))) (Zg)))) (aK)) (Zu (ao 3 (e2 aZ (Za 2) (au bw (Zb (Za 0) (Zg))))) (Zu (mL (e2 Ze (Za 0) (Za 3)) (jA [4,5,6,7])) k')) [Ya (.ref n),Ya (.int (kind:Int)),Ya (.int c),Ye,Ye,Ye,Ye,Ye,Ye,Ye,Ye] M=o:=λ{k' o} h=>(Zh (Zr (M':=M) (by simp[hM,h0]))).trans ((Zh (Zz s3)).trans ((Zh s4).trans h));by_cases k6:kind=6
  .have sp:=Zkg (env:=[Ya (.ref n),Ya (.int (kind:Int)),Ya (.int c),Ya (.int (a:Int)),Ya (.int nu),Ya (.int t),Ya (.str w),Ya (.int v),Ye,Ye,Ye]) (i:=0) (j:=3) (a:=a) (b:=a+1) rfl hM rfl (l1 _ rfl) hlen;exact fin (pre (cB ((bG (A_ k6 rfl)).trans (cV sp)))) (Y6 _ _) ⟨us.take a++us.drop (a+1),by simp;exact lD 2 0xa3c20c03a1c2c211001 T1 (q_ _ _) (Yc (lB 1 6991908881 T1 la)),by rw[eZ];simp⟩
  by_cases k7:kind=7
  .have sp:=yH (env:=[Ya (.ref n),Ya (.int (kind:Int)),Ya (.int c),Ya (.int (a:Int)),Ya (.int nu),Ya (.int t),Ya (.str w),Ya (.int v),Ye,Ye,Ye]) (i:=0) (j:=3) (a:=a) (b:=a) (d:=Zm ⟨nu,t,w,v⟩) (E:=e2 Ze (Za 0) (Za 3)) (lo:=bD (Za 3)) rfl hM rfl (λG=>by
    simp[cP hM,-sJ,ga]) (λM'=>by exact rfl) hlen
   exact fin (pre ((Zh (Zr (kW k6 rfl))).trans (cB ((bG (A_ k7 rfl)).trans (cV sp))))) (Y6 _ _) ⟨us.take a++[⟨nu,t,w,v⟩]++us.drop a,by simp;exact lD 2 0xa3ca2c0c0312c211001 T1 (q_ _ _) (Yc (tW la)),by rw[eZ];simp⟩
  by_cases k8:kind=8
  .obtain⟨b,hb,lb⟩:=kO (c / 64) us.length hpos;have gb:cO (us.map Zm) ((b:Nat):Int)=Ya (Zm us[b]):=Zor lb;have g9:(M++[MO.lst (us.map Zm)])[M.length]?=Ya (.lst (us.map Zm)):=dM _ _ _;have g9':=cP hM [.lst (us.map Zm)];refine fin (m:=M.length) (G:=[.lst (((us.set a us[b]).set b ⟨nu,t,w,v⟩).map Zm)]) (pre ((Zh (Zr (kW k6 rfl))).trans ((Zh (Zr (kW k7 rfl))).trans (cB ((bG (A_ k8 rfl)).trans ?_))))) (Yk _) ⟨(us.set a us[b]).set b ⟨nu,t,w,v⟩,by simp,dM _ _ _⟩;refine(Zh (Zz (d:=.int (b:Int)) (M':=M) (Zv (Zv rfl rfl (xH (by decide))) (fD rfl (mK hM)) (Zri hpos hb)))).trans ((Zh (Zz (d:=.ref M.length) (M':=M++[.lst (us.map Zm)]) (by simp[hM]))).trans ((Zh (env':=[Ya (.ref n),Ya (.int (kind:Int)),Ya (.int c),Ya (.int (a:Int)),Ya (.int nu),Ya (.int t),Ya (.str w),Ya (.int v),Ya (.int (b:Int)),Ya (.ref M.length),Ye]) (M':=M++[.lst (((us.set a us[b]).set b ⟨nu,t,w,v⟩).map Zm)]) ?_).trans rfl));simp[Io,wL,g9',-sJ,ga,gb,la,lb,Lg]
  have mD:=Zsc n a kind c nu t v w M;obtain⟨x,G,hx⟩:=mD;have hMG:=cP hM G;have sp:=yH (env:=[Ya (.ref n),Ya (.int (kind:Int)),Ya (.int c),Ya (.int (a:Int)),Ya (.int nu),Ya (.int t),Ya (.str w),Ya (.int v),Ye,Ye,Ya (Zm x)]) (M:=M++G) (i:=0) (j:=3) (a:=a) (b:=a+1) (d:=Zm x) (E:=Za 10) rfl hMG rfl (λG'=>by exact rfl) (l1 _ rfl) hlen;have ex:(us.map Zm).take a++[Zm x]++(us.map Zm).drop (a+1)=(us.take a++[x]++us.drop (a+1)).map Zm:=by simp
  rw[ex]at sp;have lx:(us.take a++[x]++us.drop (a+1)).length=us.length:=by simp;omega
  obtain⟨cA,l2,hs2⟩:=ZoU (us.take a++[x]++us.drop (a+1));have so:=Q8 (us:=us.take a++[x]++us.drop (a+1)) (lB 2 0x402b01402b1111021 T1 lx hz);generalize us.take a++[x]++us.drop (a+1)=xs at *;have g4:∀y1 y2 y3 y4:MO,(M++G++[y1,y2,y3,y4,.lst (xs.map Zm)])[(M++G).length+4]?=Ya (.lst (xs.map Zm)):=λy1 y2 y3 y4=>eZ _ _ 4;generalize hM5:M++G++[MO.lst ((us.map Zm).take a),.lst [Zm x],.lst ((us.map Zm).take a++[Zm x]),.lst ((us.map Zm).drop (a+1)),.lst (xs.map Zm)]=M5 at sp;have k9:M5[(M++G).length+4]?=Ya (.lst (xs.map Zm)):=by rw[←hM5];exact g4 _ _ _ _
  have l5:(M++G).length+4<M5.length:=(Yd.mp k9).1;have e5:∃G5,M5=M++G5:=⟨_,by rw[←hM5,j5]⟩;obtain⟨G5,e5⟩:=e5;obtain⟨b,hb,lb⟩:=kO (c / 4096) 2 (lN [] 0 138209 rfl);have hb':c / 4096 % 2=(b:Int):=hb;have rt:(aq (e2 Ze (b8 (Zb (Za 9) (Zb (au jN (Zb (Za 9) (Zg))) (Zg)))) (e2 aZ (e2 b_ (Za 2) (eC (.int 4096))) (eC (.int 2))))) [Ya (.ref n),Ya (.int (kind:Int)),Ya (.int c),Ya (.int (a:Int)),Ya (.int nu),Ya (.int t),Ya (.str w),Ya (.int v),Ye,Ya (.ref ((M++G).length+4)),Ya (Zm x)] M5= .rt (if b=0 then .ref ((M++G).length+4)else .ref M5.length) (M5++[.lst (cA.map Zm),.lst [.ref ((M++G).length+4),.ref M5.length]]):=by
   refine cV ?_;have bs:au jN (Zb (Za 9) (Zg)) [Ya (.ref n),Ya (.int (kind:Int)),Ya (.int c),Ya (.int (a:Int)),Ya (.int nu),Ya (.int t),Ya (.str w),Ya (.int v),Ye,Ya (.ref ((M++G).length+4)),Ya (Zm x)] M5= .ok (.ref M5.length) (M5++[.lst (cA.map Zm)]):=by refine fD (a:=.ref ((M++G).length+4)) (M1:=M5) rfl ?_;simp only[uE,k9,if_pos so,hs2,alloc]
   have ls:(b8 (Zb (Za 9) (Zb (au jN (Zb (Za 9) (Zg))) (Zg)))) [Ya (.ref n),Ya (.int (kind:Int)),Ya (.int c),Ya (.int (a:Int)),Ya (.int nu),Ya (.int t),Ya (.str w),Ya (.int v),Ye,Ya (.ref ((M++G).length+4)),Ya (Zm x)] M5= .ok (.ref (M5.length+1)) (M5++[.lst (cA.map Zm),.lst [.ref ((M++G).length+4),.ref M5.length]]):=by generalize au jN (Zb (Za 9) (Zg))=E at bs;simp only[b8,Zb,Zg,R3.bind,bs,Za,Y3,Y8];simp
   have gl:(M5++[MO.lst (cA.map Zm),.lst [.ref ((M++G).length+4),.ref M5.length]])[M5.length+1]?=Ya (.lst [.ref ((M++G).length+4),.ref M5.length]):=eZ _ _ 1;refine Zv (b:=.int (b:Int)) (M2:=M5++[.lst (cA.map Zm),.lst [.ref ((M++G).length+4),.ref M5.length]]) ls (by simp[hb']) ?_;have hbb:b=0\/b=1:=by omega
   rcases hbb with rfl|rfl
   .simp only[nU,nW,nY,nZ,gl];rfl
   .simp only[nU,nW,nY,nZ,gl];rfl
  have all:Ju [Ya (.ref n),Ya (.int (kind:Int)),Ya (.int c),Ye,Ye,Ye,Ye,Ye,Ye,Ye,Ye] M= .rt (if b=0 then .ref ((M++G).length+4)else .ref M5.length) (M++(G5++[.lst (cA.map Zm),.lst [.ref ((M++G).length+4),.ref M5.length]])):=by rw[←j5,←e5];exact pre ((Zh (Zr (kW k6 rfl))).trans ((Zh (Zr (kW k7 rfl))).trans ((Zh (Zr (kW k8 rfl))).trans ((Zvm hx).trans ((Zh (Zz sp)).trans rt)))))
  have hbb:b=0\/b=1:=by omega
  rcases hbb with rfl|rfl
  .rw[if_pos rfl]at all;exact fin all (by simp;exact lB 0 17633954816 T1) ⟨xs,lB 1 43419439137 T1 lx,by rw[←j5,←e5];exact cP k9 _⟩
  .rw[if_neg (by exactλz=>lN [] 1 453153 rfl z)]at all;exact fin all (by rw[e5];simp) ⟨cA,lC 2 0xa2c0021211021 T1 l2 lx,by rw[←j5,←e5];exact dM _ _ _⟩
theorem Zhr(roll:bJ)(ts:List bM)(h8:∀s∈ts,s.2.length=8)(hz:ts.length<=1000)(us:List Use)(hu:us.length<64)(n1 n2:Nat)(c:Int)(M:Store)(h1:M[n1]?=Ya (.lst (ts.map aU)))(h2:M[n2]?=Ya (.lst (us.map Zm))):
  ∃(ts':List bM) (us':List Use) (m1 m2 m:Nat) (G:Store),(∀s∈ts',s.2.length=8)/\ts'.length<=ts.length+1/\us'.length<=us.length+1/\xj [Zn roll,.ref n1,.ref n2,.int c] M= .ok (.ref m) (M++G)/\(M++G)[m]?=Ya (.lst [.ref m1,.ref m2])/\(M++G)[m1]?=Ya (.lst (ts'.map aU))/\(M++G)[m2]?=Ya (.lst (us'.map Zm)):=by
 obtain⟨k,hk,lk⟩:=kO c 13 (lN [] 0 859105 rfl);have hk':c % 13=(k:Int):=hk;have fin:∀{m:Nat} {G:Store} (ts':List bM) (us':List Use) (m1 m2:Nat),(∀s∈ts',s.2.length=8)->ts'.length<=ts.length+1->us'.length<=us.length+1->QS [Ya (Zn roll),Ya (.ref n1),Ya (.ref n2),Ya (.int c),Ye,Ye] M= .rt (.ref m) (M++G)->M.length<=m->(M++G)[m]?=Ya (.lst [.ref m1,.ref m2])->(M++G)[m1]?=Ya (.lst (ts'.map aU))->(M++G)[m2]?=Ya (.lst (us'.map Zm)) ->
   ∃(ts':List bM) (us':List Use) (m1 m2 m:Nat) (G:Store),(∀s∈ts',s.2.length=8)/\ts'.length<=ts.length+1/\us'.length<=us.length+1/\xj [Zn roll,.ref n1,.ref n2,.int c] M= .ok (.ref m) (M++G)/\(M++G)[m]?=Ya (.lst [.ref m1,.ref m2])/\(M++G)[m1]?=Ya (.lst (ts'.map aU))/\(M++G)[m2]?=Ya (.lst (us'.map Zm)):=
  λ{m G} ts' us' m1 m2 t8 lt lu h hm g0 g1 g2=>⟨ts',us',m1,m2,m,G,t8,lt,lu,Ez h hm,g0,g1,g2⟩
 have pre:∀{k':S3} {o:O3},k' [Ya (Zn roll),Ya (.ref n1),Ya (.ref n2),Ya (.int c),Ya (.int (k:Int)),Ya (.int (c / 13))] M=o->Zu (ao 4 (e2 aZ (Za 3) (eC (.int 13)))) (Zu (ao 5 (e2 b_ (Za 3) (eC (.int 13)))) k') [Ya (Zn roll),Ya (.ref n1),Ya (.ref n2),Ya (.int c),Ye,Ye] M=o:=λ{k' o} h=>(Zh (Zz (d:=.int (k:Int)) (M':=M) (by simp[hk']))).trans ((Zh (Zz (d:=.int (c / 13)) (M':=M) (by simp))).trans h);by_cases k6:k<6
 .have Ba:(k:Int)<6:=iN [_] [] 1 0x61b08961b011 T1 k6;by_cases h0:0<ts.length
  .obtain⟨ts',m,G,t8,lt,hc,hg⟩:=Zh2 roll ts h8 h0 hz n1 k k6 (c / 13) M h1;refine fin (m:=(M++G).length) (G:=G++[.lst [.ref m,.ref n2]]) ts' us m n2 t8 lt (Y6 _ _) (pre (cB ((bG (M':=M) (by simp[Ba,h1,h0])).trans (cV ?_)))) (by simp) (by rw[←j5];exact dM _ _ _) (by rw[←j5];exact cP hg _) (cP h2 _);have cl:(aH w6 (Zb (Za 0) (Zb (Za 1) (Zb (Za 4) (Zb (Za 5) (Zg)))))) [Ya (Zn roll),Ya (.ref n1),Ya (.ref n2),Ya (.int c),Ya (.int (k:Int)),Ya (.int (c / 13))] M= .ok (.ref m) (M++G):=yW rfl rfl rfl rfl hc;generalize(aH w6 (Zb (Za 0) (Zb (Za 1) (Zb (Za 4) (Zb (Za 5) (Zg))))))=E at cl;simp only[b8,Zb,Zg,R3.bind,cl,Za,Y3,Y8];simp
  .refine fin (m:=M.length) (G:=[.lst [.ref n1,.ref n2]]) ts us n1 n2 h8 (Y6 _ _) (Y6 _ _) (pre ((Zh (Zr (M':=M) (by simp[Ba,h1,h0]))).trans (cB ((bG (M':=M) (by simp[Ba])).trans (cV (by simp)))))) (Yk _) (dM _ _ _) (cP h1 _) (cP h2 _)
 .have Ba:¬(k:Int)<6:=(λz=>iN [_] [] 2 0x661b05161b0891 T1 z k6);obtain⟨us',m,G,lu,hc,hg⟩:=Zio us hu n2 k (iH k6) lk (c / 13) M h2;refine fin (m:=(M++G).length) (G:=G++[.lst [.ref n1,.ref m]]) ts us' n1 m h8 (Y6 _ _) lu (pre ((Zh (Zr (M':=M) (by simp[Ba]))).trans ((Zh (Zr (M':=M) (by simp[Ba]))).trans (cV ?_)))) (by simp) (by rw[←j5];exact dM _ _ _) (cP h1 _) (by rw[←j5];exact cP hg _);have cl:(aH xg (Zb (Za 2) (Zb (Za 4) (Zb (Za 5) (Zg))))) [Ya (Zn roll),Ya (.ref n1),Ya (.ref n2),Ya (.int c),Ya (.int (k:Int)),Ya (.int (c / 13))] M= .ok (.ref m) (M++G):=jC rfl rfl rfl hc;generalize(aH xg (Zb (Za 2) (Zb (Za 4) (Zb (Za 5) (Zg)))))=E at cl;simp only[b8,Zb,Zg,R3.bind,cl,Za,Y3,Y8];simp
noncomputable def kY(r:Row)(t:Nat)(s:cW):Option Use:=match r with
 | .get _ b=>Ya ⟨s.aF.getD b 0,(t:Int),GET,dG s.cells (s.aF.getD b 0)⟩|.set a b=>Ya ⟨s.aF.getD a 0,(t:Int),SET,s.aF.getD b 0⟩|_=>Ye
noncomputable def jn(roll:bJ)(ss:List cW)(t:Nat):Option Use:=(ss[t]?).bind λs=>(roll[s.place]?).bind λr=>kY r t s
noncomputable def h_(roll:bJ)(ss:List cW)(m:Nat):List Use:=(dm m).filterMap (jn roll ss)
theorem JF(roll:bJ)(ss:List cW)(m:Nat):h_ roll ss (m+1)=h_ roll ss m++(jn roll ss m).toList:=by unfold h_;rw[Lf,KZ];cases h:jn roll ss m<;>simp[h]
variable{s:cW}{u:Use}
theorem Zpr{t:Nat}(h:kY r t s=Ya u):u.time=t:=by cases r<;>simp[kY]at h<;>rw[←h]
variable{ss:List cW}
theorem Bb{t:Nat}(h:jn roll ss t=Ya u):u.time=t:=by
 unfold jn at h;cases h1:ss[t]? with
 |none=>rw[h1]at h;cases h|some s=>
  rw[h1]at h;simp only[iV]at h;cases h2:roll[s.place]? with
  |none=>rw[h2]at h;cases h|some r=>rw[h2]at h;exact Zpr h
theorem JG:∀{m:Nat} {u:Use},u∈h_ roll ss m->∃t,t<m/\jn roll ss t=Ya u:=λ{m u} h=>by unfold h_ at h;obtain⟨t,ht,e⟩:=xV.mp h;exact⟨t,pR.mp ht,e⟩
theorem EY(roll:bJ)(ss:List cW):∀m,(h_ roll ss m).Pairwise λa b=>a.time<b.time
 |0=>by simp[h_]|m+1=>by
  rw[JF];refine rn.mpr ⟨EY roll ss m,by cases jn roll ss m<;>simp,λa ha b hb=>?_⟩;obtain⟨t,ht,e⟩:=JG ha;have e':jn roll ss m=Ya b:=by
   cases h:jn roll ss m with
   |none=>rw[h]at hb;cases hb|some c=>rw[h]at hb;simp at hb;rw[hb]
  have h1:=Bb e;have h2:=Bb e';omega
theorem ZkK(roll:bJ)(ss:List cW)(t:Nat):∀m,t<=m->(h_ roll ss m).filter (λu=>decide (u.time<(t:Int)))=h_ roll ss t
 | m,h=>by
  induction m with
  |zero=>
   have:t=0:=by omega
   subst this;rfl
  | succ m ih=>
   by_cases c:t=m+1
   .subst c;rw[K6];intro u hu;obtain⟨k,hk,e⟩:=JG hu;have:=Bb e;exact decide_eq_true (by omega)
   .rw[JF,tZ,ih (by omega)];cases h:jn roll ss m with
    |none=>simp|some u=>
     have:=Bb h;have n:¬u.time<(t:Int):=by omega
     simp[n]
noncomputable def lY(t:List (Int×Int))(us:List Use):List (Int×Int):=us.foldl (λt u=>iT t u.num u.val) t
theorem Q_:∀(us:List Use) (t:List (Int×Int)),keysOk t->keysOk (lY t us)
 |[],t,h=>h|u::us,t,h=>Q_ us _ (Dt u.num u.val h)
theorem JH{t:List (Int×Int)}(h:keysOk t)(n v m:Int):dG (iT t n v) m=if m=n then v else dG t m:=by
 have e:=Ii (iT t n v) m;rw[←YM,YW]at e;by_cases c:m=n
 .rw[if_pos (by rw[c])]at e;rw[if_pos c];simpa using e.symm
 .rw[if_neg (by simp[c]),Ii]at e;rw[if_neg c];simpa using e.symm
noncomputable def E_(d:Int):List Use->Int
 |[]=>d|u::us=>E_ u.val us
theorem JK(n:Int):∀(us:List Use) (t:List (Int×Int)),keysOk t->dG (lY t us) n=E_ (dG t n) (us.filter λu=>decide (u.num=n))
 |[],t,_=>rfl|u::us,t,h=>by
  have ih:=JK n us (iT t u.num u.val) (Dt _ _ h);rw[JH h]at ih;show dG (lY (iT t u.num u.val) us) n=_;by_cases c:u.num=n
  .rw[ih,if_pos c.symm,nq (by simpa using c)];rfl
  .rw[ih,if_neg (λz=>c z.symm),oW (by simpa using c)]
theorem Zj0:∀{x y:List Use},x.Perm y->x.Pairwise (λa b=>a.time<b.time)->y.Pairwise (λa b=>a.time<=b.time)->x=y
 |[],y,p,_,_=>(Uw.mp p).symm|a::x,[],p,_,_=>absurd p.length_eq (by simp)|a ::x,b::y,p,hx,hy=>by
  have hx':=iW.mp hx;have hy':=iW.mp hy;have e:a=b:=by
   rcases Y7.mp (p.mem_iff.mp Ym)with e|e
   .exact e
   .rcases Y7.mp (p.mem_iff.mpr Ym)with e'|e'
    .exact e'.symm
    .have h1:=hy'.1 a e;have h2:=hx'.1 b e';omega
  subst e;rw[Zj0 (Nj p) hx'.2 hy'.2]
structure qU(us cA:List Use):Prop where
 perm:cA.Perm us
 ord:cA.Pairwise λa b=>a.num<b.num\/(a.num=b.num/\a.time<=b.time)
variable{cA:List Use}
theorem qU.Abg(S:qU us cA)(h:us.Pairwise λa b=>a.time<b.time)(n:Int):cA.filter (λu=>decide (u.num=n))=us.filter λu=>decide (u.num=n):=by
 refine(Zj0 ((S.perm.filter _).symm) (h.filter _) ?_).symm;have h2:=S.ord.filter (λu=>decide (u.num=n));refine V2 ?_ h2;intro a b ha hb hab;have e1:a.num=n:=by simpa using(iY.mp ha).2
 have e2:b.num=n:=by simpa using(iY.mp hb).2
 omega
theorem Zi8(us:List Use)(hl:us.length<64):∃cA:List Use,qU us cA/\wB (us.map Zm)=cA.map Zm:=by
 have ins:∀(u:Use) (l:List Use),∃l':List Use,l'.Perm (u::l)/\((l.map Zm).Pairwise wA->(l'.map Zm).Pairwise wA):=λu l=>by
  have tot:∀a b:Use,gQ (Zm a) (Zm b)=Ya false\/gQ (Zm b) (Zm a)=Ya false:=λa b=>by
   have:(gQ (Zm a) (Zm b)).isSome=true:=(Q8 (us:=[a,b]) (by simp)).cmp _ (by simp) _ (by simp);cases h:gQ (Zm a) (Zm b)with
   |none=>rw[h]at this;cases this|some c=>cases c with
    |false=>exact .inl rfl|true=>exact .inr (Ph h)
  induction l with
  |nil=>exact⟨[u],.refl _,λ_=>by simp⟩|cons v l ih=>
   obtain⟨l',p,h⟩:=ih;rcases tot v u with c|c
   .refine⟨u::v::l,.refl _,λhp=>?_⟩;rw[Yy];refine iW.mpr ⟨λd hd=>?_,hp⟩;rw[Yy]at hd hp;rcases Y7.mp hd with e|e
    .subst e;exact c
    .exact X4 c ((iW.mp hp).1 d e)
   .refine⟨v::l',(p.cons v).trans (.swap u v l),λhp=>?_⟩;rw[Yy]at hp;have hp':=iW.mp hp;rw[Yy];refine iW.mpr ⟨λd hd=>?_,h hp'.2⟩;have:d∈(u::l).map Zm:=(p.map Zm).mem_iff.mp hd;rw[Yy]at this;rcases Y7.mp this with e|e
    .subst e;exact c
    .exact hp'.1 d e
 have ex:∀l:List Use,∃l':List Use,l'.Perm l/\(l'.map Zm).Pairwise wA:=λl=>by
  induction l with
  |nil=>exact⟨[],.refl _,by simp⟩|cons u l ih=>obtain⟨l',p,h⟩:=ih;obtain⟨l2,p2,h2⟩:=ins u l';exact⟨l2,p2.trans (p.cons u),h2 h⟩
 obtain⟨cA,p,h⟩:=ex us;refine⟨cA,⟨p,?_⟩,Pj ⟨p.map _,h⟩⟩;rw[Bs]at h;refine h.imp λ{a b} h=>?_;have h':iZ [.int b.num,.int b.time,.str b.word,.int b.val] [.int a.num,.int a.time,.str a.word,.int a.val]=Ya false:=h;simp only[sH,sI]at h';by_cases c:b.num=a.num
 .rw[if_pos c]at h';right;refine⟨c.symm,?_⟩;by_cases c2:b.time=a.time
  .omega
  .rw[if_neg c2]at h';simp at h';exact h'
 .rw[if_neg c]at h';simp at h';left;omega
def Chain(roll:bJ)(ss:List cW):Prop:=∀(i:Nat) s s',ss[i]?=Ya s->ss[i+1]?=Ya s'->gU roll s=Ya s'
theorem Zka(roll:bJ)(k:Nat)(s:cW):(cY roll k s)[0]?=Ya s:=by
 cases k with
 |zero=>rfl|succ k=>unfold cY;split <;>rfl
theorem ZiQ(roll:bJ):∀(k:Nat) (s:cW),Chain roll (cY roll k s)
 |0,s,i,a,b,h1,h2=>by simp[cY]at h2|k+1,s,i,a,b,h1,h2=>by
  unfold cY at h1 h2;split at h1
  .rename_i q;rw[q]at h2;simp at h2
  .rename_i s' q;rw[q]at h2;simp only[Y3]at h2;cases i with
   |zero=>simp at h1;subst h1;rw[Zka]at h2;cases h2;exact q|succ i=>exact ZiQ roll k s' i a b (by simpa using h1) h2
theorem ZhB{cs:List (Int×Int)}(h:iB cs)(n v m:Int):dG (qF cs n v) m=if m=n then v else dG cs m:=by
 have K:=(Px (n:=n) (v:=v) h).keys;by_cases c:m=n
 .subst c;rw[if_pos rfl];by_cases z:v=0
  .subst z;refine wI λq=>?_;obtain⟨p,hp,e⟩:=nC.mp q;have e:p.1=m:=by simpa using e
   rcases yZ.mp hp with⟨_,h2⟩|⟨h1,_⟩
   .exact h2 rfl
   .exact h1 e
  .exact uK K (yZ.mpr (.inl ⟨rfl,z⟩))
 .rw[if_neg c];by_cases a:(cs.any λp=>decide (p.1=m))=true
  .obtain⟨p,hp,e⟩:=nC.mp a;have e:p.1=m:=by simpa using e
   obtain⟨x,y⟩:=p;simp only at e;subst e;rw[uK h.keys hp];exact uK K (yZ.mpr (.inr ⟨c,hp⟩))
  .rw[wI a];refine wI λq=>?_;obtain⟨p,hp,e⟩:=nC.mp q;have e:p.1=m:=by simpa using e
   rcases yZ.mp hp with⟨h1,_⟩|⟨_,h2⟩
   .rw[h1]at e;exact c e.symm
   .exact a (nC.mpr ⟨p,h2,by simpa using e⟩)
def Zw2(cs:List (Int×Int)):Prop:=∀p∈cs,p.2≠0
theorem ZmW{s':cW}(hr:roll[s.place]?=Ya r)(h:gU roll s=Ya s'):s'.cells=r.cells s.aF s.cells:=by
 unfold gU at h;rw[hr]at h;simp only[iV,oA]at h;split at h
 .cases h
 .cases h;rfl
theorem ZkA{roll:bJ}{ss:List cW}(C:Chain roll ss)(G:∀s∈ss,Good roll s)(h0:∀s,ss[0]?=Ya s->s.cells=[]):∀(t:Nat) (s:cW),ss[t]?=Ya s->Zw2 s.cells/\∀n,dG s.cells n=dG (lY [] (h_ roll ss t)) n
 |0,s,h=>by rw[h0 s h];exact⟨λp hp=>(by cases hp),λn=>rfl⟩|t+1,s',h'=>by
  have ht:t<ss.length:=by have:=(Yd.mp h').1;omega
  have h:ss[t]?=Ya ss[t]:=by simp[ht]
  have g:=G _ (Y1 ht);generalize ss[t]=s at h g;obtain⟨nz,ih⟩:=ZkA C G h0 t s h;have gp:=g.pl;have hr:roll[s.place]?=Ya roll[s.place]:=by simp[gp]
  generalize roll[s.place]=r at hr;have ec:=ZmW hr (C t s s' h h');have ea:jn roll ss t=kY r t s:=by simp[jn,h,hr]
  have kk:keysOk (lY [] (h_ roll ss t)):=Q_ _ _ (by simp[keysOk]);have add:∀u:Use,ea=ea->lY [] (h_ roll ss t++[u])=iT (lY [] (h_ roll ss t)) u.num u.val:=λu _=>by simp[lY]
  rw[ec,JF,ea];cases r with
  |get a b=>
   refine⟨nz,λn=>?_⟩;simp only[Row.cells,kY,Ft];rw[add _ rfl,JH kk];by_cases c:n=s.aF.getD b 0
   .rw[if_pos c,c]
   .rw[if_neg c];exact ih n
  | set a b=>
   simp only[Row.cells,kY,Ft];refine⟨λp hp=>?_,λn=>?_⟩
   .rcases yZ.mp hp with⟨h1,h2⟩|⟨_,h2⟩
    .rw[h1];exact h2
    .exact nz p h2
   .rw[add _ rfl,JH kk,ZhB g.rs];by_cases c:n=s.aF.getD a 0
    .rw[if_pos c,if_pos c]
    .rw[if_neg c,if_neg c];exact ih n
  |_=>simp only[Row.cells,kY,Option.toList_none,Yr];exact⟨nz,ih⟩
theorem ZqQ:∀(p q:List Use) (u:Use),(p++u::q).Pairwise (λa b=>a.time<b.time)->(p++u::q).filter (λv=>decide (v.time<u.time))=p:=λp q u h=>by
 obtain⟨h1,h2,h3⟩:=rn.mp h;rw[tZ,K6.mpr (λv hv=>decide_eq_true (h3 v hv u Ym)),xU.mpr,Yr];intro v hv;rcases Y7.mp hv with e|e
 .subst e;simp
 .have:=(iW.mp h2).1 v e;simp;omega
theorem Zq4(C:Chain roll ss)(G:∀s∈ss,Good roll s)(h0:∀s,ss[0]?=Ya s->s.cells=[])(S:qU (h_ roll ss (ss.length-1)) cA){p q:List Use}(e:cA=p++u::q)(hw:u.word=GET):u.val=dG (lY [] p) u.num:=by
 have k0:keysOk ([]:List (Int×Int)):=by simp[keysOk]
 have hu:u∈h_ roll ss (ss.length-1):=S.perm.mem_iff.mp (by rw[e];simp);obtain⟨t,ht,ea⟩:=JG hu;have tm:=Bb ea;have h:ss[t]?=Ya ss[t]:=by simp
 obtain⟨_,el⟩:=ZkA C G h0 t _ h;have F:=S.Abg (EY roll ss _) u.num;have P:=(EY roll ss (ss.length-1)).filter λv=>decide (v.num=u.num);rw[←F]at P;have F2:cA.filter (λv=>decide (v.num=u.num))=p.filter (λv=>decide (v.num=u.num))++u::q.filter λv=>decide (v.num=u.num):=by rw[e,tZ,nq (by simp)]
 rw[F2]at P;have cut:=ZqQ _ _ u P;rw[←F2,F,Uk]at cut;rw[JK _ _ _ k0,←cut];have e2:=el u.num;rw[JK _ _ _ k0,←ZkK roll ss t (ss.length-1) (by omega),Uk,←tm]at e2;rw[show(λa:Use=>decide (a.time<u.time)&&decide (a.num=u.num))=λa=>decide (a.num=u.num)&&decide (a.time<u.time)from funext λa=>Bool.and_comm _ _];rw[←e2];unfold jn at ea;rw[h]at ea;simp only[iV]at ea;cases h2:roll[ss[t].place]? with
 |none=>rw[h2]at ea;cases ea|some r=>
  rw[h2]at ea;simp only[iV]at ea;cases r<;>simp only[kY,reduceCtorEq,nD]at ea
  .exact(congrArg Use.val ea).symm.trans (congrArg (dG _) (congrArg Use.num ea))
  .rw[←ea]at hw;simp at hw
theorem Ra{s':cW}(hr:roll[s.place]?=Ya r)(h:gU roll s=Ya s'):s'.aF=r.aF s.aF s.cells:=by
 unfold gU at h;rw[hr]at h;simp only[iV,oA]at h;split at h
 .cases h
 .cases h;rfl
noncomputable def cg(s:cW):bM:=((s.place:Int),s.aF)
theorem ZpK(R:eU roll){s':cW}(g:Good roll s)(h:gU roll s=Ya s'):qQ roll (s.place:Int) s.aF (s'.place:Int) s'.aF=true:=by
 have gp:=g.pl;have hr:roll[s.place]?=Ya roll[s.place]:=by simp[gp]
 have ro:=R.rows _ (Y1 gp);have eb:=Ra hr h;generalize roll[s.place]=r at hr ro eb;have nh:r.eF=false/\s'.place=r.place s.aF s.place:=by
  unfold gU at h;rw[hr]at h;simp only[iV,oA]at h;split at h
  .cases h
  .rename_i q;cases h;exact⟨by simpa using q,rfl⟩
 unfold qQ;rw[if_pos ⟨by omega,by omega⟩,o4,hr];simp only[nh.1,jr,if_false,nh.2,decide_true,yr,decide_eq_true_eq];rw[eb];cases r with
 |get a b=>simp only[Row.aF,qP,oV];rw[Y2 (by rw[g.bx];exact ro.1)];rfl|_=>rfl
theorem ZnK(R:eU roll)(C:Chain roll ss)(G:∀s∈ss,Good roll s):pP roll (ss.map cg)=Ye:=by unfold pP;rw[Uj];intro k hk;rw[Yn,pR]at hk;have i0:ss[k]?=Ya (ss[k]'(by omega)):=Yi _;have i1:ss[k+1]?=Ya (ss[k+1]'(by omega)):=Yi _;have f:=ZpK R (G _ (jo i0)) (C k _ _ i0 i1);unfold tG;rw[Yx,Yx,i0,i1];simp only[vh,cg,f];decide
theorem Znc(R:eU roll)(C:Chain roll ss)(G:∀s∈ss,Good roll s){bs:List Int}(h0:ss[0]?=Ya ⟨0,bs,[]⟩)(hl:ss.getLast?=Ya s):
  jX roll bs (ss.map cg)=if jB roll s then Ye else Ya (END,ss.length-1):=by
 have F:=ZnK R C G
 match ss,h0 with
 | a::ss,h0=>
  have ea:a=⟨0,bs,[]⟩:=by simpa using h0
  rw[Yy]at F ⊢;have e:(cg a::ss.map cg).getLastD (0,[])=cg s:=by have:=congrArg (Option.map cg) hl;rw[←K9,Yy,vh]at this;rw[Fz,this];rfl
  have g:=G s (K5 hl);have gp:=g.pl;have hr:roll[s.place]?=Ya roll[s.place]:=by simp[gp]
  have hh:lX roll (cg s).1=jB roll s:=by unfold lX;rw[show(cg s).1=((s.place:Nat):Int)from rfl,m7 hr];unfold jB;rw[hr]
  have na:¬cg a≠(0,bs):=by rw[ea];simp[cg]
  unfold jX;dsimp only;rw[if_neg na,F];simp only[e,hh,gW,Yn]
theorem ZtZ(R:eU roll)(C:Chain roll ss)(G:∀s∈ss,Good roll s)(hu:u∈h_ roll ss (ss.length-1)):jl roll (ss.map cg) u=true:=by
 obtain⟨t,ht,ea⟩:=JG hu;have tm:=Bb ea;have i0:ss[t]?=Ya (ss[t]'(by omega)):=Yi _;have i1:ss[t+1]?=Ya (ss[t+1]'(by omega)):=Yi _;have sp:=C t _ _ i0 i1;have g:=G _ (jo i0);generalize ss[t]'(by omega)=s at i0 sp g;generalize ss[t+1]'(by omega)=s' at i1 sp;have gp:=g.pl;have hr:roll[s.place]?=Ya roll[s.place]:=by simp[gp]
 have ro:=R.rows _ (Y1 gp);have eb:=Ra hr sp;generalize roll[s.place]=r at hr ro eb;have eu:kY r t s=Ya u:=by
  have:jn roll ss t=kY r t s:=by simp[jn,i0,hr]
  rw[←this];exact ea
 unfold jl;rw[if_pos ⟨by omega,by rw[Yn];omega⟩,show u.time.toNat=t by omega,Yx,Yx,i0,i1];simp only[vh,cg,m7 hr];cases r<;>simp only[kY,reduceCtorEq,nD]at eu
 .rename_i a b;subst eu;simp only[tE,decide_true,yr,decide_eq_true_eq,eb,Row.aF,oV];rw[Y2 (by rw[g.bx];exact ro.1)];rfl
 .subst eu;simp[tE]
theorem Zid{α:Type}{p:α->Bool}:∀{xs:List α} {k:Nat},(∀x∈xs,p x=true)->mX p xs k=Ye
 |[],_,_=>rfl|x::xs,k,h=>by unfold mX;rw[if_pos (h x Ym)];exact Zid λy hy=>h y (Yu _ hy)
theorem Zsn(G:∀s∈ss,Good roll s):(jY roll (ss.map cg)).length=(h_ roll ss (ss.length-1)).length:=by
 have one:∀s∈ss,∀t,(match gD roll (cg s).1 with|some r=>qT r|none=>false)=((roll[s.place]?).bind λr=>kY r t s).isSome:=λs hs t=>by
  have gp:=(G s hs).pl;have hr:roll[s.place]?=Ya roll[s.place]:=by simp[gp]
  rw[show(cg s).1=((s.place:Nat):Int)from rfl,m7 hr,hr];generalize roll[s.place]=r;cases r<;>rfl
 have gen:∀m,m<=ss.length->(((ss.take m).map cg).filter λs=>match gD roll s.1 with|some r=>qT r|none=>false).length=(h_ roll ss m).length:=λm=>by
  induction m with
  |zero=>intro _;rfl|succ m ih=>
   intro hm;have i0:ss[m]?=Ya (ss[m]'(by omega)):=Yi _;rw[JF,Y5,←ih (by omega),Uo,i0];have o:=one _ (jo i0) m;generalize ss[m]'(by omega)=s at i0 o;have ea:jn roll ss m=(roll[s.place]?).bind λr=>kY r m s:=by simp[jn,i0]
   rw[ea,Ga,tZ,Y5];congr 1;simp only[Ft,Yy,yc];cases q:(roll[s.place]?).bind λr=>kY r m s with
   |none=>rw[q]at o;rw[oW (by rw[o];decide)];rfl|some u=>rw[q]at o;rw[nq (by rw[o];rfl)];rfl
 unfold jY;rw[←K8,KY];exact gen _ (by omega)
theorem Zjc{cA:List Use}(ord:cA.Pairwise λa b=>a.num<b.num\/(a.num=b.num/\a.time<b.time))(told:∀p u q,cA=p++u::q->u.word=GET->u.val=dG (lY [] p) u.num):∀(rs p:List Use) (k:Nat),cA=p++rs->jW p.getLast? rs k=Ye
 |[],_,_,_=>rfl|u ::rs,p,k,e=>by
  have nx:=Zjc ord told rs (p++[u]) (k+1) (by rw[e];simp);rw[FW]at nx;have fit:qR p.getLast? u=true:=by
   have tu:=told p u rs e;rw[e]at ord;obtain⟨o1,_,o3⟩:=rn.mp ord;have k0:keysOk ([]:List (Int×Int)):=by simp[keysOk]
   rcases K1 p with q|⟨p0,a,q⟩<;>try rw[K3]at q
   .subst q;by_cases c:u.word=GET
    .simp[qR,c,tu c,lY,dG]
    .simp[qR,c]
   .subst q;have oa:=o3 a (by simp) u Ym;rw[FW];unfold qR;dsimp only;rw[if_neg (by omega)];by_cases c:u.word=GET
    .rw[if_neg (by simp[c])];have tv:=tu c;have eh:lY [] (p0++[a])=iT (lY [] p0) a.num a.val:=by simp[lY]
     rw[eh,JH (Q_ p0 [] k0)]at tv;by_cases d:a.num=u.num
     .rw[if_pos d];rw[if_pos d.symm]at tv;exact decide_eq_true tv
     .rw[if_neg d];rw[if_neg (λz=>d z.symm),JK _ _ _ k0,xU.mpr]at tv
      .exact decide_eq_true tv
      .intro b hb;have ob:=(rn.mp o1).2.2 b hb a (by simp);simp only[decide_eq_true_eq];omega
    .rw[if_pos c]
  unfold jW;rw[if_pos fit];exact nx
theorem Znl(R:eU roll)(C:Chain roll ss)(G:∀s∈ss,Good roll s)(h0:∀s,ss[0]?=Ya s->s.cells=[])(S:qU (h_ roll ss (ss.length-1)) cA):xG roll (ss.map cg) cA=Ye:=by
 have ne:cA.Pairwise λa b=>a.time≠b.time:=by
  have h:=EY roll ss (ss.length-1);have h':(h_ roll ss (ss.length-1)).Pairwise λa b=>a.time≠b.time:=h.imp λ{a b} q=>by omega
  exact(S.perm.pairwise_iff (λ{a b} q=>cU q)).mpr h'
 have ord:cA.Pairwise λa b=>a.num<b.num\/(a.num=b.num/\a.time<b.time):=(S.ord.and ne).imp λ{a b} q=>by obtain⟨q1,q2⟩:=q;omega
 have u1:=Zjc ord (λp u q e hw=>Zq4 C G h0 S e hw) cA [] 0 rfl;rw[List.getLast?_nil]at u1;unfold xG;rw[u1];dsimp only;rw[Zid λu hu=>ZtZ R C G (S.perm.mem_iff.mp hu)];dsimp only;rw[if_neg];rw[Zsn G,S.perm.length_eq];exactλq=>q rfl
abbrev u5(a b:Use):Prop:=a.num<b.num\/(a.num=b.num/\a.time<b.time)
noncomputable def Bc(t:Nat)(bs bs':List Int):Row->Option Use
 | .get a b=>Ya ⟨bs.getD b 0,(t:Int),GET,bs'.getD a 0⟩|.set a b=>Ya ⟨bs.getD a 0,(t:Int),SET,bs.getD b 0⟩|_=>Ye
noncomputable def fc(roll:bJ)(ts:List bM)(t:Nat):Option Use:=(ts[t]?).bind λs=>(ts[t+1]?).bind λs'=>(gD roll s.1).bind (Bc t s.2 s'.2)
noncomputable def jF(roll:bJ)(ts:List bM):List Use:=(dm (ts.length-1)).filterMap (fc roll ts)
theorem Rb{t:Nat}(h:fc roll ts t=Ya u):u.time=(t:Int):=by unfold fc at h;obtain⟨s,_,h⟩:=KC.mp h;obtain⟨s',_,h⟩:=KC.mp h;obtain⟨r,_,h⟩:=KC.mp h;cases r<;>first|(cases h;done)|(cases h;rfl)
theorem Zm8(h:jl roll ts u=true):∃t:Nat,u.time=(t:Int)/\t+1<ts.length/\fc roll ts t=Ya u:=by
 unfold jl at h;by_cases c:0<=u.time/\u.time+1<ts.length
 .rw[if_pos c]at h;obtain⟨t,ht⟩:=yt c.1;have e:u.time.toNat=t:=by omega
  rw[e]at h;have lt:t+1<ts.length:=by omega
  have i0:ts[t]?=Ya (ts[t]'(by omega)):=Yi _;have i1:ts[t+1]?=Ya (ts[t+1]'lt):=Yi _;rw[i0,i1]at h;refine⟨t,ht,lt,?_⟩;unfold fc;rw[i0,iV,i1,iV];generalize ts[t]'(by omega)=s at h;generalize ts[t+1]'lt=s' at h;have h:tE (gD roll s.1) s.2 s'.2 u=true:=h;cases q:gD roll s.1 with
  |none=>rw[q]at h;cases h|some r=>
   rw[q]at h;obtain⟨n,tm,w,v⟩:=u;have ht:tm=(t:Int):=ht;cases r<;>try cases h
   .simp only[tE,Y0,decide_eq_true_eq]at h;obtain⟨⟨h1,h2⟩,h3⟩:=h;rw[h1,h2,h3,ht];rfl
   .simp only[tE,Y0,decide_eq_true_eq]at h;obtain⟨⟨h1,h2⟩,h3⟩:=h;rw[h1,h2,h3,ht];rfl
 .rw[if_neg c]at h;cases h
theorem ZvF(roll:bJ)(ts:List bM):(jY roll ts).length=(jF roll ts).length:=by
 have gen:∀m,m<=ts.length-1->((ts.take m).filter λs=>match gD roll s.1 with|some r=>qT r|none=>false).length=((dm m).filterMap (fc roll ts)).length:=λm=>by
  induction m with
  |zero=>intro _;rfl|succ m ih=>
   intro hm;have i0:ts[m]?=Ya (ts[m]'(by omega)):=Yi _;have i1:ts[m+1]?=Ya (ts[m+1]'(by omega)):=Yi _;rw[Lf,KZ,Y5,←ih (by omega),Uo,tZ,Y5,i0];congr 1;have e:fc roll ts m=(gD roll (ts[m]'(by omega)).1).bind (Bc m (ts[m]'(by omega)).2 (ts[m+1]'(by omega)).2):=by unfold fc;rw[i0,iV,i1,iV]
   rw[Ft,vm,e];generalize ts[m]'(by omega)=s;generalize ts[m+1]'(by omega)=s';cases q:gD roll s.1 with
   |none=>rw[oW (by rw[q];exact mz)];rfl|some r=>cases r<;>first|(rw[oW (by rw[q];exact mz)];rfl)|(rw[nq (by rw[q];rfl)];rfl)
 unfold jY jF;rw[KY];exact gen _ (Yk _)
theorem Zmb{α β:Type}{f g:α->Option β}:∀{l:List α},(∀x∈l,f x=g x)->l.filterMap f=l.filterMap g
 |[],_=>rfl|x::l,h=>by rw[vm,vm,h x Ym,Zmb λy hy=>h y (Yu _ hy)]
theorem Zih:∀{us vs:List Use},us.Nodup->(∀u∈us,u∈vs)->vs.length<=us.length->us.Perm vs
 |[],vs,_,_,h=>by rw[Bo (KR.mp h)]|u::us,vs,nd,hs,h=>by
  obtain⟨s1,s2,rfl⟩:=K7 (hs u Ym);have nd':=rD.mp nd;refine .trans (.cons u (Zih nd'.2 (λx hx=>?_) ?_)) List.perm_middle.symm
  .have ne:x≠u:=λe=>nd'.1 (by rw[←e];exact hx);rcases jK.mp (hs x (Yu _ hx))with h1|h1
   .exact FT _ h1
   .exact nA _ ((Y7.mp h1).resolve_left ne)
  .rw[Y5,gW,gW]at h;rw[Y5];omega
theorem Zjg:∀{x y:List Use},x.Perm y->x.Pairwise u5->y.Pairwise u5->x=y
 |[],y,p,_,_=>(Uw.mp p).symm|a::x,[],p,_,_=>absurd p.length_eq (by simp)|a::x,b::y,p,hx,hy=>by
  have hx':=iW.mp hx;have hy':=iW.mp hy;have e:a=b:=by refine Classical.byContradiction λne=>?_;have h1:a∈y:=(Y7.mp (p.mem_iff.mp Ym)).resolve_left ne;have h2:b∈x:=(Y7.mp (p.mem_iff.mpr Ym)).resolve_left (cU ne);have o1:=hx'.1 b h2;have o2:=hy'.1 a h1;omega
  subst e;rw[Zjg (Nj p) hx'.2 hy'.2]
theorem Rc(d:Int):∀(x:List Use) (u:Use),E_ d (x++[u])=u.val
 |[],_=>rfl|a::x,u=>Rc a.val x u
structure Fb(us:List Use):Prop where
 ord:us.Pairwise u5
 told:∀p u q,us=p++u::q->u.word=GET->u.val=E_ 0 (p.filter λv=>decide (v.num=u.num))
theorem Zie:∀(rs p:List Use) (k:Nat),Fb p->jW p.getLast? rs k=Ye->Fb (p++rs)
 |[],p,_,h,_=>by rw[Yr];exact h|u :: rs,p,k,h,hf=>by
  have hu:qR p.getLast? u=true:=by
   unfold jW at hf;by_cases c:qR p.getLast? u=true
   .exact c
   .rw[if_neg c]at hf;cases hf
  unfold jW at hf;rw[if_pos hu]at hf;have hf':jW (p++[u]).getLast? rs (k+1)=Ye:=by rw[FW];exact hf
  have hn:Fb (p++[u]):=by
   rcases K1 p with q|⟨p0,a,q⟩<;>try rw[K3]at q
   .subst q;refine⟨Ua _ _,λp v q e hw=>?_⟩;have hv:u.word≠GET\/u.val=0:=by
     have hu:(decide (u.word≠GET)|| decide (u.val=0))=true:=hu;simpa using hu
    match p,e with
    |[],e=>have e1:u=v:=(Nb e).1;subst e1;exact hv.resolve_left (λz=>z hw)|_::p,e=>exact absurd (congrArg vB e) (by simp)
   .subst q;rw[FW]at hu;have hu:(if u.num<a.num\/(u.num=a.num/\u.time<=a.time)then false else if u.word≠GET then true else if a.num=u.num then decide (u.val=a.val)else decide (u.val=0))=true:=hu;have c:¬(u.num<a.num\/(u.num=a.num/\u.time<=a.time)):=λc=>by rw[if_pos c]at hu;cases hu
    rw[if_neg c]at hu;have oa:u5 a u:=by show a.num<u.num\/_;omega
    have ob:∀b∈p0,u5 b a:=λb hb=>(rn.mp h.ord).2.2 b hb a Ym;refine⟨rn.mpr ⟨h.ord,Ua _ _,λb hb v hv=>?_⟩,λp v q e hw=>?_⟩
    .rw[oX.mp hv];rcases jK.mp hb with hb|hb
     .have o:=ob b hb;show b.num<u.num\/_;omega
     .rw[oX.mp hb];exact oa
    .rcases K1 q with z|⟨q0,y,z⟩<;>try rw[K3]at z
     .subst z;obtain⟨e1,e2⟩:=Ur e rfl;have e2:u=v:=(Nb e2).1;subst e1 e2;rw[if_neg (λz=>z hw)]at hu;by_cases d:a.num=u.num
      .rw[if_pos d]at hu;rw[tZ,nq (by simpa using d),Us,Rc];exact of_decide_eq_true hu
      .rw[if_neg d]at hu;rw[xU.mpr]
       .exact of_decide_eq_true hu
       .intro b hb;simp only[decide_eq_true_eq];rcases jK.mp hb with hb|hb
        .have o:=ob b hb;omega
        .rw[oX.mp hb];exact d
     .subst z;rw[←La,←j5]at e;obtain⟨e1,_⟩:=Ur e rfl;exact h.told p v q0 e1 hw
  have:=Zie rs (p++[u]) (k+1) hn hf';rw[j5]at this;exact this
noncomputable def holds(us:List Use)(t:Nat)(n:Int):Int:=E_ 0 ((us.filter λu=>decide (u.num=n)).filter λu=>decide (u.time<(t:Int)))
theorem Zkz(t:Nat):∀(l:List Use),l.Pairwise (λa b=>a.time<b.time)->l.filter (λu=>decide (u.time<((t+1:Nat):Int)))=l.filter (λu=>decide (u.time<(t:Int)))++l.filter (λu=>decide (u.time=(t:Int)))
 |[],_=>rfl|u::l,h=>by
  have h':=iW.mp h;have ih:=Zkz t l h'.2;by_cases c:u.time<(t:Int)
  .rw[nq (by simp;omega),nq (by simpa using c),oW (by simp;omega),ih,La]
  .have z:l.filter (λu=>decide (u.time<(t:Int)))=[]:=xU.mpr λb hb=>by
    have:=h'.1 b hb;simp only[decide_eq_true_eq];omega
   rw[z,vz]at ih;rw[oW (p:=λu:Use=>decide (u.time<(t:Int))) (by simpa using c),z,vz];by_cases d:u.time=(t:Int)
   .rw[nq (by simp;omega),nq (by simpa using d),ih]
   .rw[oW (by simp;omega),oW (by simpa using d),ih]
theorem Zmx(h:us.Pairwise u5)(n:Int):(us.filter λu=>decide (u.num=n)).Pairwise λa b=>a.time<b.time:=by
 refine V2 ?_ (h.filter _);intro a b ha hb hab;have e1:a.num=n:=by simpa using(iY.mp ha).2
 have e2:b.num=n:=by simpa using(iY.mp hb).2
 omega
section
variable {roll:bJ} {ts:List bM} {us:List Use} (T:Fb us) (P:us.Perm (jF roll ts))
include T P
theorem ZsY{t:Nat}(ht:t+1<ts.length)(h:fc roll ts t=Ya u):u∈us:=P.mem_iff.mpr (xV.mpr ⟨t,pR.mpr (by omega),h⟩)
theorem ZsQ(h:u∈us):∃t:Nat,u.time=(t:Int)/\t+1<ts.length/\fc roll ts t=Ya u:=by obtain⟨t,h1,h2⟩:=xV.mp (P.mem_iff.mp h);exact⟨t,Rb h2,by have:=pR.mp h1;omega,h2⟩
theorem ZnJ(n:Int):holds us 0 n=0:=by
 unfold holds;rw[xU.mpr]
 .rfl
 .intro u hu;obtain⟨t,e,_⟩:=ZsQ T P (iY.mp hu).1;simp only[decide_eq_true_eq];omega
theorem Zsq{t:Nat}(ht:t+1<ts.length)(n:Int):(us.filter λu=>decide (u.num=n)).filter (λu=>decide (u.time=(t:Int)))=(match fc roll ts t with|some u=>if u.num=n then[u]else[]|none=>[]):=by
 have sub:∀v∈(us.filter λu=>decide (u.num=n)).filter (λu=>decide (u.time=(t:Int))),fc roll ts t=Ya v/\v.num=n:=λv hv=>by
  obtain⟨h1,h2⟩:=iY.mp hv;obtain⟨h3,h4⟩:=iY.mp h1;obtain⟨t',e1,_,e2⟩:=ZsQ T P h3;have h2:v.time=(t:Int):=by simpa using h2
  obtain rfl:t'=t:=by omega
  exact⟨e2,by simpa using h4⟩
 cases q:fc roll ts t with
 |none=>exact T8.mpr λv hv=>by have:=(sub v hv).1;rw[q]at this;cases this|some u=>
  by_cases c:u.num=n
  .simp only[if_pos c];have hm:u∈(us.filter λu=>decide (u.num=n)).filter (λu=>decide (u.time=(t:Int))):=iY.mpr ⟨iY.mpr ⟨ZsY T P ht q,by simpa using c⟩,by simpa using Rb q⟩;have nd:((us.filter λu=>decide (u.num=n)).filter (λu=>decide (u.time=(t:Int)))).Pairwise λa b=>a.time<b.time:=(Zmx T.ord n).filter _;generalize(us.filter λu=>decide (u.num=n)).filter (λu=>decide (u.time=(t:Int)))=l at sub hm nd
   match l,sub,hm,nd with
   |[],_,hm,_=>cases hm|[a],_,hm,_=>rw[oX.mp hm]|a::b::l,sub,_,nd=>have e1:=(sub a Ym).1;have e2:=(sub b (Yu _ Ym)).1;have e:a=b:=Yq (e1.symm.trans e2);have:=(iW.mp nd).1 b Ym;rw[e]at this;omega
  .simp only[if_neg c];exact T8.mpr λv hv=>by obtain⟨h1,h2⟩:=sub v hv;rw[q]at h1;exact c (by rw[Yq h1];exact h2)
theorem Rf{t:Nat}(ht:t+1<ts.length)(n:Int):holds us (t+1) n=(match fc roll ts t with|some u=>if u.num=n then u.val else holds us t n|none=>holds us t n):=by
 unfold holds;rw[Zkz t _ (Zmx T.ord n),Zsq T P ht n];cases q:fc roll ts t with
 |none=>simp only[Yr]|some u=>
  by_cases c:u.num=n
  .simp only[if_pos c,Rc]
  .simp only[if_neg c,Yr]
theorem got{t:Nat}(ht:t+1<ts.length)(h:fc roll ts t=Ya u)(hw:u.word=GET):u.val=holds us t u.num:=by
 obtain⟨p,q,e⟩:=K7 (ZsY T P ht h);rw[T.told p u q e hw];unfold holds;have o:=T.ord;rw[e]at o;have o:=rn.mp o;have oq:=(iW.mp o.2.1).1;have tm:=Rb h;congr 1;rw[e,tZ,tZ,nq (by simp),oW (by simp[tm])];have z:(q.filter λv=>decide (v.num=u.num)).filter (λv=>decide (v.time<(t:Int)))=[]:=xU.mpr λv hv=>by
  obtain⟨h1,h2⟩:=iY.mp hv;have:=oq v h1;have h2:v.num=u.num:=by simpa using h2
  simp only[decide_eq_true_eq];omega
 rw[z,Yr];refine(K6.mpr λv hv=>?_).symm;obtain⟨h1,h2⟩:=iY.mp hv;have:=o.2.2 v h1 u Ym;have h2:v.num=u.num:=by simpa using h2
 simp only[decide_eq_true_eq];omega
theorem ZoA(R:eU roll)(hf:pP roll ts=Ye)(hh:lX roll (ts.getLastD (0,[])).1=true):∀(rest:List bM) (t:Nat) (s:cW),ts.drop t=cg s::rest->Good roll s->(∀n,dG s.cells n=holds us t n)->∀k,rest.length<=k->(cY roll k s).map cg=cg s::rest
 | [],t,s,hd,g,_,k,_=>by
  have hl:t+1=ts.length:=by have:=congrArg vB hd;rw[FZ,gW,x_]at this;omega
  have e:ts.getLastD (0,[])=cg s:=by have:=congrArg List.getLast? hd;rw[List.getLast?_drop,if_neg (by omega)]at this;rw[Fz,this];rfl
  rw[e]at hh;have gp:=g.pl;have hr:roll[s.place]?=Ya roll[s.place]:=by simp[gp]
  have he:jB roll s=true:=by have hh:lX roll ((s.place:Nat):Int)=true:=hh;unfold lX at hh;rw[m7 hr]at hh;unfold jB;rw[hr];exact hh
  have hn:=(ZnN gp).mpr he;cases k with
  |zero=>rfl|succ k=>rw[Y_ k hn];rfl
 | x::rest,t,s,hd,g,hc,k,hk=>by
  obtain⟨k,rfl⟩:∃j,k=j+1:=⟨k-1,by rw[gW]at hk;omega⟩;have hl:t+rest.length+2=ts.length:=by have:=congrArg vB hd;rw[FZ,gW,gW]at this;omega
  have i0:ts[t]?=Ya (cg s):=by have:=congrArg (λl=>l[0]?) hd;simpa using this
  have i1:ts[t+1]?=Ya x:=by have:=congrArg (λl=>l[1]?) hd;simpa using this
  have hfit:=find_none hf (k:=t) (by omega);simp only[Va]at hfit;unfold tG at hfit;rw[i0,i1]at hfit;have hfit:qQ roll ((s.place:Nat):Int) s.aF x.1 x.2=true:=hfit;have gp:=g.pl;have hr:roll[s.place]?=Ya roll[s.place]:=by simp[gp]
  have ro:=R.rows _ (Y1 gp);generalize roll[s.place]=r at hr ro;unfold qQ at hfit;rw[if_pos ⟨by omega,by omega⟩,o4,hr]at hfit;have hfit:(if r.eF then false else decide (x.1=(r.place s.aF s.place:Nat))&&decide (x.2=qP r s.aF x.2))=true:=hfit;have nh:r.eF=false:=by
   cases q:r.eF with
   |false=>rfl|true=>rw[q,if_pos rfl]at hfit;cases hfit
  rw[nh,if_neg (by decide),Y0,decide_eq_true_eq,decide_eq_true_eq]at hfit;obtain⟨hp,hb⟩:=hfit;have st:gU roll s=Ya ⟨r.place s.aF s.place,r.aF s.aF s.cells,r.cells s.aF s.cells⟩:=by unfold gU;rw[hr,iV];unfold oA;rw[nh];rfl
  have eu:fc roll ts t=Bc t s.aF x.2 r:=by unfold fc;rw[i0,iV,i1,iV,show(cg s).1=((s.place:Nat):Int)from rfl,m7 hr];rfl
  have ht:t+1<ts.length:=by omega
  have key:x.2=r.aF s.aF s.cells/\∀n,dG (r.cells s.aF s.cells) n=holds us (t+1) n:=by
   have same:fc roll ts t=Ye->r.cells s.aF s.cells=s.cells->∀n,dG (r.cells s.aF s.cells) n=holds us (t+1) n:=λe1 e2 n=>by rw[Rf T P ht n,e1,e2];exact hc n
   cases r with
   |get a b=>
    have eu:fc roll ts t=Ya ⟨s.aF.getD b 0,(t:Int),GET,x.2.getD a 0⟩:=eu;have hg:x.2.getD a 0=holds us t (s.aF.getD b 0):=got T P ht eu rfl;rw[←hc]at hg;refine⟨by rw[hb];show s.aF.set a (x.2.getD a 0)=s.aF.set a _;rw[hg],λn=>?_⟩;rw[Rf T P ht n,eu];show dG s.cells n=if s.aF.getD b 0=n then x.2.getD a 0 else holds us t n;by_cases c:s.aF.getD b 0=n
    .rw[if_pos c,hg,c]
    .rw[if_neg c];exact hc n
   |set a b=>
    have eu:fc roll ts t=Ya ⟨s.aF.getD a 0,(t:Int),SET,s.aF.getD b 0⟩:=eu;refine⟨hb,λn=>?_⟩;rw[Rf T P ht n,eu];show dG (qF s.cells (s.aF.getD a 0) (s.aF.getD b 0)) n=if s.aF.getD a 0=n then s.aF.getD b 0 else holds us t n;rw[ZhB g.rs];by_cases c:s.aF.getD a 0=n
    .rw[if_pos c,if_pos c.symm]
    .rw[if_neg c,if_neg (λz=>c z.symm)];exact hc n
   |_=>exact⟨hb,same eu rfl⟩
  have ex:cg ⟨r.place s.aF s.place,r.aF s.aF s.cells,r.cells s.aF s.cells⟩=x:=Np hp.symm key.1.symm;have ih:=ZoA R hf hh rest (t+1) ⟨r.place s.aF s.place,r.aF s.aF s.cells,r.cells s.aF s.cells⟩ (by rw[ex,←List.tail_drop,hd];rfl) (Ik R g st).1 key.2 k (by rw[gW]at hk;omega);rw[YZ k st,Yy,ih,ex]
end
theorem Zp5(R:eU roll){bs:List Int}(lb:bs.length=8)(h:mZ roll bs ts us=Ye):(∀k,ts.length<=k+1->(cY roll k ⟨0,bs,[]⟩).map cg=ts)/\lX roll (ts.getLastD (0,[])).1=true/\us.Perm (jF roll ts)/\us.Pairwise u5:=by
 unfold mZ at h;cases q:jX roll bs ts with
 |some f=>rw[q]at h;cases h|none=>
  rw[q]at h;have h:xG roll ts us=Ye:=h;obtain⟨⟨s,hs,rfl⟩,hf⟩:=Zhv q
  match ts,hs with
  | a :: ts,hs=>
   obtain rfl:a=(0,bs):=Yq hs;have hh:lX roll (((0,bs)::ts:List bM).getLastD (0,[])).1=true:=by unfold jX at q;dsimp only at q;rw[if_neg (λz=>z rfl),hf]at q;dsimp only at q;refine M8 λc=>?_;rw[if_neg c]at q;cases q
   unfold xG at h;cases q1:jW Ye us 0 with
   |some k=>rw[q1]at h;cases h|none=>
    rw[q1]at h;dsimp only at h;cases q2:mX (jl roll ((0,bs)::ts)) us 0 with
    |some k=>rw[q2]at h;cases h|none=>
     rw[q2]at h;dsimp only at h;have hl:us.length=(jY roll ((0,bs)::ts)).length:=M8 λc=>by rw[if_pos c]at h;cases h
     have T:Fb us:=by have:=Zie us [] 0 ⟨.nil,λp u q e=>absurd (congrArg vB e) (by simp)⟩ q1;exact this
     have hm:∀u∈us,jl roll ((0,bs)::ts) u=true:=by
      have gen:∀(l:List Use) (k:Nat),mX (jl roll ((0,bs)::ts)) l k=Ye->∀u∈l,jl roll ((0,bs)::ts) u=true:=λl=>by
       induction l with
       |nil=>intro _ _ u hu;cases hu|cons v l ih=>
        intro k e u hu;unfold mX at e;by_cases c:jl roll ((0,bs)::ts) v=true
        .rw[if_pos c]at e;rcases Y7.mp hu with rfl|hu
         .exact c
         .exact ih _ e u hu
        .rw[if_neg c]at e;cases e
      exact gen us 0 q2
     have nd:us.Nodup:=T.ord.imp λ{a b} o e=>by subst e;have o:a.num<a.num\/(a.num=a.num/\a.time<a.time):=o;omega
     have P:us.Perm (jF roll ((0,bs)::ts)):=Zih nd (λu hu=>by obtain⟨t,_,lt,e⟩:=Zm8 (hm u hu);exact xV.mpr ⟨t,pR.mpr (by omega),e⟩) (by rw[←ZvF,hl];exact Yk _);have pos:0<roll.length:=by obtain⟨q,x,e,_⟩:=R.last;rw[e];simp
     refine⟨λk hk=>?_,hh,P,T.ord⟩;exact ZoA T P R hf hh ts 0 ⟨0,bs,[]⟩ rfl ⟨pos,lb,by simp[iB]⟩ (λn=>(ZnJ T P n).symm) k (by rw[gW]at hk;omega)
theorem Zoi(R:eU roll)(C:Chain roll ss)(G:∀s∈ss,Good roll s):h_ roll ss (ss.length-1)=jF roll (ss.map cg):=by
 unfold h_ jF;rw[Yn];refine Zmb λt ht=>?_;have ht:=pR.mp ht;have i0:ss[t]?=Ya (ss[t]'(by omega)):=Yi _;have i1:ss[t+1]?=Ya (ss[t+1]'(by omega)):=Yi _;have sp:=C t _ _ i0 i1;have g:=G _ (jo i0);unfold jn fc;rw[Yx,Yx,i0,i1];generalize ss[t]'(by omega)=s at sp g;generalize ss[t+1]'(by omega)=s' at sp;have gp:=g.pl;have hr:roll[s.place]?=Ya roll[s.place]:=by simp[gp]
 have ro:=R.rows _ (Y1 gp);have eb:=Ra hr sp;generalize roll[s.place]=r at hr ro eb;show((roll[s.place]?).bind λr=>kY r t s)=(gD roll ((s.place:Nat):Int)).bind _;rw[hr,m7 hr];cases r<;>try rfl
 show Ya _=Ya _;congr 2;show dG s.cells _=s'.aF.getD _ 0;rw[eb];simp only[Row.aF,oV];rw[Y2 (by rw[g.bx];exact ro.1)];rfl
noncomputable abbrev Itm:=bM×List D
noncomputable def oN(x:Itm):D:=.tup (.int x.1.1::Zk x.1.2::x.2)
theorem ZwN{a b:D}{l:List D}:cO (a::b::l) 1=Ya b:=(mJ (a::b::l) 1).trans rfl
structure ZuT(roll:bJ)(x:Itm):Prop where
 pl:∃p:Nat,x.1.1=(p:Int)/\p<roll.length
 bx:x.1.2.length=8
theorem Znv(n:Nat)(us:List Use):below n (gV us)=true:=by
 unfold gV below
 induction us with
 |nil=>rfl|cons u us ih=>simp only[Yy,dN,ih,Zpg,B_]
theorem ZsW{o t:E3}(ho:o env M= .ok (.ref n) M)(hM:M[n]?=Ya (.lst xs))(ht:t env M= .ok d M')(hM':M'[n]?=Ya (.lst xs))(hl:xs.length<1000000):
  dJ (g8 jz jy o (Zb t (Zg))) env M= .nx env (M'.set n (.lst (xs++[d]))):=Dq (YD ho hM ht hM' hl)
noncomputable abbrev luG:E3:=aR (Zb (e2 Ze (Za 5) (e2 Ze (Za 6) (eC (.int 2)))) (Zb (Za 3) (Zb (eC (.str [103,101,116])) (Zb (e2 Ze (e2 Ze (e2 Ze (Za 1) (e2 aM (Za 3) (eC (.int 1)))) (eC (.int 1))) (e2 Ze (Za 6) (eC (.int 1)))) (Zg)))))
noncomputable abbrev luS:E3:=aR (Zb (e2 Ze (Za 5) (e2 Ze (Za 6) (eC (.int 1)))) (Zb (Za 3) (Zb (eC (.str [115,101,116])) (Zb (e2 Ze (Za 5) (e2 Ze (Za 6) (eC (.int 2)))) (Zg)))))
noncomputable abbrev luT:S3:=Zu (aD (e2 aC (e2 Ze (Za 6) (eC (.int 0))) (eC (.str [103,101,116]))) (dJ (g8 jz jy (Za 2) (Zb luG (Zg)))) (aK)) (aD (e2 aC (e2 Ze (Za 6) (eC (.int 0))) (eC (.str [115,101,116]))) (dJ (g8 jz jy (Za 2) (Zb luS (Zg)))) (aK))
noncomputable abbrev luB:S3:=Zu (mL (bj (e2 Ze (Za 1) (Za 3)) (bB) (bD (eC (.int 2)))) (jA [4,5])) (Zu (ao 6 (e2 Ze (Za 0) (Za 4))) luT)
section
variable {roll:bJ} {n k:Nat} {M:Store} {its:List Itm} {x x':Itm} {us:List Use} {r:Row} {p:Nat}
theorem ZrK(R:eU roll)(hM:M[n]?=Ya (.lst (its.map oN)))(q1:its[k+1]?=Ya x')(g0:x.1.2.length=8)(g1:x'.1.2.length=8)(ro:r.ok roll.length)(lz:us.length<1000000)(d0 d4:Option D):
  luT [d0,Ya (.ref n),Ya (.ref M.length),Ya (.int (k:Int)),d4,Ya (Zk x.1.2),Ya (Zq r)] (M++[.lst (us.map Zm)])= .nx [d0,Ya (.ref n),Ya (.ref M.length),Ya (.int (k:Int)),d4,Ya (Zk x.1.2),Ya (Zq r)] (M++[.lst ((us++(Bc k x.1.2 x'.1.2 r).toList).map Zm)]):=by
 have gn:∀vs:List Use,(M++[MO.lst (vs.map Zm)])[M.length]?=Ya (.lst (vs.map Zm)):=λvs=>dM _ _ _;have cn:∀(w:List Nat) (S:Store) (b:Bool),decide (jc r=w)=b->e2 aC (e2 Ze (Za 6) (eC (.int 0))) (eC (.str w)) [d0,Ya (.ref n),Ya (.ref M.length),Ya (.int (k:Int)),d4,Ya (Zk x.1.2),Ya (Zq r)] S= .ok (.bl b) S:=λw S b h=>Zv (Zv rfl rfl (uY r S)) rfl (by rw[←h];rfl);have hap:∀(e:E3) (u:Use),e [d0,Ya (.ref n),Ya (.ref M.length),Ya (.int (k:Int)),d4,Ya (Zk x.1.2),Ya (Zq r)] (M++[.lst (us.map Zm)])= .ok (Zm u) (M++[.lst (us.map Zm)])->dJ (g8 jz jy (Za 2) (Zb e (Zg))) [d0,Ya (.ref n),Ya (.ref M.length),Ya (.int (k:Int)),d4,Ya (Zk x.1.2),Ya (Zq r)] (M++[.lst (us.map Zm)])= .nx [d0,Ya (.ref n),Ya (.ref M.length),Ya (.int (k:Int)),d4,Ya (Zk x.1.2),Ya (Zq r)] (M++[.lst ((us++[u]).map Zm)]):=λe u h=>(ZsW rfl (gn us) h (gn us) (by rw[Yn];exact lz)).trans (by simp);cases r with
 | get a b=>
  obtain⟨y1,hy1,Rg⟩:=fL g0 ro.2;obtain⟨y2,hy2,Rh⟩:=fL g1 ro.1;have q1':cO (its.map oN) ((k:Int)+1)=Ya (oN x'):=by rw[show((k:Int)+1)=((k+1:Nat):Int)from rfl,mJ,Yx,q1];rfl
  have ar:luG [d0,Ya (.ref n),Ya (.ref M.length),Ya (.int (k:Int)),d4,Ya (Zk x.1.2),Ya (Zq (.get a b))] (M++[.lst (us.map Zm)])= .ok (Zm ⟨y1,(k:Int),GET,y2⟩) (M++[.lst (us.map Zm)]):=i_ (dh (Zv rfl (Zv rfl rfl rfl) (wG Rg)) (dh rfl (dh rfl (dh (Zv (Zv (Zv rfl (Zv rfl rfl rfl) (sO (cP hM _) q1')) rfl (wG ZwN)) (Zv rfl rfl rfl) (wG Rh)) rfl)))) rfl;refine(Zh ((bG (cn _ _ true rfl)).trans (hap _ _ ar))).trans ((Zr (cn _ _ false rfl)).trans ?_);rw[←hy1,←hy2];rfl
 | set a b=>obtain⟨y1,hy1,Rg⟩:=fL g0 ro.1;obtain⟨y2,hy2,Rh⟩:=fL g0 ro.2;have ar:luS [d0,Ya (.ref n),Ya (.ref M.length),Ya (.int (k:Int)),d4,Ya (Zk x.1.2),Ya (Zq (.set a b))] (M++[.lst (us.map Zm)])= .ok (Zm ⟨y1,(k:Int),SET,y2⟩) (M++[.lst (us.map Zm)]):=i_ (dh (Zv rfl (Zv rfl rfl rfl) (wG Rg)) (dh rfl (dh rfl (dh (Zv rfl (Zv rfl rfl rfl) (wG Rh)) rfl)))) rfl;refine(Zh (Zr (cn _ _ false rfl))).trans ((bG (cn _ _ true rfl)).trans ((hap _ _ ar).trans ?_));rw[←hy1,←hy2];rfl|_=>exact(Zh (Zr (cn _ _ false rfl))).trans ((Zr (cn _ _ false rfl)).trans (by show _=O3.nx _ (M++[MO.lst ((us++([]:List Use)).map Zm)]);rw[Yr]))
theorem Zsh(R:eU roll)(hM:M[n]?=Ya (.lst (its.map oN)))(q0:its[k]?=Ya x)(q1:its[k+1]?=Ya x')(hp:x.1.1=(p:Int))(hr:roll[p]?=Ya r)(g0:x.1.2.length=8)(g1:x'.1.2.length=8)(ro:r.ok roll.length)(lz:us.length<1000000)(x4 x5 x6:Option D):
  luB [Ya (Zn roll),Ya (.ref n),Ya (.ref M.length),Ya (.int (k:Int)),x4,x5,x6] (M++[.lst (us.map Zm)])= .nx [Ya (Zn roll),Ya (.ref n),Ya (.ref M.length),Ya (.int (k:Int)),Ya (.int (p:Int)),Ya (Zk x.1.2),Ya (Zq r)] (M++[.lst ((us++(Bc k x.1.2 x'.1.2 r).toList).map Zm)]):=by
 have q0':cO (its.map oN) ((k:Nat):Int)=Ya (oN x):=by rw[mJ,Yx,q0];rfl
 have s4:bj (e2 Ze (Za 1) (Za 3)) (bB) (bD (eC (.int 2))) [Ya (Zn roll),Ya (.ref n),Ya (.ref M.length),Ya (.int (k:Int)),x4,x5,x6] (M++[.lst (us.map Zm)])= .ok (.tup [.int x.1.1,Zk x.1.2]) (M++[.lst (us.map Zm)]):=by have e:e2 Ze (Za 1) (Za 3) [Ya (Zn roll),Ya (.ref n),Ya (.ref M.length),Ya (.int (k:Int)),x4,x5,x6] (M++[.lst (us.map Zm)])= .ok (oN x) (M++[.lst (us.map Zm)]):=Zv rfl rfl (sO (cP hM _) q0');show(e2 Ze _ _ _ _).bind _=_;rw[e,R3.Fj];have c:cutD (D.int x.1.1::Zk x.1.2::x.2) Ye (Ya 2)=[D.int x.1.1,Zk x.1.2]:=(xF _ 2).trans rfl;show R3.ok (D.tup (cutD (D.int x.1.1::Zk x.1.2::x.2) Ye (Ya 2))) _=_;rw[c]
 rw[hp]at s4;exact(Zh (ZpI s4 rfl)).trans ((Zh (Zz (Zv rfl rfl (tD hr)))).trans (ZrK R hM q1 g0 g1 ro lz _ _))
end
theorem ZnG(roll:bJ)(ts:List bM)(m:Nat):(dm (m+1)).filterMap (fc roll ts)=(dm m).filterMap (fc roll ts)++(fc roll ts m).toList:=by rw[Lf,KZ,vm];cases fc roll ts m<;>rfl
theorem Ri(R:eU roll){its:List Itm}(hM:M[n]?=Ya (.lst (its.map oN)))(hg:∀x∈its,ZuT roll x)(h0:0<its.length)(hz:its.length<=64):
  ∃us:List Use,qU (jF roll (its.map (·.1))) us/\uV [Zn roll,.ref n] M= .ok (gV us) M:=by
 let ts:=its.map (·.1)
 have lt:ts.length=its.length:=Yn ..;obtain⟨e',M',lp,x3,x4,x5,x6,rfl,rfl⟩:=Pk (it:=⟨eQ 0 (its.length-1),Ye⟩) (g:=dz 3) (body:=luB)
  (P:=λj env M'=>∃(x3 x4 x5 x6:Option D),env=[Ya (Zn roll),Ya (.ref n),Ya (.ref M.length),x3,x4,x5,x6]/\M'=M++[.lst (((dm j).filterMap (fc roll ts)).map Zm)])
  (eQ 0 (its.length-1)) 0 [Ya (Zn roll),Ya (.ref n),Ya (.ref M.length),Ye,Ye,Ye,Ye] (M++[.lst []]) ⟨Ye,Ye,Ye,Ye,rfl,rfl⟩ (λ_ _ _ _=>rfl)
  (λk d hd env M' ⟨x3,x4,x5,x6,he,hm⟩=>by
   obtain⟨rfl,lk⟩:=Ie hd;subst he hm;rw[tV];have i0:its[k]?=Ya (its[k]'(by omega)):=Yi _;have i1:its[k+1]?=Ya (its[k+1]'(by omega)):=Yi _;have g0:=hg _ (jo i0);have g1:=hg _ (jo i1);generalize its[k]'(by omega)=x at i0 g0;generalize its[k+1]'(by omega)=x' at i1 g1;obtain⟨p,hp,lp⟩:=g0.pl;have hr:roll[p]?=Ya roll[p]:=by simp[lp]
   have ro:=R.rows _ (Y1 lp);generalize roll[p]=r at hr ro;have eu:fc roll ts k=Bc k x.1.2 x'.1.2 r:=by unfold fc;rw[show ts[k]?=Ya x.1 by rw[Yx,i0];rfl,iV,show ts[k+1]?=Ya x'.1 by rw[Yx,i1];rfl,iV,hp,m7 hr];rfl
   have lz:((dm k).filterMap (fc roll ts)).length<1000000:=xT (FN _ _) (by rw[t6];omega);refine⟨_,_,_,rfl,Zsh R hM i0 i1 hp hr g0.bx g1.bx ro lz x4 x5 x6,_,_,_,_,rfl,?_⟩;rw[ZnG,eu])
 rw[Ds,tV,show(dm (its.length-1)).filterMap (fc roll ts)=jF roll ts by unfold jF;rw[lt]]at lp;have lu:(jF roll ts).length<64:=xT (FN _ _) (by rw[t6];omega);generalize jF roll ts=us at lp lu;obtain⟨cA,S,hs2⟩:=Zi8 us lu;have so:=Q8 lu;refine⟨cA,S,Rt.pure (G:=[.lst (us.map Zm),.lst (cA.map Zm)]) (env:=[Ya (Zn roll),Ya (.ref n),Ye,Ye,Ye,Ye,Ye]) ?_ (Znv _ _)⟩;have ir:jP (e2 eO (au bw (Zb (Za 1) (Zg))) (eC (.int 1))) [Ya (Zn roll),Ya (.ref n),Ya (.ref M.length),Ye,Ye,Ye,Ye] (M++[.lst []])= .ok ⟨eQ 0 (its.length-1),Ye⟩ (M++[.lst []]):=by
  have e:e2 eO (au bw (Zb (Za 1) (Zg))) (eC (.int 1)) [Ya (Zn roll),Ya (.ref n),Ya (.ref M.length),Ye,Ye,Ye,Ye] (M++[.lst []])= .ok (.int ((its.length:Int)-1)) (M++[.lst []]):=Zv (fD rfl (mK (cP hM _))) rfl (by rw[Yn];rfl);have b:((its.length:Int)-1)<=1000000/\ -1000000<=((its.length:Int)-1):=by omega
  simp only[jP,e,R3.bind,b,and_self,if_true,show((its.length:Int)-1).toNat=its.length-1 by omega]
 have g1:(M++[MO.lst (us.map Zm)])[M.length]?=Ya (.lst (us.map Zm)):=dM _ _ _;have bsr:au jN (Zb (Za 2) (Zg)) [Ya (Zn roll),Ya (.ref n),Ya (.ref M.length),x3,x4,x5,x6] (M++[.lst (us.map Zm)])= .ok (.ref (M++[MO.lst (us.map Zm)]).length) (M++[.lst (us.map Zm),.lst (cA.map Zm)]):=by refine fD (a:=.ref M.length) (M1:=M++[.lst (us.map Zm)]) rfl ?_;simp only[uE,g1,if_pos so,hs2,alloc];simp
 have g2:(M++[MO.lst (us.map Zm),.lst (cA.map Zm)])[(M++[MO.lst (us.map Zm)]).length]?=Ya (.lst (cA.map Zm)):=by rw[Y5];exact eZ _ _ 1
 exact(Zh (Zz (Az rfl rfl))).trans ((Zh ((Ib (g:=dz 3) ir).trans lp)).trans (cV (fD bsr (uI g2))))
theorem sub_len:∀{l S:List Int},l.Nodup->(∀x∈l,x∈S)->l.length<=S.length
 |[],_,_,_=>eV _|x::l,S,nd,h=>by
  obtain⟨s1,s2,rfl⟩:=K7 (h x Ym);have nd':=rD.mp nd;have:=sub_len (S:=s1++s2) nd'.2 λy hy=>by
   have ne:y≠x:=λe=>nd'.1 (by rw[←e];exact hy);rcases jK.mp (h y (Yu _ hy))with h1|h1
   .exact FT _ h1
   .exact nA _ ((Y7.mp h1).resolve_left ne)
  rw[Y5,gW,gW];rw[Y5]at this;omega
theorem Zrk{t:List (Int×Int)}{n v:Int}{p:Int×Int}(h:p∈iT t n v):p.1=n\/∃q∈t,q.1=p.1:=by
 unfold iT at h;by_cases c:(t.any λp=>decide (p.1=n))=true
 .rw[if_pos c]at h;obtain⟨q,hq,e⟩:=iR.mp h;refine .inr ⟨q,hq,?_⟩;rw[←e];by_cases d:q.1=n
  .rw[if_pos d]
  .rw[if_neg d]
 .rw[if_neg c]at h;rcases jK.mp h with h|h
  .exact .inr ⟨p,h,rfl⟩
  .exact .inl (by rw[oX.mp h])
structure Fd(k:Nat)(s:cW)(t:List (Int×Int))(S:List Int)(c:Nat):Prop where
 le:k<=70
 bx:s.aF.length=8
 bs:∀b∈s.aF,b∈S
 ks:∀p∈t,p.1∈S
 sl:S.length<=8+c
 ct:c+t.length<=k
 nd:keysOk t
theorem Fd.few{k:Nat}{t:List (Int×Int)}{S:List Int}{c:Nat}(h:Fd k s t S c):t.length<64:=by
 have h1:=sub_len h.nd (S:=S) λx hx=>by obtain⟨p,hp,rfl⟩:=iR.mp hx;exact h.ks p hp
 rw[Yn]at h1;have:=h.sl;have:=h.ct;have:=h.le;omega
theorem Zqq(R:eU roll){bs:List Int}(M:Store)(hb:bs.length=8):
  ∃n G,M.length<=n/\Es [Zn roll,Zk bs,.int ((70:Nat):Int)] M= .ok (.ref n) (M++G)/\(M++G)[n]?=Ya (.lst ((cY roll 70 ⟨0,bs,[]⟩).map cX)):=by
 refine Znt roll R bs 70 M (by decide) hb (λk s t=>∃S c,Fd k s t S c) (λk s t ⟨S,c,h⟩=>h.few) (λk s t r ⟨S,c,h⟩ hr hh hk=>?_) ⟨bs,0,⟨eV _,hb,λ_ h=>h,λ_ h=>(by cases h),oU hb,Yk _,Ut⟩⟩;have ro:=R.rows _ (jo hr);have put:∀(a:Nat) (v:Int) (p:Nat) (cs:List (Int×Int)),∃S c,Fd (k+1) ⟨p,s.aF.set a v,cs⟩ t S c:=λa v p cs=>
  ⟨v::S,c+1,⟨hk,by rw[xZ];exact h.bx,λb hb=>by
   rcases T_ hb with e|e
   .exact Yu _ (h.bs b e)
   .rw[e];exact Ym,λq hq=>Yu _ (h.ks q hq),by have:=h.sl;rw[gW];omega,by have:=h.ct;omega,h.nd⟩⟩
 have same:∀(p:Nat) (cs:List (Int×Int)),∃S c,Fd (k+1) ⟨p,s.aF,cs⟩ t S c:=λp cs=>⟨S,c,⟨hk,h.bx,h.bs,h.ks,h.sl,by have:=h.ct;omega,h.nd⟩⟩;cases r with
 |put a n=>exact put ..|add a b c=>exact put ..|sub a b c=>exact put ..|more a b c=>exact put ..
 |get a b=>exact put ..|set a b=>
  refine⟨S,c,⟨hk,h.bx,h.bs,λq hq=>?_,h.sl,by have:=h.ct;have:=ZnY (.set a b) s.aF t;omega,Dt _ _ h.nd⟩⟩;rcases Zrk hq with e|⟨q',h1,h2⟩
  .have la:a<s.aF.length:=by rw[h.bx];exact ro.1
   rw[e,oV,Yi la];exact h.bs _ (Y1 la)
  .rw[←h2];exact h.ks q' h1
 |_=>exact same ..
noncomputable abbrev lyC:E3:=eN (e2 dw (e2 Ze (e2 Ze (Za 0) (Za 5)) (eC (.int 0))) (eC (.str [104,97,108,116]))) (e2 nQ (au bw (Zb (Za 8) (Zg))) (Za 2))
noncomputable abbrev Rj:S3:=Zu (ao 9 (e2 Ze (Za 0) (Za 5))) (Zu (ao 5 (aH pN (Zb (Za 9) (Zb (Za 5) (Zb (Za 6) (Zb (Za 7) (Zg))))))) (Zu (aD (eN (e2 aC (au bw (Zb (Za 8) (Zg))) (e2 aM (Za 3) (eC (.int 1)))) (e2 aC (e2 Ze (Za 9) (eC (.int 0))) (eC (.str [103,101,116])))) (n_ (Za 6) (e2 Ze (Za 9) (eC (.int 1))) (Za 4)) (aK)) (dJ (g8 jz jy (Za 8) (Zb (aR (Zb (Za 5) (Zb (au dF (Zb (Za 6) (Zg))) (Zg)))) (Zg))))))
noncomputable abbrev oO(roll:bJ)(d1:D)(at_ v:Int)(p:Nat)(m:Nat)(x9:Option D):bI:=[Ya (Zn roll),Ya d1,Ya (.int ((60:Nat):Int)),Ya (.int at_),Ya (.int v),Ya (.int (p:Int)),Ya (.ref m),Ya (.ref (m+1)),Ya (.ref (m+2)),x9]
noncomputable abbrev dY(M:Store)(bs:List Int)(t:List (Int×Int))(ts:List bM):Store:=M++[.lst (bs.map D.int),.dct (bF t),.lst (ts.map aU)]
abbrev Rk(roll:bJ)(x:bM):Prop:=(∃p:Nat,x.1=(p:Int)/\p<roll.length)/\x.2.length=8
section
variable {roll:bJ} (R:eU roll) {d1:D} {at_ v:Int} {M:Store} {p:Nat} {bs:List Int} {t:List (Int×Int)} {ts:List bM} {r:Row}
include R
theorem ZrB(hr:roll[p]?=Ya r)(hb:bs.length=8)(ht:t.length<=1000)(hl:ts.length<=1000)(x9:Option D):
  ∃bs':List Int,bs'.length=8/\Rj (oO roll d1 at_ v p M.length x9) (dY M bs t ts)= .nx (oO roll d1 at_ v (r.place bs p) M.length (Ya (Zq r))) (dY M bs' (iD r bs t) (ts++[(((r.place bs p:Nat):Int),bs')])):=by
 have ro:=R.rows _ (jo hr);have g0:(dY M bs t ts)[M.length]?=Ya (.lst (bs.map D.int)):=dM _ _ _;have g1:(dY M bs t ts)[M.length+1]?=Ya (.dct (bF t)):=eZ _ _ 1
 let iQ:=r.aF bs t
 let t1:=iD r bs t
 have l1:iQ.length=8:=by show(r.aF bs t).length=8;cases r<;>simp[Row.aF,hb]
 have hgo:=ZlV r p M.length (M.length+1) bs t (dY M bs t ts) roll.length g0 g1 (by omega) hb ro (by omega);have e1:((dY M bs t ts).set M.length (.lst (iQ.map D.int))).set (M.length+1) (.dct (bF t1))=dY M iQ t1 ts:=by simp[dY]
 rw [e1]at hgo;have k0:(dY M iQ t1 ts)[M.length]?=Ya (.lst (iQ.map D.int)):=dM _ _ _;have k2:(dY M iQ t1 ts)[M.length+2]?=Ya (.lst (ts.map aU)):=eZ _ _ 2;have s3:∃bs',bs'.length=8/\aD (eN (e2 aC (au bw (Zb (Za 8) (Zg))) (e2 aM (Za 3) (eC (.int 1)))) (e2 aC (e2 Ze (Za 9) (eC (.int 0))) (eC (.str [103,101,116])))) (n_ (Za 6) (e2 Ze (Za 9) (eC (.int 1))) (Za 4)) (aK) (oO roll d1 at_ v (r.place bs p) M.length (Ya (Zq r))) (dY M iQ t1 ts)= .nx (oO roll d1 at_ v (r.place bs p) M.length (Ya (Zq r))) (dY M bs' t1 ts):=by
  have c1:∀b,decide ((ts.length:Int)=at_ +1)=b->e2 aC (au bw (Zb (Za 8) (Zg))) (e2 aM (Za 3) (eC (.int 1))) (oO roll d1 at_ v (r.place bs p) M.length (Ya (Zq r))) (dY M iQ t1 ts)= .ok (.bl b) (dY M iQ t1 ts):=λb h=>Zv (M2:=dY M iQ t1 ts) (b:=.int (at_ +1)) (fD rfl (mK k2)) rfl (by rw[Yn,←h];rfl);have c2:∀b,decide (jc r=[103,101,116])=b->e2 aC (e2 Ze (Za 9) (eC (.int 0))) (eC (.str [103,101,116])) (oO roll d1 at_ v (r.place bs p) M.length (Ya (Zq r))) (dY M iQ t1 ts)= .ok (.bl b) (dY M iQ t1 ts):=λb h=>Zv (Zv rfl rfl (uY r _)) rfl (by rw[←h];rfl);by_cases q1:(ts.length:Int)=at_ +1
  .by_cases q2:jc r=[103,101,116]
   .obtain⟨a,b,rfl⟩:∃a b,r= .get a b:=by cases r<;>first|exact⟨_,_,rfl⟩|exact absurd q2 (of_decide_eq_true rfl)
    refine⟨iQ.set a v,by rw[xZ];exact l1,(bG ((ou (c1 true (decide_eq_true q1))).trans (c2 true rfl))).trans ?_⟩;have la:a<(iQ.map D.int).length:=by rw[Yn,l1];exact ro.1
    have ei:e2 Ze (Za 9) (eC (.int 1)) (oO roll d1 at_ v ((Row.get a b).place bs p) M.length (Ya (Zq (.get a b)))) (dY M iQ t1 ts)= .ok (.int (a:Int)) (dY M iQ t1 ts):=Zv rfl rfl rfl;have e3':e3 yQ (Za 4) (Za 6) (e2 Ze (Za 9) (eC (.int 1))) (oO roll d1 at_ v ((Row.get a b).place bs p) M.length (Ya (Zq (.get a b)))) (dY M iQ t1 ts)= .ok .non ((dY M iQ t1 ts).set M.length (.lst ((iQ.map D.int).set a (.int v)))):=by simp only[e3,ei,R3.bind,Za,Y8,Y3,Dg,k0,X8,if_pos la]
    refine(Dq e3').trans ?_;congr 1;simp[dY]
   .exact⟨iQ,l1,Zr ((ou (c1 true (decide_eq_true q1))).trans (c2 false (decide_eq_false q2)))⟩
  .exact⟨iQ,l1,Zr (wH (c1 false (decide_eq_false q1)))⟩
 obtain⟨bs',l',s3⟩:=s3;refine⟨bs',l',?_⟩;have j0:(dY M bs' t1 ts)[M.length]?=Ya (.lst (bs'.map D.int)):=dM _ _ _;have j2:(dY M bs' t1 ts)[M.length+2]?=Ya (.lst (ts.map aU)):=eZ _ _ 2;refine(Zh (Zz (Zv rfl rfl (tD hr)))).trans ((Zh (Zz (yW rfl rfl rfl rfl hgo))).trans ((Zh s3).trans ((ZsW rfl j2 (i_ (dh rfl (dh (fD rfl (uI j0)) rfl)) rfl) j2 (by rw[Yn];omega)).trans ?_)));congr 1;simp[dY,aU,fV,Zk];rfl
theorem ZrT:∀(m:Nat) (ts:List bM) (p:Nat) (bs:List Int) (t:List (Int×Int)) (fuel:Nat) (x9:Option D),ts.length+m=61->m<fuel->bs.length=8->p<roll.length->t.length<=ts.length->0<ts.length->(∀x∈ts,Rk roll x) ->
  ∃(ts':List bM) (p':Nat) (bs':List Int) (t':List (Int×Int)) (y:Option D),mH lyC Rj fuel (oO roll d1 at_ v p M.length x9) (dY M bs t ts)= .nx (oO roll d1 at_ v p' M.length y) (dY M bs' t' ts')/\ts'.length<=61/\0<ts'.length/\∀x∈ts',Rk roll x:=by
 intro m
 induction m with
 |zero=>
  intro ts p bs t fuel x9 hm hf hb hp ht h0 hg;obtain⟨fuel,rfl⟩:∃j,fuel=j+1:=⟨fuel-1,by omega⟩;refine⟨ts,p,bs,t,x9,?_,by omega,h0,hg⟩;have hr:roll[p]?=Ya roll[p]:=by simp[hp]
  have k2:(dY M bs t ts)[M.length+2]?=Ya (.lst (ts.map aU)):=eZ _ _ 2;have c0:e2 Ze (e2 Ze (Za 0) (Za 5)) (eC (.int 0)) (oO roll d1 at_ v p M.length x9) (dY M bs t ts)= .ok (.str (jc roll[p])) (dY M bs t ts):=Zv (Zv rfl rfl (tD hr)) rfl (uY _ _);by_cases q:jc roll[p]=[104,97,108,116]
  .exact Ax (wH (Zv c0 rfl (Ih q)))
  .exact Ax ((ou (Zv c0 rfl (Ig q))).trans (Zv (fD rfl (mK k2)) rfl (YG (by rw[Yn];omega))))
 | succ m ih=>
  intro ts p bs t fuel x9 hm hf hb hp ht h0 hg;obtain⟨fuel,rfl⟩:∃j,fuel=j+1:=⟨fuel-1,by omega⟩;have hr:roll[p]?=Ya roll[p]:=by simp[hp]
  have k2:(dY M bs t ts)[M.length+2]?=Ya (.lst (ts.map aU)):=eZ _ _ 2;have c0:e2 Ze (e2 Ze (Za 0) (Za 5)) (eC (.int 0)) (oO roll d1 at_ v p M.length x9) (dY M bs t ts)= .ok (.str (jc roll[p])) (dY M bs t ts):=Zv (Zv rfl rfl (tD hr)) rfl (uY _ _);by_cases q:jc roll[p]=[104,97,108,116]
  .exact⟨ts,p,bs,t,x9,Ax (wH (Zv c0 rfl (Ih q))),by omega,h0,hg⟩
  .have hh:roll[p].eF=false:=by rw[Q6];exact decide_eq_false q
   obtain⟨bs',l',hb'⟩:=ZrB R (d1:=d1) (at_:=at_) (v:=v) (M:=M) hr hb (by omega:t.length<=1000) (by omega:ts.length<=1000) x9;have pl:=place_lt R hb hr hh;obtain⟨ts2,p2,oJ,t2,y,e,r1,r2,r3⟩:=ih (ts++[(((roll[p].place bs p:Nat):Int),bs')]) (roll[p].place bs p) bs' (iD roll[p] bs t) fuel (Ya (Zq roll[p])) (by simp;omega) (by omega) l' pl (by have:=ZnY roll[p] bs t;simp;omega) (by simp) (λx hx=>by
    rcases jK.mp hx with h|h
    .exact hg x h
    .rw[oX.mp h];exact⟨⟨_,rfl,pl⟩,l'⟩)
   exact⟨ts2,p2,oJ,t2,y,(ZmU ((ou (Zv c0 rfl (Ig q))).trans (Zv (fD rfl (mK k2)) rfl (YF (by rw[Yn];omega)))) hb').trans e,r1,r2,r3⟩
theorem ZpQ(hb:bs.length=8)(at_ v:Int)(M:Store):∃(ts:List bM) (n:Nat) (G:Store),Jt [Zn roll,Zk bs,.int ((60:Nat):Int),.int at_,.int v] M= .ok (.ref n) (M++G)/\(M++G)[n]?=Ya (.lst (ts.map aU))/\ts.length<=61/\0<ts.length/\∀x∈ts,Rk roll x:=by
 have pos:0<roll.length:=by obtain⟨q,x,e,_⟩:=R.last;rw[e];simp
 obtain⟨ts,p,bs',t,y,e,h1,h2,h3⟩:=ZrT R (d1:=Zk bs) (at_:=at_) (v:=v) (M:=M) 60 [(0,bs)] 0 bs [] 1000000 Ye rfl (by decide) hb pos (eV _) (Nat.succ_pos _) (λx hx=>by rw[oX.mp hx];exact⟨⟨0,rfl,pos⟩,hb⟩);refine⟨ts,M.length+2,[.lst (bs'.map D.int),.dct (bF t),.lst (ts.map aU)],?_,eZ _ _ 2,h1,h2,h3⟩;refine Ez (env:=[Ya (Zn roll),Ya (Zk bs),Ya (.int ((60:Nat):Int)),Ya (.int at_),Ya (.int v),Ye,Ye,Ye,Ye,Ye]) ?_ (by omega);have s8:b8 (Zb (aR (Zb (eC (.int 0)) (Zb (au dF (Zb (Za 1) (Zg))) (Zg)))) (Zg)) [Ya (Zn roll),Ya (Zk bs),Ya (.int ((60:Nat):Int)),Ya (.int at_),Ya (.int v),Ya (.int 0),Ya (.ref M.length),Ya (.ref (M.length+1)),Ye,Ye] (M++[.lst (bs.map D.int),.dct (bF [])])= .ok (.ref (M.length+2)) (dY M bs [] [(0,bs)]):=by refine(Az (M':=M++[.lst (bs.map D.int),.dct (bF [])]) (dh (i_ (dh rfl (dh rfl rfl)) rfl) rfl) rfl).trans ?_;simp[dY,aU,fV,Zk]
 refine(Zh (Zz (d:=.int 0) (M':=M) rfl)).trans ((Zh (Zz (d:=.ref M.length) (M':=M++[.lst (bs.map D.int)]) rfl)).trans ((Zh (Zz (d:=.ref (M.length+1)) (M':=M++[.lst (bs.map D.int),.dct (bF [])]) (by simp[bF]))).trans ((Zh (Zz s8)).trans ((Zh (f:=Dl lyC Rj) e).trans (cV rfl)))))
end
theorem ZwQ{G:Store}{x y:List D}:(M++ .lst x::G).set M.length (.lst y)=M++ .lst y::G:=by have:=wD M (.lst x::G) 0 (.lst y);simpa using this
theorem ZsJ(n:Nat):eQ 0 n=(dm n).map λ(k:Nat)=>D.int (k:Int):=by unfold eQ;refine Br λk _=>?_;rw[yw]
theorem Zks(h:f env M= .ok (.int (n:Int)) M)(hn:n<=1000):jP f env M= .ok ⟨(dm n).map λ(k:Nat)=>D.int (k:Int),Ye⟩ M:=by
 have hc:(n:Int)<=1000000/\ -1000000<=(n:Int):=by omega
 simp only[jP,h,R3.bind,if_pos hc,o4,ZsJ]
theorem Zju{α:Type}{enc h:α->D}{it:jx}{g:G3}{n:Nat}{elt:E3}{I:bI->Prop}{J:α->MO}:∀(as:List α) (acc:List D) (env:bI) (M G:Store),I env->M.length=n ->
  (∀a∈as,∀env,I env->∃dO,g (enc a) env=Ya dO/\I dO/\∀S,elt dO S= .ok (h a) (S++[J a]))->(∀x G,locked it (M++ .lst x::G)=true)->acc.length+as.length<=SZ ->
  ∃G',gR it g [] elt n (as.map enc) env (M++ .lst acc::G)= .ok (.ref n) (M++ .lst (acc++as.map h)::G')
 |[],acc,env,M,G,_,_,_,hl,_=>⟨G,by rw[yc,O9,if_pos (hl _ _),yc,Yr]⟩|a::as,acc,env,M,G,hI,hn,hf,hl,hz=>by
  obtain⟨dO,hg,hI1,he⟩:=hf a Ym env hI;have lt:acc.length<SZ:=by simp only[gW]at hz;omega
  obtain⟨G',ih⟩:=Zju as (acc++[h a]) dO M (G++[J a]) hI1 hn (λb hb=>hf b (Yu _ hb)) hl (by simp only[Y5,gW,x_]at hz ⊢;omega);refine⟨G',?_⟩;have e1:(M++ .lst acc::G)++[J a]=M++ .lst acc::(G++[J a]):=by simp
  have e2:(M++ .lst acc::(G++[J a]))[n]?=Ya (.lst acc):=by rw[←hn];exact dM _ _ _
  have e3:(M++ .lst acc::(G++[J a])).set n (.lst (acc++[h a]))=M++ .lst (acc++[h a])::(G++[J a]):=by rw[←hn];exact ZwQ
  rw[Yy,Dm,if_pos (hl _ _),hg];simp only[HX,R3.Fj,if_true,he,e1,e2,if_pos lt,e3];rw[ih];simp
noncomputable def Fe(s:cW):D:=.tup [.int s.place,Zk s.aF]
theorem Zmw(hi:env[i]?=Ya (Ya (.ref n)))(hM:M[n]?=Ya (.lst (ss.map cX)))(hz:ss.length<=100000):
  gh (jO (Za i)) 1 (dz env.length) [] (aR (Zb (e2 Ze (Za env.length) (eC (.int 0))) (Zb (e2 Ze (Za env.length) (eC (.int 1))) (Zg)))) env M= .ok (.ref M.length) (M++[.lst (ss.map Fe)]):=by
 refine ZuA (enc:=cX) (h:=Fe) (own:=1) (i:=env.length) (lock:=Ya n) (as:=ss) (M:=M) (M1:=M) (by simp[hi,hM]) (λm h=>by cases h;exact hM) (λs hs M=>?_) hz;have e:((env++Yj 1 Ye).set env.length (Ya (cX s)))[env.length]?=Ya (Ya (cX s)):=by simp
 generalize(env++Yj 1 Ye).set env.length (Ya (cX s))=env' at e;simp[e,cX,Fe]
theorem cell_eq(ns:List Int)(k:Nat)(hk:k<1000)(hns:ns.length<=63)(M:Store):∃v:Int,mU [.aQ (ns.map D.int),.int (k:Int)] M= .ok (.int v) M:=by
 have m1:fK 7 (k:Int)=true:=qO (by omega);have m2:fK (7*(k:Int)) (k:Int)=true:=mul_r (by omega);have m3:fK 13 (k:Int)=true:=qO (by omega);by_cases h:ns.length=0
 .exact⟨_,by simp[mU,Js,Zu,ao,aq,aD,aK,dJ,bR,gq,below,dN,h,m1,m2,m3];rfl⟩
 .obtain⟨a,ha,la⟩:=kO (k:Int) ns.length ((iG (eV _) (cU h)));have p0:0<ns.length:=lB 1 31526929 T1 la;have p1:(0:Int)<ns.length/\(ns.length:Int)<1073741824:=⟨iN [_] [] 1 149491217 T1 p0,iN [_] [] 1 0x400000008b0893f2b001 T1 hns⟩;exact⟨ns[a]+(k:Int) / ns.length,by simp[mU,Js,Zu,ao,aq,aD,aK,dJ,bR,gq,below,dN,h,p0,p1,ha,la]⟩
theorem ZiP{enc h:α->D}{p:α->Bool}{own:Nat}{it:I3}{c elt:E3}{M M1:Store}{lock:Option Nat}{as:List α}(hi:it env M= .ok ⟨as.map enc,lock⟩ M1)(Bf:∀n,lock=Ya n->M1[n]?=Ya (.lst (as.map enc)))(hc:∀a∈as,∀x,c ((env++Yj own Ye).set i (Ya (enc a))) (M1++[.lst x])= .ok (.bl (p a)) (M1++[.lst x]))(he:∀a∈as,p a=true->∀M,elt ((env++Yj own Ye).set i (Ya (enc a))) M= .ok (h a) M)(hz:as.length<=100000):
  gh it own (dz i) [c] elt env M= .ok (.ref M1.length) (M1++[.lst ((as.filter p).map h)]):=by
 have e1:∀x,(M1++[MO.lst []]).set M1.length (.lst x)=M1++[.lst x]:=λx=>by simp
 rw[Dr hi];have:=Py (it:=⟨as.map enc,lock⟩) (i:=i) (n:=M1.length) (c:=c) (elt:=elt) (env0:=env++Yj own Ye) as [] (env++Yj own Ye) (M1++[.lst []]) (λ_=>rfl) (λa ha x=>by rw[e1];exact hc a ha x) (λa ha hp x=>he a ha hp _)
  (λx=>by
   rw[e1];cases lock with
   |none=>rfl|some n=>exact decide_eq_true (cP (Bf n rfl) _)) (by simp) (by simp;exact lA 1 0xf42405b00186a05b001 T1 hz)
 rw[this,e1,vz]
inductive tK(M:Store)(o:O3):Prop
 |mk (ts:List bM) (us:List Use) (m m1 m2:Nat) (S:Store) (e:o= .rt (.ref m) S) (pre:M<+:S) (hm:M.length<=m) (t8:∀s∈ts,s.2.length=8) (lt:ts.length<=61) (lu:us.length<=60) (g0:S[m]?=Ya (.lst [.ref m1,.ref m2])) (g1:S[m1]?=Ya (.lst (ts.map aU))) (g2:S[m2]?=Ya (.lst (us.map Zm)))
variable{S:Store}
theorem tK.to{f g:S3}{env':bI}{S':Store}(h:f env S= .nx env' S')(k:tK M (g env' S')):tK M (Zu f g env S):=by rw[Zh h];exact k
theorem tK.ret{m1 m2:Nat}(h1:Za i env S= .ok (.ref m1) S)(h2:Za j env S= .ok (.ref m2) S)(pre:M<+:S)(t8:∀s∈ts,s.2.length=8)(lt:ts.length<=61)(lu:us.length<=60)(g1:S[m1]?=Ya (.lst (ts.map aU)))(g2:S[m2]?=Ya (.lst (us.map Zm))):tK M (aq (b8 (Zb (Za i) (Zb (Za j) (Zg)))) env S):=
 .mk ts us S.length m1 m2 (S++[.lst [.ref m1,.ref m2]]) (cV (Az (dh h1 (dh h2 rfl)) rfl)) (pre.trans (vo _ _)) pre.length_le t8 lt lu (dM _ _ _) (cP g1 _) (cP g2 _)
theorem ZqZ{ks:List Nat}{b:Nat}(h1:M[a]?=Ya (.lst (ks.map λk=>D.int ((k:Nat):Int))))(h2:M[b]?=Ya (.lst [])):aC (.ref a) (.ref b) M= .ok (.bl ks.isEmpty) M:=by
 have pu:(ks.map λk=>D.int ((k:Nat):Int)).all (b7 DEEP)=true:=by simp only[List.all_map,jJ];intro k _;exact uG _ _
 have e:kh (.ref a) (.ref b) M=Ya ks.isEmpty:=by rw[nR,h1,h2];simp only[pu,Bu,B_,if_true];cases ks<;>rfl
 show(match kh (.ref a) (.ref b) M with|some r=>R3.ok (D.bl r) M|none=>R3.bad)=_;rw[e]
theorem ZmM{vs:List Use}(S:qU us vs):vs.length=us.length:=S.perm.length_eq
theorem Rm(roll:bJ)(ts:List bM):(jF roll ts).length<=ts.length-1:=Y4 (FN _ _) (oU t6)
noncomputable abbrev ldK:S3:=Zu (aD (e2 aC (Za 12) (eC (.int 1))) (ao 11 (Za 5)) (aK)) (Zu (aD (e2 aC (Za 12) (eC (.int 2))) (ao 11 (gh (jO (Za 11)) 1 (dz 13) [e2 dw (e2 Ze (Za 13) (eC (.int 1))) (Za 8)] (Za 13))) (aK)) (Zu (aD (e2 aC (Za 12) (eC (.int 3))) (ao 11 (gh (jO (Za 11)) 1 (dz 13) [] (e2 Ze (b8 (Zb (Za 13) (Zb (e2 aM (bj (Za 13) (bB) (bD (eC (.int 3)))) (aR (Zb (Za 9) (Zg)))) (Zg)))) (au lU (Zb (e2 aC (e2 Ze (Za 13) (eC (.int 1))) (Za 8)) (Zg)))))) (aK)) (aq (b8 (Zb (Za 10) (Zb (Za 11) (Zg)))))))
theorem ZlJ{m:Nat}(h:Za i env S= .ok (.ref m) S)(hm:S[m]?=Ya (.lst xs)):jO (Za i) env S= .ok ⟨xs,Ya m⟩ S:=by show(Za i env S).bind _=_;rw[h,R3.Fj];show(match S[m]? with|some (.lst ds)=>R3.ok (⟨ds,Ya m⟩:jx) S|_=>R3.bad)=_;rw[hm]
theorem Zsm{e0 e1' e2' e3' e4 e6 e7:Option D}{k:Nat}{y:Int}{n5 n10 Bd:Nat}{m8 pQ:List Use}{kd:Nat}(pre:M<+:S)(t8:∀s∈ts,s.2.length=8)(lt:ts.length<=61)(l0:m8.length<=60)(l1:pQ.length<=60)(g5:S[n5]?=Ya (.lst (m8.map Zm)))(JL:S[n10]?=Ya (.lst (ts.map aU)))(Ff:S[Bd]?=Ya (.lst (pQ.map Zm))):
  tK M (ldK [e0,e1',e2',e3',e4,Ya (.ref n5),e6,e7,Ya (.int (k:Int)),Ya (.int y),Ya (.ref n10),Ya (.ref Bd),Ya (.int (kd:Int))] S):=by
 have cc:∀(j:Nat) (e11:Option D) (S:Store) (b:Bool),decide (((kd:Nat):Int)=(j:Int))=b->e2 aC (Za 12) (eC (.int (j:Int))) [e0,e1',e2',e3',e4,Ya (.ref n5),e6,e7,Ya (.int (k:Int)),Ya (.int y),Ya (.ref n10),e11,Ya (.int (kd:Int))] S= .ok (.bl b) S:=λj e11 S b h=>Zv rfl rfl (by rw[←h];rfl);by_cases q1:((kd:Nat):Int)=((1:Nat):Int)
 .have n2:¬((kd:Nat):Int)=((2:Nat):Int):=by omega
  have n3:¬((kd:Nat):Int)=((3:Nat):Int):=by omega
  exact .to ((bG (cc 1 _ S true (decide_eq_true q1))).trans (Zz rfl)) (.to (Zr (cc 2 _ S false (decide_eq_false n2))) (.to (Zr (cc 3 _ S false (decide_eq_false n3))) (.ret rfl rfl pre t8 lt l0 JL g5)))
 refine .to (Zr (cc 1 _ S false (decide_eq_false q1))) ?_;by_cases q2:((kd:Nat):Int)=((2:Nat):Int)
 .have n3:¬((kd:Nat):Int)=((3:Nat):Int):=by omega
  have lc:=ZiP (α:=Use) (enc:=Zm) (h:=Zm) (p:=λu=>!decide (u.time=(k:Int))) (own:=1) (i:=13) (it:=jO (Za 11)) (c:=e2 dw (e2 Ze (Za 13) (eC (.int 1))) (Za 8)) (elt:=Za 13) (env:=[e0,e1',e2',e3',e4,Ya (.ref n5),e6,e7,Ya (.int (k:Int)),Ya (.int y),Ya (.ref n10),Ya (.ref Bd),Ya (.int (kd:Int))]) (M:=S) (M1:=S) (lock:=Ya Bd) (as:=pQ) (ZlJ rfl Ff) (λm h=>by cases h;exact Ff) (λu _ x=>Zv (M1:=S++[.lst x]) (M2:=S++[.lst x]) (a:=.int u.time) (b:=.int (k:Int)) (Zv rfl rfl rfl) rfl rfl) (λu _ _ M=>rfl) (by omega);refine .to ((bG (cc 2 _ S true (decide_eq_true q2))).trans (Zz lc)) (.to (Zr (cc 3 _ _ false (decide_eq_false n3))) (.ret (us:=pQ.filter λu=>!decide (u.time=(k:Int))) rfl rfl (pre.trans (vo _ _)) t8 lt (Y4 (Ug _ _) l1) (cP JL _) (dM _ _ _)))
 refine .to (Zr (cc 2 _ S false (decide_eq_false q2))) ?_;by_cases q3:((kd:Nat):Int)=((3:Nat):Int)
 .let env:=[e0,e1',e2',e3',e4,Ya (.ref n5),e6,e7,Ya (.int (k:Int)),Ya (.int y),Ya (.ref n10),Ya (.ref Bd),Ya (.int (kd:Int))]
  let hf:Use->Use:=λu=>if u.time=(k:Int)then⟨u.num,u.time,u.word,y⟩else u
  have hel:∀(u:Use) (S':Store),e2 Ze (b8 (Zb (Za 13) (Zb (e2 aM (bj (Za 13) (bB) (bD (eC (.int 3)))) (aR (Zb (Za 9) (Zg)))) (Zg)))) (au lU (Zb (e2 aC (e2 Ze (Za 13) (eC (.int 1))) (Za 8)) (Zg))) (env++[Ya (Zm u)]) S'= .ok (Zm (hf u)) (S'++[.lst [Zm u,Zm ⟨u.num,u.time,u.word,y⟩]]):=λu S'=>by
   have l:b8 (Zb (Za 13) (Zb (e2 aM (bj (Za 13) (bB) (bD (eC (.int 3)))) (aR (Zb (Za 9) (Zg)))) (Zg))) (env++[Ya (Zm u)]) S'= .ok (.ref S'.length) (S'++[.lst [Zm u,Zm ⟨u.num,u.time,u.word,y⟩]]):=Az (dh rfl (dh (Zv (M1:=S') (M2:=S') (a:=.tup [.int u.num,.int u.time,.str u.word]) (b:=.tup [.int y]) rfl (i_ (dh rfl rfl) rfl) ((pg _ _).trans (if_pos (show 3+1<=SZ by decide)))) rfl)) rfl;have b:au lU (Zb (e2 aC (e2 Ze (Za 13) (eC (.int 1))) (Za 8)) (Zg)) (env++[Ya (Zm u)]) (S'++[.lst [Zm u,Zm ⟨u.num,u.time,u.word,y⟩]])= .ok (.int (if u.time=(k:Int)then 1 else 0)) (S'++[.lst [Zm u,Zm ⟨u.num,u.time,u.word,y⟩]]):=by
    by_cases c:u.time=(k:Int)
    .rw[if_pos c];exact fD (Zv (Zv rfl rfl rfl) rfl (YH c)) rfl
    .rw[if_neg c];exact fD (Zv (Zv rfl rfl rfl) rfl (Zxb c)) rfl
   refine Zv l b (sO (dM _ _ _) ?_);by_cases c:u.time=(k:Int)
   .show cO _ (if u.time=(k:Int)then 1 else 0)=Ya (Zm (if u.time=(k:Int)then _ else u));rw[if_pos c,if_pos c];rfl
   .show cO _ (if u.time=(k:Int)then 1 else 0)=Ya (Zm (if u.time=(k:Int)then _ else u));rw[if_neg c,if_neg c];rfl
  obtain⟨G',lp⟩:=Zju (α:=Use) (enc:=Zm) (h:=λu=>Zm (hf u)) (it:=⟨pQ.map Zm,Ya Bd⟩) (g:=dz 13) (n:=S.length) (elt:=e2 Ze (b8 (Zb (Za 13) (Zb (e2 aM (bj (Za 13) (bB) (bD (eC (.int 3)))) (aR (Zb (Za 9) (Zg)))) (Zg)))) (au lU (Zb (e2 aC (e2 Ze (Za 13) (eC (.int 1))) (Za 8)) (Zg)))) (I:=λe=>∃z,e=env++[z]) (J:=λu=>.lst [Zm u,Zm ⟨u.num,u.time,u.word,y⟩]) pQ [] (env++[Ye]) S [] ⟨Ye,rfl⟩ rfl
   (λu _ e ⟨z,he⟩=>⟨env++[Ya (Zm u)],by rw[he];rfl,⟨_,rfl⟩,hel u⟩) (λx G=>decide_eq_true (cP Ff _)) (by rw[x_,tV];exact Y4 l1 (by decide))
  have lc:gh (jO (Za 11)) 1 (dz 13) [] (e2 Ze (b8 (Zb (Za 13) (Zb (e2 aM (bj (Za 13) (bB) (bD (eC (.int 3)))) (aR (Zb (Za 9) (Zg)))) (Zg)))) (au lU (Zb (e2 aC (e2 Ze (Za 13) (eC (.int 1))) (Za 8)) (Zg)))) env S= .ok (.ref S.length) (S++ .lst (pQ.map λu=>Zm (hf u))::G'):=(Dr (ZlJ rfl Ff)).trans lp;refine .to ((bG (cc 3 _ S true (decide_eq_true q3))).trans (Zz lc)) (.ret (us:=pQ.map hf) rfl rfl (pre.trans (vo _ _)) t8 lt (by rw[Yn];exact l1) (cP JL _) ?_);rw[oZ];exact dM _ _ _
 .exact .to (Zr (cc 3 _ S false (decide_eq_false q3))) (.ret rfl rfl pre t8 lt l1 JL Ff)
theorem Zt4{F:F3}{f g h k l:E3}{M M1 M2 M3 M4 M5 M6:Store}{a b c e r:D}(h1:f env M= .ok a M1)(h2:g env M1= .ok b M2)(h3:h env M2= .ok c M3)(h4:k env M3= .ok d M4)(h5:l env M4= .ok e M5)(h6:F [a,b,c,d,e] M5= .ok r M6):aH F (Zb f (Zb g (Zb h (Zb k (Zb l Zg))))) env M= .ok r M6:=by simp only[aH,Zb,Zg,R3.bind,h1,h2,h3,h4,h5,h6]
theorem Zrx{ns:List Int}(hns:ns.length<=63)(R:eU roll){bs:List Int}(hb:bs.length=8)(hg:∀s∈ss,Good roll s)(h0:0<ss.length)(hz:ss.length<=61)(hM:M[n]?=Ya (.lst (ss.map cX))):
  ∃(ts:List bM) (us:List Use) (m m1 m2:Nat) (G:Store),(∀s∈ts,s.2.length=8)/\ts.length<=61/\us.length<=60/\xq [.aQ (ns.map D.int),Zn roll,Zk bs,.ref n] M= .ok (.ref m) (M++G)/\(M++G)[m]?=Ya (.lst [.ref m1,.ref m2])/\(M++G)[m1]?=Ya (.lst (ts.map aU))/\(M++G)[m2]?=Ya (.lst (us.map Zm)):=by
 have key:tK M (Jv [Ya (.aQ (ns.map D.int)),Ya (Zn roll),Ya (Zk bs),Ya (.ref n),Ye,Ye,Ye,Ye,Ye,Ye,Ye,Ye,Ye] M):=by
  unfold Jv;have lc:=Zmw (env:=[Ya (.aQ (ns.map D.int)),Ya (Zn roll),Ya (Zk bs),Ya (.ref n),Ye,Ye,Ye,Ye,Ye,Ye,Ye,Ye,Ye]) (i:=3) rfl hM (by omega)
  let ts:=ss.map cg
  have e0:ss.map Fe=ts.map aU:=by rw[oZ];rfl
  rw[e0]at lc;have lt:ts.length=ss.length:=Yn ..;have t8:∀s∈ts,s.2.length=8:=λs hs=>by obtain⟨x,hx,rfl⟩:=iR.mp hs;exact(hg x hx).bx
  refine .to (Zz lc) ?_
  let M1:=M++[MO.lst (ts.map aU)]
  have eI:ss.map cX=(ss.map λs=>((cg s,[gM s.cells]):Itm)).map oN:=by rw[oZ];rfl
  have g1:M1[M.length]?=Ya (.lst (ts.map aU)):=dM _ _ _;have hM1:M1[n]?=Ya (.lst ((ss.map λs=>((cg s,[gM s.cells]):Itm)).map oN)):=by rw[←eI];exact cP hM _
  obtain⟨m8,S0,hu0⟩:=Ri R hM1 (λx hx=>by obtain⟨s,hs,rfl⟩:=iR.mp hx;exact⟨⟨s.place,rfl,(hg s hs).pl⟩,(hg s hs).bx⟩) (by rw[Yn];exact h0) (by rw[Yn];omega);have l0:m8.length<=60:=by rw[ZmM S0];refine Y4 (Rm _ _) ?_;rw[Yn,Yn];omega
  let M2:=M1++[MO.lst (m8.map Zm)]
  refine .to (Zz (d:=.ref M1.length) (M':=M2) (fD (iz rfl rfl hu0) rfl)) ?_;have p2:M<+:M2:=⟨[MO.lst (ts.map aU),.lst (m8.map Zm)],by simp[M2,M1]⟩;have k1:M2[M.length]?=Ya (.lst (ts.map aU)):=cP g1 _;have k2:M2[M1.length]?=Ya (.lst (m8.map Zm)):=dM _ _ _
  let q:Nat->Bool:=λt=>match(ts[t]?).bind λs=>gD roll s.1 with|some r=>decide (jc r=[103,101,116])|none=>false
  have Ko:∀t,t<ts.length->∃(p:Nat) (r:Row) (b:List Int),ts[t]?=Ya (((p:Nat):Int),b)/\roll[p]?=Ya r/\b.length=8:=λt ht=>by have i0:ts[t]?=Ya (ts[t]'ht):=Yi _;have hm:=Y1 ht;obtain⟨s,hs,e⟩:=iR.mp hm;have gp:=(hg s hs).pl;exact⟨s.place,roll[s.place],s.aF,by rw[i0,←e];rfl,by simp[gp],(hg s hs).bx⟩
  let E6:bI:=[Ya (.aQ (ns.map D.int)),Ya (Zn roll),Ya (Zk bs),Ya (.ref n),Ya (.ref M.length),Ya (.ref M1.length),Ye,Ye,Ye,Ye,Ye,Ye,Ye]
  have Kw:∀{t:Nat} {s:bM} {S:Store},ts[t]?=Ya s->S[M.length]?=Ya (.lst (ts.map aU))->Ze (.ref M.length) (.int (t:Int)) S= .ok (aU s) S:=λ{t s S} h1 h2=>sO h2 (by rw[mJ,Yx,h1];rfl);have fl:=ZiP (α:=Nat) (enc:=λk=>D.int (k:Int)) (h:=λk=>D.int (k:Int)) (p:=q) (own:=1) (i:=13) (it:=jP (e2 eO (au bw (Zb (Za 4) (Zg))) (eC (.int 1)))) (c:=e2 aC (e2 Ze (e2 Ze (Za 1) (e2 Ze (e2 Ze (Za 4) (Za 13)) (eC (.int 0)))) (eC (.int 0))) (eC (.str [103,101,116]))) (elt:=Za 13) (env:=E6) (M:=M2) (M1:=M2) (lock:=Ye) (as:=dm (ts.length-1)) (Zks (n:=ts.length-1) (by
    refine Zv (fD rfl (mK k1)) rfl ?_;rw[Yn];show R3.ok (D.int ((ts.length:Int)-1)) M2=_;rw[show((ts.length:Int)-1)=((ts.length-1:Nat):Int)by omega]) (by omega)) (λ_ h=>by cases h) (λt ht x=>by
    obtain⟨p,r,b,h1,h2,_⟩:=Ko t (by have:=pR.mp ht;omega);have eq:q t=decide (jc r=[103,101,116]):=by show(match(ts[t]?).bind λs=>gD roll s.1 with|some r=>decide (jc r=[103,101,116])|none=>false)=_;rw[h1,iV,m7 h2]
    rw[eq];exact Zv (Zv (Zv rfl (Zv (Zv rfl rfl (Kw h1 (cP k1 _))) rfl rfl) (tD h2)) rfl (uY r _)) rfl rfl) (λ_ _ _ _=>rfl) (by rw[t6];omega)
  let ks:=(dm (ts.length-1)).filter q
  let M3:=M2++[MO.lst (ks.map λk=>D.int ((k:Nat):Int))]
  refine .to (Zz (d:=.ref M2.length) (M':=M3) fl) ?_;have p3:M<+:M3:=p2.trans (vo _ _);have k3:M3[M2.length]?=Ya (.lst (ks.map λk=>D.int ((k:Nat):Int))):=dM _ _ _;have k1:M3[M.length]?=Ya (.lst (ts.map aU)):=cP k1 _;have k2:M3[M1.length]?=Ya (.lst (m8.map Zm)):=cP k2 _;obtain⟨c1,hc1⟩:=cell_eq ns 1 (by decide) hns M3;obtain⟨v,hv⟩:=Aq c1 900 (by decide) (by decide);refine .to (Zz (d:=.int v) (M':=M3) (iz (iz rfl rfl hc1) rfl (hv M3))) ?_
  let E8:bI:=[Ya (.aQ (ns.map D.int)),Ya (Zn roll),Ya (Zk bs),Ya (.ref n),Ya (.ref M.length),Ya (.ref M1.length),Ya (.ref M2.length),Ya (.int v),Ye,Ye,Ye,Ye,Ye]
  have ca:∀b,decide (v % 2=0)=b->e2 aC (e2 aZ (Za 7) (eC (.int 2))) (eC (.int 0)) E8 M3= .ok (.bl b) M3:=λb h=>Zv (Zv rfl rfl (pB (by decide))) rfl (by rw[←h];rfl);by_cases h2:v % 2=0
  .rw[show∀(f g h:S3),Zu (aD _ f g) h=Zu (aD _ f g) h fromλ_ _ _=>rfl];obtain⟨a1,a2,a3,a4,a5,a6,a7,a8,a9,a10,a11,a12,a13,a14,a15⟩:=tK.ret (M:=M) (S:=M3) (env:=E8) (i:=4) (j:=5) (ts:=ts) (us:=m8) rfl rfl p3 t8 (by omega) l0 k1 k2;exact⟨a1,a2,a3,a4,a5,a6,(cB ((bG (YJ (ca true (decide_eq_true h2)))).trans a7)),a8,a9,a10,a11,a12,a13,a14,a15⟩
  let M4:=M3++[MO.lst []]
  have Rn:M4[M2.length]?=Ya (.lst (ks.map λk=>D.int ((k:Nat):Int))):=cP k3 _;have cb:iM (e2 aC (e2 aZ (Za 7) (eC (.int 2))) (eC (.int 0))) (e2 aC (Za 6) (b8 (Zg))) E8 M3= .ok (.bl ks.isEmpty) M4:=(uJ (ca false (decide_eq_false h2))).trans (Zv rfl (Az (M':=M3) (ds:=[]) rfl rfl) (ZqZ Rn (dM _ _ _)));have p4:M<+:M4:=p3.trans (vo _ _);have k1:M4[M.length]?=Ya (.lst (ts.map aU)):=cP k1 _;have k2:M4[M1.length]?=Ya (.lst (m8.map Zm)):=cP k2 _;cases hk:ks with
  |nil=>rw[hk]at cb;obtain⟨a1,a2,a3,a4,a5,a6,a7,a8,a9,a10,a11,a12,a13,a14,a15⟩:=tK.ret (M:=M) (S:=M4) (env:=E8) (i:=4) (j:=5) (ts:=ts) (us:=m8) rfl rfl p4 t8 (by omega) l0 k1 k2;exact⟨a1,a2,a3,a4,a5,a6,(cB ((bG cb).trans a7)),a8,a9,a10,a11,a12,a13,a14,a15⟩|cons k0 kr=>
   have hpos:0<ks.length:=by rw[hk];exact Nat.succ_pos _
   rw[hk]at cb;refine .to (Zr cb) ?_;rw[←hk]at *;obtain⟨a,ha,la⟩:=kO (v / 2) ks.length hpos;have ka:ks[a]?=Ya (ks[a]'la):=Yi _;have hmem:ks[a]'la∈ks:=Y1 la;generalize ks[a]'la=t at ka hmem;obtain⟨ht1,Jk⟩:=iY.mp hmem;have ht:=pR.mp ht1;obtain⟨p,r,b,h1,hr,lb⟩:=Ko t (by omega);obtain⟨p',r',b',h1',_,lb'⟩:=Ko (t+1) (by omega);have hq:jc r=[103,101,116]:=by
    have e:q t=decide (jc r=[103,101,116]):=by show(match(ts[t]?).bind λs=>gD roll s.1 with|some r=>decide (jc r=[103,101,116])|none=>false)=_;rw[h1,iV,m7 hr]
    rw[e]at Jk;exact of_decide_eq_true Jk
   obtain⟨x,z,rfl⟩:∃a b,r= .get a b:=by cases r<;>first|exact⟨_,_,rfl⟩|exact absurd hq (of_decide_eq_true rfl)
   have ro:=R.rows _ (jo hr);obtain⟨y,_,gy⟩:=fL lb' ro.1;refine .to (Zz (d:=.int (t:Int)) (M':=M4) (Zv rfl (Zv (a:=.int (v / 2)) (b:=.int (ks.length:Int)) (M1:=M4) (M2:=M4) (Zv rfl rfl (xH (by decide))) (fD rfl ((mK Rn).trans (by rw[Yn]))) ((pB (by omega)).trans (by rw[show v / 2 % (ks.length:Int)=(a:Int)from ha]))) (sO Rn (by rw[mJ,Yx,ka];rfl)))) ?_;refine .to (Zz (d:=.int y) (M':=M4) (Zv (Zv (Zv rfl (Zv rfl rfl rfl) (Kw (t:=t+1) h1' k1)) rfl rfl) (Zv (Zv rfl (Zv (Zv rfl rfl (Kw h1 k1)) rfl rfl) (tD hr)) rfl rfl) (wG gy))) ?_;obtain⟨w,hw⟩:=Q0 (v / 512);obtain⟨ts',n',G',hly,gl,lt',l0',hg'⟩:=ZpQ R hb ((t:Nat):Int) (y+w) M4;refine .to (Zz (d:=.ref n') (M':=M4++G') (Zt4 (M1:=M4) (M2:=M4) (M3:=M4) (M4:=M4) (M5:=M4) (c:=.int ((60:Nat):Int)) (d:=.int ((t:Nat):Int)) (e:=.int (y+w)) rfl rfl rfl rfl (Zv rfl (wF (Zv rfl rfl (xH (by decide))) (hw M4)) rfl) hly)) ?_;have eT:ts'.map aU=(ts'.map λs=>((s,[]):Itm)).map oN:=by rw[oZ];rfl
   obtain⟨pQ,S1,hu1⟩:=Ri R (its:=ts'.map λs=>((s,[]):Itm)) (n:=n') (M:=M4++G') (by rw[←eT];exact gl) (λx hx=>by obtain⟨s,hs,rfl⟩:=iR.mp hx;exact⟨(hg' s hs).1,(hg' s hs).2⟩) (by rw[Yn];exact l0') (by rw[Yn];omega);have l1:pQ.length<=60:=by rw[ZmM S1];refine Y4 (Rm _ _) ?_;rw[Yn,Yn];omega
   let M6:=(M4++G')++[MO.lst (pQ.map Zm)]
   refine .to (Zz (d:=.ref (M4++G').length) (M':=M6) (fD (iz rfl rfl hu1) rfl)) ?_;obtain⟨kd,hkd,_⟩:=kO (v / 128) 4 (by decide);refine .to (Zz (d:=.int (kd:Int)) (M':=M6) (Zv (Zv rfl rfl (xH (by decide))) rfl ((pB (by decide)).trans (by rw[show v / 128 % 4=(kd:Int)from hkd])))) ?_;exact Zsm ((p4.trans (vo _ _)).trans (vo _ _)) (λs hs=>(hg' s hs).2) lt' l0 l1 (cP (cP k2 _) _) (cP gl _) (dM _ _ _)
 obtain⟨ts,us,m,m1,m2,S,e,⟨G,rfl⟩,hm,t8,lt,lu,g0,g1,g2⟩:=key;exact⟨ts,us,m,m1,m2,G,t8,lt,lu,Ez e hm,g0,g1,g2⟩
theorem Xa{hi:sy}{a b:Option Int}(h1:f env M= .ok (.tup xs) M)(h2:lo env M= .ok a M)(h3:hi env M= .ok b M):bj f lo hi env M= .ok (.tup (cutD xs a b)) M:=by simp only[bj,h1,h2,h3,R3.bind,lJ,lK,lM,lO]
theorem ZtL{hi:sy}{a b:Option Int}(h1:f env M= .ok (.ref n) M)(hM:M[n]?=Ya (.lst xs))(h2:lo env M= .ok a M)(h3:hi env M= .ok b M):bj f lo hi env M= .ok (.ref M.length) (M++[.lst (cutD xs a b)]):=by simp only[bj,h1,h2,h3,R3.bind,lJ,lK,lM,lO,hM,alloc]
theorem Zmm{α:Type}{f:α->D}(h:∀a b,eG (f a) (f b)=true↔a=b):∀xs ys:List α,fQ (xs.map f) (ys.map f)=true↔xs=ys
 |[],[]=>⟨λ_=>rfl,λ_=>rfl⟩|[],_::_=>⟨λz=>Mj (z:false=true),λz=>nomatch z⟩|_::_,[]=>⟨λz=>Mj (z:false=true),λz=>nomatch z⟩|a::xs,b::ys=>by rw[Yy,Yy,rZ,Y0,h,Zmm h xs ys,Cg]
theorem Zso(a b:Use):eG (Zm a) (Zm b)=true↔a=b:=by obtain⟨n,t,w,v⟩:=a;obtain⟨n',t',w',v'⟩:=b;simp only[Zm,qw,rZ,yJ,uz,uD,Y0,beq_iff_eq,BZ,Use.mk.injEq]
theorem Zqu(a b:bM):eG (aU a) (aU b)=true↔a=b:=by have e:eG (aU a) (aU b)=decide (a=b):=Zn0 a b;rw[e,decide_eq_true_eq]
theorem Zoa{f:α->D}(h:∀a b,eG (f a) (f b)=true↔a=b)(hp:∀a,b7 DEEP (f a)=true)(xs ys:List α)(M:Store):∃b:Bool,aC (.tup (xs.map f)) (.tup (ys.map f)) M= .ok (.bl b) M/\(b=true↔xs=ys):=by
 have p:∀l:List α,(l.map f).all (b7 DEEP)=true:=λl=>jJ.mpr λd hd=>by obtain⟨a,_,rfl⟩:=iR.mp hd;exact hp a
 refine⟨fQ (xs.map f) (ys.map f),?_,Zmm h xs ys⟩;have e:kh (.tup (xs.map f)) (.tup (ys.map f)) M=Ya (fQ (xs.map f) (ys.map f)):=by rw[nT,p xs,p ys];rfl
 show(match kh (.tup (xs.map f)) (.tup (ys.map f)) M with|some r=>R3.ok (D.bl r) M|none=>R3.bad)=_;rw[e]
theorem ZqL(u:Use):b7 DEEP (Zm u)=true:=by show[D.int u.num,D.int u.time,D.str u.word,D.int u.val].all _=true;simp[uG,YB]
theorem ZpB(s:bM):b7 DEEP (aU s)=true:=by simp[aU,fV,Zk,DEEP,Oo,Oq,Ot,Ou,Ov,uG]
theorem Zo3(R:eU roll){bs:List Int}(lb:bs.length=8)(lt:ts.length<=63)(hl:(cY roll 70 ⟨0,bs,[]⟩).getLast?=Ya s)(S:ts=(cY roll 70 ⟨0,bs,[]⟩).map cg->qU (jF roll ((cY roll 70 ⟨0,bs,[]⟩).map cg)) cA):
  mZ roll bs ts us=Ye↔jB roll s=true/\ts=(cY roll 70 ⟨0,bs,[]⟩).map cg/\us=cA:=by
 have pos:0<roll.length:=by obtain⟨q,x,e,_⟩:=R.last;rw[e];simp
 have C:=ZiQ roll 70 ⟨0,bs,[]⟩;have G:∀x∈cY roll 70 ⟨0,bs,[]⟩,Good roll x:=λx hx=>Pz R 70 ⟨0,bs,[]⟩ ⟨pos,lb,by simp[iB]⟩ x hx;have H:=Zka roll 70 ⟨0,bs,[]⟩;have gp:=(G s (K5 hl)).pl;have hr:roll[s.place]?=Ya roll[s.place]:=by simp[gp]
 have hh:lX roll (((cY roll 70 ⟨0,bs,[]⟩).map cg).getLastD (0,[])).1=jB roll s:=by rw[Fz,K9,hl];show lX roll ((s.place:Nat):Int)=_;unfold lX jB;rw[m7 hr,hr]
 have strict:∀{vs:List Use},qU (jF roll ((cY roll 70 ⟨0,bs,[]⟩).map cg)) vs->vs.Pairwise u5:=λ{vs} S=>by
  rw[←Zoi R C G]at S;have ne:vs.Pairwise λa b=>a.time≠b.time:=by
   have h:=EY roll (cY roll 70 ⟨0,bs,[]⟩) ((cY roll 70 ⟨0,bs,[]⟩).length-1);have h':(h_ roll (cY roll 70 ⟨0,bs,[]⟩) ((cY roll 70 ⟨0,bs,[]⟩).length-1)).Pairwise λa b=>a.time≠b.time:=h.imp λ{a b} q=>by omega
   exact(S.perm.pairwise_iff (λ{a b} q=>cU q)).mpr h'
  exact(S.ord.and ne).imp λ{a b} q=>by obtain⟨q1,q2⟩:=q;show a.num<b.num\/_;omega
 refine⟨λh=>?_,λ⟨h1,h2,h3⟩=>?_⟩
 .obtain⟨e1,e2,e3,e4⟩:=Zp5 R lb h;have et:=(e1 70 (by omega)).symm;have S':=S et;rw[et]at e2 e3;rw[hh]at e2;exact⟨e2,et,Zjg (e3.trans S'.perm.symm) e4 (strict S')⟩
 .have S':=S h2;subst h3;rw[h2];unfold mZ;rw[Znc R C G H hl,h1,if_pos rfl];rw[←Zoi R C G]at S';exact Znl R C G (λx hx=>by rw[H]at hx;cases hx;rfl) S'
theorem Zn9{bs:List Int}{k:Nat}(FI:∀(ts:List bM) (us cA:List Use),ts.length<=63->(ts=ss.map cg->qU (jF roll (ss.map cg)) cA)->(mZ roll bs ts us=Ye↔jB roll s=true/\ts=ss.map cg/\us=cA))(lt:ts.length<=61+(0+k))(lk:k<3)(h:mZ roll bs ts us=Ye):jB roll s=true/\ts=ss.map cg/\True:=by
 by_cases c:(jF roll (ss.map cg)).length<64
 .obtain⟨cA,S,_⟩:=Zi8 _ c;obtain⟨a,b,_⟩:=(FI ts us cA (by omega) λ_=>S).mp h;exact⟨a,b,trivial⟩
 .have ne:ts≠ss.map cg:=λe=>by
   have h1:=Rm roll (ss.map cg);rw[←e]at h1 c;omega
  obtain⟨_,b,_⟩:=(FI ts us [] (by omega) λe=>absurd e ne).mp h;exact absurd b ne
noncomputable abbrev Ro:S3:=sS (aH xj (Zb (Za 1) (Zb (Za 4) (Zb (Za 5) (Zb (aH g_ (Zb (aH mU (Zb (Za 0) (Zb (e2 aM (eC (.int 3)) (Za 6)) (Zg)))) (Zb (e2 aM (eC (.int 920)) (Za 6)) (Zg)))) (Zg)))))) [4,5]
theorem law_holds:∀ns:List Int,ns.length<=63->∃M',Zoj [.aQ (ns.map D.int)] []= .ok (.bl true) M':=by
 intro ns hns;obtain⟨roll,Aet,R,h1⟩:=ZrL ns [];obtain⟨bs,lb,h2⟩:=Zp9 ns [];obtain⟨n,G,hn,h3,g0⟩:=Zqq R [] lb;rw[vz]at h3 g0;have pos:0<roll.length:=by obtain⟨q,x,e,_⟩:=R.last;rw[e];simp
 have hgood:∀s∈cY roll 70 ⟨0,bs,[]⟩,Good roll s:=λs hs=>Pz R 70 ⟨0,bs,[]⟩ ⟨pos,lb,by simp[iB]⟩ s hs;have hl:=ZC roll 70 ⟨0,bs,[]⟩;have hne:=Zr3 roll 70 ⟨0,bs,[]⟩;have hl0:0<(cY roll 70 ⟨0,bs,[]⟩).length:=List.length_pos_iff.mpr hne;obtain⟨s,hs⟩:∃s,(cY roll 70 ⟨0,bs,[]⟩).getLast?=Ya s:=⟨_,List.getLast?_eq_some_getLast hne⟩;have FI:=λ(ts:List bM) (us cA:List Use) (lt:ts.length<=63)=>Zo3 R lb (ts:=ts) (us:=us) (cA:=cA) lt hs;generalize cY roll 70 ⟨0,bs,[]⟩=ss at *;refine Rt.law (env:=[Ya (.aQ (ns.map D.int)),Ye,Ye,Ye,Ye,Ye,Ye,Ye,Ye]) ?_;unfold QT;refine Rt.set (d:=Zn roll) (M':=[]) (wF rfl h1) ?_;refine Rt.set (d:=Zk bs) (M':=[]) (wF rfl h2) ?_;refine Rt.set (d:=.ref n) (M':=G) (jC (M1:=[]) (M2:=[]) (M3:=[]) (a:=Zn roll) (b:=Zk bs) (c:=.int ((70:Nat):Int)) rfl rfl rfl h3) ?_
 let G1:=G++[MO.lst ((ss.take 61).map cX)]
 have hsl:bj (Za 3) (bB) (bD (eC (.int 61))) [Ya (.aQ (ns.map D.int)),Ya (Zn roll),Ya (Zk bs),Ya (.ref n),Ye,Ye,Ye,Ye,Ye] G= .ok (.ref G.length) G1:=by
  have c:cutD (ss.map cX) Ye (Ya ((61:Nat):Int))=(ss.take 61).map cX:=by rw[xF,Gd]
  have e:=ZtL (f:=Za 3) (lo:=bB) (hi:=bD (eC (.int 61))) (env:=[Ya (.aQ (ns.map D.int)),Ya (Zn roll),Ya (Zk bs),Ya (.ref n),Ye,Ye,Ye,Ye,Ye]) (M:=G) (n:=n) (xs:=ss.map cX) (a:=Ye) (b:=Ya ((61:Nat):Int)) rfl g0 rfl rfl;rw[c]at e;exact e
 obtain⟨ts0,m8,m,m1,m2,G2,t8,lt0,lu0,hld,gm,gt0,gu0⟩:=Zrx hns R lb (ss:=ss.take 61) (λx hx=>hgood x (K4 hx)) (by rw[xY];omega) (by rw[xY];omega) (n:=G.length) (M:=G1) (dM _ _ _);have s45:sS (aH xq (Zb (Za 0) (Zb (Za 1) (Zb (Za 2) (Zb (bj (Za 3) (bB) (bD (eC (.int 61)))) (Zg)))))) [4,5] [Ya (.aQ (ns.map D.int)),Ya (Zn roll),Ya (Zk bs),Ya (.ref n),Ye,Ye,Ye,Ye,Ye] G= .nx [Ya (.aQ (ns.map D.int)),Ya (Zn roll),Ya (Zk bs),Ya (.ref n),Ya (.ref m1),Ya (.ref m2),Ye,Ye,Ye] (G1++G2):=by have cl:=yW (F:=xq) (f:=Za 0) (g:=Za 1) (h:=Za 2) (k:=bj (Za 3) (bB) (bD (eC (.int 61)))) (env:=[Ya (.aQ (ns.map D.int)),Ya (Zn roll),Ya (Zk bs),Ya (.ref n),Ye,Ye,Ye,Ye,Ye]) (M:=G) rfl rfl rfl hsl hld;simp only[sS,cl,gm,HS,HW,xW,xX]
 have gn:(G1++G2)[n]?=Ya (.lst (ss.map cX)):=cP (cP g0 _) _;rw[show∀g:S3,Rt (Zu (sS (aH xq (Zb (Za 0) (Zb (Za 1) (Zb (Za 2) (Zb (bj (Za 3) (bB) (bD (eC (.int 61)))) (Zg)))))) [4,5]) g [Ya (.aQ (ns.map D.int)),Ya (Zn roll),Ya (Zk bs),Ya (.ref n),Ye,Ye,Ye,Ye,Ye] G) (.bl true)=Rt (g [Ya (.aQ (ns.map D.int)),Ya (Zn roll),Ya (Zk bs),Ya (.ref n),Ya (.ref m1),Ya (.ref m2),Ye,Ye,Ye] (G1++G2)) (.bl true)fromλg=>by rw[Zh s45]];generalize G1++G2=M0 at gt0 gu0 gn;obtain⟨c1,hc1⟩:=cell_eq ns 2 (by decide) hns M0;obtain⟨v1,hv1⟩:=Aq c1 910 (by decide) (by decide);obtain⟨mm,hmm,lm⟩:=kO v1 3 (by decide);have ir:jP (e2 aZ (aH g_ (Zb (aH mU (Zb (Za 0) (Zb (eC (.int 2)) (Zg)))) (Zb (eC (.int 910)) (Zg)))) (eC (.int 3))) [Ya (.aQ (ns.map D.int)),Ya (Zn roll),Ya (Zk bs),Ya (.ref n),Ya (.ref m1),Ya (.ref m2),Ye,Ye,Ye] M0= .ok ⟨eQ 0 mm,Ye⟩ M0:=by rw[ZsJ];exact Zks (Zv (iz (iz rfl rfl hc1) rfl (hv1 M0)) rfl ((pB (by decide)).trans (by rw[show v1 % 3=(mm:Int)from hmm]))) (by omega)
 obtain⟨e',M',lp,ts,us,m1,m2,x6,t8,lt,lu,rfl,gt,gu,gn⟩:=Pk (it:=⟨eQ 0 mm,Ye⟩) (g:=dz 6) (body:=Ro)
  (P:=λj env M'=>∃(ts:List bM) (us:List Use) (m1 m2:Nat) (x6:Option D),(∀s∈ts,s.2.length=8)/\ts.length<=61+j/\us.length<=60+j/\env=[Ya (.aQ (ns.map D.int)),Ya (Zn roll),Ya (Zk bs),Ya (.ref n),Ya (.ref m1),Ya (.ref m2),x6,Ye,Ye]/\M'[m1]?=Ya (.lst (ts.map aU))/\M'[m2]?=Ya (.lst (us.map Zm))/\M'[n]?=Ya (.lst (ss.map cX)))
  (eQ 0 mm) 0 [Ya (.aQ (ns.map D.int)),Ya (Zn roll),Ya (Zk bs),Ya (.ref n),Ya (.ref m1),Ya (.ref m2),Ye,Ye,Ye] M0 ⟨ts0,m8,m1,m2,Ye,t8,lt0,lu0,rfl,gt0,gu0,gn⟩ (λ_ _ _ _=>rfl)
  (λk d hd env M' ⟨ts,us,m1,m2,x6,t8,lt,lu,he,g1,g2,gn⟩=>by
   obtain⟨rfl,lk⟩:=Ie hd;subst he;obtain⟨c,hc⟩:=cell_eq ns (3+k) (by omega) hns M';obtain⟨v,hv⟩:=Aq c (920+k) (by omega) (by omega);have hc':mU [.aQ (ns.map D.int),.int (3+(k:Int))] M'= .ok (.int c) M':=hc;have hv':g_ [.int c,.int (920+(k:Int))] M'= .ok (.int v) M':=hv M';obtain⟨ts',us',m1',m2',m,G',t8',lt',lu',htc,gm,g1',g2'⟩:=Zhr roll ts t8 (by omega) us (by omega) m1 m2 v M' g1 g2;have cl:aH xj (Zb (Za 1) (Zb (Za 4) (Zb (Za 5) (Zb (aH g_ (Zb (aH mU (Zb (Za 0) (Zb (e2 aM (eC (.int 3)) (Za 6)) (Zg)))) (Zb (e2 aM (eC (.int 920)) (Za 6)) (Zg)))) (Zg))))) [Ya (.aQ (ns.map D.int)),Ya (Zn roll),Ya (Zk bs),Ya (.ref n),Ya (.ref m1),Ya (.ref m2),Ya (.int (k:Int)),Ye,Ye] M'= .ok (.ref m) (M'++G'):=yW rfl rfl rfl (iz (iz rfl (Zv rfl rfl rfl) hc') (Zv rfl rfl rfl) hv') htc;have s8:Ro [Ya (.aQ (ns.map D.int)),Ya (Zn roll),Ya (Zk bs),Ya (.ref n),Ya (.ref m1),Ya (.ref m2),Ya (.int (k:Int)),Ye,Ye] M'= .nx [Ya (.aQ (ns.map D.int)),Ya (Zn roll),Ya (Zk bs),Ya (.ref n),Ya (.ref m1'),Ya (.ref m2'),Ya (.int (k:Int)),Ye,Ye] (M'++G'):=by simp only[Ro,sS,cl,gm,HS,HW,xW,xX]
   exact⟨_,_,_,rfl,s8,ts',us',m1',m2',_,t8',by omega,by omega,rfl,g1',g2',cP gn _⟩)
 rw[Ds]at lt lu;refine Rt.loop ir lp ?_;have lc:=Zmw (env:=[Ya (.aQ (ns.map D.int)),Ya (Zn roll),Ya (Zk bs),Ya (.ref n),Ya (.ref m1),Ya (.ref m2),x6,Ye,Ye]) (i:=3) rfl gn (by omega);have e0:ss.map Fe=(ss.map cg).map aU:=by rw[oZ];rfl
 rw[e0]at lc
 let M1:=M'++[MO.lst ((ss.map cg).map aU)]
 refine Rt.set (d:=cu (ss.map cg)) (M':=M1) (fD lc (uI (dM _ _ _))) ?_;have gt:M1[m1]?=Ya (.lst (ts.map aU)):=cP gt _;have gu:M1[m2]?=Ya (.lst (us.map Zm)):=cP gu _;have gn:M1[n]?=Ya (.lst (ss.map cX)):=cP gn _
 let E8:Option D->bI:=λx=>[Ya (.aQ (ns.map D.int)),Ya (Zn roll),Ya (Zk bs),Ya (.ref n),Ya (.ref m1),Ya (.ref m2),x6,Ya (cu (ss.map cg)),x]
 have b4:∀x,au dF (Zb (Za 4) (Zg)) (E8 x) M1= .ok (.tup (ts.map aU)) M1:=λx=>fD rfl (uI gt);have b5:∀x,au dF (Zb (Za 5) (Zg)) (E8 x) M1= .ok (.tup (us.map Zm)) M1:=λx=>fD rfl (uI gu);have gs:=hgood s (K5 hs);have gp:=gs.pl;have hr:roll[s.place]?=Ya roll[s.place]:=by simp[gp]
 have Bh:e2 aC (e2 Ze (e2 Ze (Za 1) (e2 Ze (e2 Ze (Za 3) (e1 mF (eC (.int 1)))) (eC (.int 0)))) (eC (.int 0))) (eC (.str [104,97,108,116])) (E8 Ye) M1= .ok (.bl (jB roll s)) M1:=by
  have gl:cO (ss.map cX) (-1)=Ya (cX s):=by rw[Zpn,K9,hs];rfl
  refine Zv (Zv (Zv rfl (Zv (Zv rfl (uH rfl (Oz 1)) (sO gn gl)) rfl rfl) (tD hr)) rfl (uY _ _)) rfl ?_;have:jB roll s=decide (jc roll[s.place]=[104,97,108,116]):=by unfold jB;rw[hr];exact Q6 _
  rw[this];rfl
 obtain⟨bt,et,ht⟩:=Zoa Zqu ZpB ts (ss.map cg) M1;have fa:=ZpS roll R bs ts t8 us M1 (by omega);have eI:ss.map cX=(ss.map λs=>((cg s,[gM s.cells]):Itm)).map oN:=by rw[oZ];rfl
 have ets:(ss.map λs=>((cg s,[gM s.cells]):Itm)).map (·.1)=ss.map cg:=by rw[oZ];rfl
 have key:∃b:Bool,eN (e2 aC (e2 Ze (e2 Ze (Za 1) (e2 Ze (e2 Ze (Za 3) (e1 mF (eC (.int 1)))) (eC (.int 0)))) (eC (.int 0))) (eC (.str [104,97,108,116]))) (eN (e2 aC (au dF (Zb (Za 4) (Zg))) (Za 7)) (e2 aC (au dF (Zb (Za 5) (Zg))) (aH uV (Zb (Za 1) (Zb (Za 3) (Zg)))))) (E8 Ye) M1= .ok (.bl b) M1/\(b=true↔mZ roll bs ts us=Ye):=by
  by_cases c1:jB roll s=true
  .rw[c1]at Bh;have e2':e2 aC (au dF (Zb (Za 4) (Zg))) (Za 7) (E8 Ye) M1= .ok (.bl bt) M1:=Zv (b4 Ye) rfl et;cases hbt:bt with
   |false=>refine⟨false,(ou Bh).trans (wH (by rw[hbt]at e2';exact e2')),⟨(λz=>nomatch z),λh=>?_⟩⟩;obtain⟨_,JM,_⟩:=Zn9 FI lt lm h;rw[hbt]at ht;exact ht.mpr JM|true=>
    have JM:=ht.mp hbt;have ls:ss.length<=63:=by have:=congrArg vB JM;rw[Yn]at this;omega
    obtain⟨cA,S2,hu2⟩:=Ri R (its:=ss.map λs=>((cg s,[gM s.cells]):Itm)) (n:=n) (M:=M1) (by rw[←eI];exact gn) (λx hx=>by obtain⟨s,hs,rfl⟩:=iR.mp hx;exact⟨⟨s.place,rfl,(hgood s hs).pl⟩,(hgood s hs).bx⟩) (by rw[Yn];exact hl0) (by rw[Yn];omega);rw[ets]at S2;obtain⟨bu,eu,hu⟩:=Zoa Zso ZqL us cA M1;refine⟨bu,(ou Bh).trans ((ou (by rw[hbt]at e2';exact e2')).trans (Zv (b5 Ye) (iz rfl rfl hu2) eu)),?_⟩;rw[FI ts us cA (by omega) (λ_=>S2),hu];exact⟨λh=>⟨c1,JM,h⟩,λh=>h.2.2⟩
  .have c1':jB roll s=false:=Vb.mpr c1;rw[c1']at Bh;refine⟨false,wH Bh,⟨(λz=>nomatch z),λh=>?_⟩⟩;exact absurd (Zn9 FI lt lm h).1 c1
 obtain⟨b,eb,hb⟩:=key;refine Rt.set (d:=.bl b) (M':=M1) eb ?_;have ef:mY (mZ roll bs ts us)= .non↔mZ roll bs ts us=Ye:=by
  cases mZ roll bs ts us with
  |none=>exact⟨λ_=>rfl,λ_=>rfl⟩|some p=>exact⟨(λz=>nomatch z),(λz=>nomatch z)⟩
 have eis:e2 su (aH Em (Zb (Za 1) (Zb (Za 2) (Zb (au dF (Zb (Za 4) (Zg))) (Zb (au dF (Zb (Za 5) (Zg))) (Zg)))))) (eC .non) (E8 (Ya (.bl b))) M1= .ok (.bl b) M1:=by
  refine Zv (yW rfl rfl (b4 _) (b5 _) fa) rfl (Zr9.trans ?_);congr 2;by_cases h:mZ roll bs ts us=Ye
  .rw[decide_eq_true (ef.mpr h),hb.mpr h]
  .rw[decide_eq_false (λz=>h (ef.mp z)),Vb.mpr (λz=>h (hb.mp z))]
 refine Rt.ret (M':=M1) (Zv eis rfl ?_);show(match Ya (decide (b=b))with|some r=>R3.ok (D.bl r) M1|none=>R3.bad)=_;rw[decide_eq_true rfl]
end Law
set_option maxHeartbeats 400000
namespace Law
open PySem PySem.Spec PyProof.Rows L2 L3
variable{P:List Yg->Prop}
theorem uZ(h:P []):∀us:List Yg,us.length=0->P us:=λus e=>(Bo e)▸h
theorem uS{n:Nat}(h:∀a us,us.length=n->P (a::us))(us:List Yg)(e:us.length=n+1):P us:=by
 cases us with
 |nil=>exact absurd e (Nat.succ_ne_zero n).symm|cons a us=>exact h a us (Nat.succ.inj e)
variable{xa:aj}
theorem JN(h:∀a,P [a]):∀us:List Yg,us.length=[xa].length->P us:=uS λa=>uZ (h a)
variable{xb:aj}
theorem qW(h:∀a b,P [a,b]):∀us:List Yg,us.length=[xa,xb].length->P us:=uS λa=>uS λb=>uZ (h a b)
theorem m9{xc:aj}(h:∀a b c,P [a,b,c]):∀us:List Yg,us.length=[xa,xb,xc].length->P us:=uS λa=>uS λb=>uS λc=>uZ (h a b c)
theorem Fg{xc xd:aj}(h:∀a b c d,P [a,b,c,d]):∀us:List Yg,us.length=[xa,xb,xc,xd].length->P us:=uS λa=>uS λb=>uS λc=>uS λd=>uZ (h a b c d)
theorem ub5{xc xd xe:aj}(h:∀a b c d e,P [a,b,c,d,e]):∀us:List Yg,us.length=[xa,xb,xc,xd,xe].length->P us:=uS λa=>uS λb=>uS λc=>uS λd=>uS λe=>uZ (h a b c d e)
theorem ZtI{l:PySem.W.OpenLaw}{w:bO}{K:W.Frag}{h:aY}{mg:aj->Option Yg}{fa f0 f1 f2 f3 f4 f5 f6 f7 f8 f9 Rp f11 Rq Rr Ru Rv Rw Rx Ry Rz RB RD RG RJ RK RL RM RN RP RQ RT RV f32 RW:Yz}(X:K.In h)(G:h.Ns Ys mg)(hfa:mg "law" =Ya (.ref fa)){od0 an0 od1 an1 od2 an2 od3 an3 od4 an4 od5 an5 od6 an6 od7 an7 od8 an8 od9 an9 Abh Abi Abj Abk Abl Abm Abn Abo Abp Abq Abr Abs Abt Abu Abv Abw Abx Aby Abz AbA AbB AbC AbD AbE AbF AbG AbH AbI AbJ AbK AbL AbM AbN AbO AbP AbQ AbR AbS AbT AbU AbV AbW AbX AbY AbZ Ab0 Ab1 Su:Option Yz}{sl0 sl1 sl2 sl3 sl4 sl5 sl6 sl7 sl8 sl9 Ab2 Ab3 Ab4 Ab5 Ab6 Ab7 Ab8 Ab9 Aca Acb Acd Ace Acf Acg Ach Aci Acj Ack Acl Acm Acn Aco Acp Acq:Array (Option Yg)}{oc0 kV0 dc0 pm0 cd0 ct0 oc1 kV1 dc1 pm1 cd1 ct1 oc2 kV2 dc2 pm2 cd2 ct2 oc3 kV3 dc3 pm3 cd3 ct3 oc4 kV4 dc4 pm4 cd4 ct4 oc5 kV5 dc5 pm5 cd5 ct5 oc6 kV6 dc6 pm6 cd6 ct6 oc7 kV7 dc7 pm7 cd7 ct7 oc8 kV8 dc8 pm8 cd8 ct8 oc9 kV9 dc9 pm9 cd9 ct9 Acr Acs Acu Acv Sv Acw Acx Acy Acz AcA Sw AcB AcC AcD AcE AcF Sx AcG AcH AcI AcJ AcK Sy AcL AcM AcN AcO AcP SJ AcQ AcR AcS AcT AcU SM AcV AcW AcX AcY AcZ SN Ac0 Ac1 Ac2 Ac3 Ac4 SQ Ac5 Ac6 Ac7 Ac8 Ac9 SX Ada Adb Adc Ade Adf S6 Adg Adh Adi Adj Adk S8 Adl Adm Adn Ado Adp S_ Adq Ads Adt Adu Adv Tc Adw Adx Ady Adz AdA Td AdB AdC AdD AdE AdF Te AdG AdH AdI AdJ AdK Tf AdL AdM AdN AdO AdP Tg AdQ AdR AdS AdT AdU Th AdV AdW AdX AdY AdZ Ti Ad0 Ad1 Ad2 Ad3 Ad4 Tj Ad5 Ad6 Ad7 Ad8 Ad9 Tn Aea Aeb Aec Aed Aee Tp Aef Aeg Aeh Aei Aej Tq Aek Ael Tr Tt Tu Ky Tv:Yg}(a0:cT K Ys "next_place" =Ya (Ya (.ref f0)))(l0:K.lookup f0=Ya ⟨oc0,od0,.func (dR "next_place" "next_place" (dg zG) (cM zG) (Zt zG) .none kV0 dc0 pm0 an0 cd0 ct0),sl0⟩)(c0:dZ K cd0 "next_place" =true)(k0:d7 K (.ref f0)=true)(a1:cT K Ys "worked" =Ya (Ya (.ref f1)))(l1:K.lookup f1=Ya ⟨oc1,od1,.func (dR "worked" "worked" (dg zJ) (cM zJ) (Zt zJ) .none kV1 dc1 pm1 an1 cd1 ct1),sl1⟩)(c1:dZ K cd1 "worked" =true)(k1:d7 K (.ref f1)=true)(a2:cT K Ys "with_box" =Ya (Ya (.ref f2)))(l2:K.lookup f2=Ya ⟨oc2,od2,.func (dR "with_box" "with_box" (dg zK) (cM zK) (Zt zK) .none kV2 dc2 pm2 an2 cd2 ct2),sl2⟩)(c2:dZ K cd2 "with_box" =true)(k2:d7 K (.ref f2)=true)(a3:cT K Ys "cell_value" =Ya (Ya (.ref f3)))(l3:K.lookup f3=Ya ⟨oc3,od3,.func (dR "cell_value" "cell_value" (dg zM) (cM zM) (Zt zM) .none kV3 dc3 pm3 an3 cd3 ct3),sl3⟩)(c3:dZ K cd3 "cell_value" =true)(k3:d7 K (.ref f3)=true)(a4:cT K Ys "next_boxes" =Ya (Ya (.ref f4)))(l4:K.lookup f4=Ya ⟨oc4,od4,.func (dR "next_boxes" "next_boxes" (dg zH) (cM zH) (Zt zH) .none kV4 dc4 pm4 an4 cd4 ct4),sl4⟩)(c4:dZ K cd4 "next_boxes" =true)(k4:d7 K (.ref f4)=true)(a5:cT K Ys "is_within" =Ya (Ya (.ref f5)))(l5:K.lookup f5=Ya ⟨oc5,od5,.func (dR "is_within" "is_within" (dg zN) (cM zN) (Zt zN) .none kV5 dc5 pm5 an5 cd5 ct5),sl5⟩)(c5:dZ K cd5 "is_within" =true)(k5:d7 K (.ref f5)=true)(a6:cT K Ys "is_use" =Ya (Ya (.ref f6)))(l6:K.lookup f6=Ya ⟨oc6,od6,.func (dR "is_use" "is_use" (dg zO) (cM zO) (Zt zO) .none kV6 dc6 pm6 an6 cd6 ct6),sl6⟩)(c6:dZ K cd6 "is_use" =true)(k6:d7 K (.ref f6)=true)(a7:cT K Ys "cell_number" =Ya (Ya (.ref f7)))(l7:K.lookup f7=Ya ⟨oc7,od7,.func (dR "cell_number" "cell_number" (dg zP) (cM zP) (Zt zP) .none kV7 dc7 pm7 an7 cd7 ct7),sl7⟩)(c7:dZ K cd7 "cell_number" =true)(k7:d7 K (.ref f7)=true)(a8:cT K Ys "row_at" =Ya (Ya (.ref f8)))(l8:K.lookup f8=Ya ⟨oc8,od8,.func (dR "row_at" "row_at" (dg zR) (cM zR) (Zt zR) .none kV8 dc8 pm8 an8 cd8 ct8),sl8⟩)(c8:dZ K cd8 "row_at" =true)(k8:d7 K (.ref f8)=true)(a9:cT K Ys "boxes_behind" =Ya (Ya (.ref f9)))(l9:K.lookup f9=Ya ⟨oc9,od9,.func (dR "boxes_behind" "boxes_behind" (dg zT) (cM zT) (Zt zT) .none kV9 dc9 pm9 an9 cd9 ct9),sl9⟩)(c9:dZ K cd9 "boxes_behind" =true)(k9:d7 K (.ref f9)=true)(a10:cT K Ys "step_fits" =Ya (Ya (.ref Rp)))(l10:K.lookup Rp=Ya ⟨Acr,Abh,.func (dR "step_fits" "step_fits" (dg zQ) (cM zQ) (Zt zQ) .none Acs Acu Acv Abi Sv Acw),Ab2⟩)(c10:dZ K Sv "step_fits" =true)(k10:d7 K (.ref Rp)=true)(a11:cT K Ys "use_fits" =Ya (Ya (.ref f11)))(l11:K.lookup f11=Ya ⟨Acx,Abj,.func (dR "use_fits" "use_fits" (dg zU) (cM zU) (Zt zU) .none Acy Acz AcA Abk Sw AcB),Ab3⟩)(c11:dZ K Sw "use_fits" =true)(k11:d7 K (.ref f11)=true)(a12:cT K Ys "use_matches" =Ya (Ya (.ref Rq)))(l12:K.lookup Rq=Ya ⟨AcC,Abl,.func (dR "use_matches" "use_matches" (dg zV) (cM zV) (Zt zV) .none AcD AcE AcF Abm Sx AcG),Ab4⟩)(c12:dZ K Sx "use_matches" =true)(k12:d7 K (.ref Rq)=true)(a13:cT K Ys "first_unfit_step" =Ya (Ya (.ref Rr)))(l13:K.lookup Rr=Ya ⟨AcH,Abn,.func (dR "first_unfit_step" "first_unfit_step" (dg zW) (cM zW) (Zt zW) .none AcI AcJ AcK Abo Sy AcL),Ab5⟩)(c13:dZ K Sy "first_unfit_step" =true)(k13:d7 K (.ref Rr)=true)(a14:cT K Ys "first_unfit_use" =Ya (Ya (.ref Ru)))(l14:K.lookup Ru=Ya ⟨AcM,Abp,.func (dR "first_unfit_use" "first_unfit_use" (dg zX) (cM zX) (Zt zX) .none AcN AcO AcP Abq SJ AcQ),Ab6⟩)(c14:dZ K SJ "first_unfit_use" =true)(k14:d7 K (.ref Ru)=true)(a15:cT K Ys "first_unmatched_use" =Ya (Ya (.ref Rv)))(l15:K.lookup Rv=Ya ⟨AcR,Abr,.func (dR "first_unmatched_use" "first_unmatched_use" (dg zY) (cM zY) (Zt zY) .none AcS AcT AcU Abs SM AcV),Ab7⟩)(c15:dZ K SM "first_unmatched_use" =true)(k15:d7 K (.ref Rv)=true)(a16:cT K Ys "fault_of_steps" =Ya (Ya (.ref Rw)))(l16:K.lookup Rw=Ya ⟨AcW,Abt,.func (dR "fault_of_steps" "fault_of_steps" (dg z6) (cM z6) (Zt z6) .none AcX AcY AcZ Abu SN Ac0),Ab8⟩)(c16:dZ K SN "fault_of_steps" =true)(JB:d7 K (.ref Rw)=true)(a17:cT K Ys "fault_of_uses" =Ya (Ya (.ref Rx)))(l17:K.lookup Rx=Ya ⟨Ac1,Abv,.func (dR "fault_of_uses" "fault_of_uses" (dg z7) (cM z7) (Zt z7) .none Ac2 Ac3 Ac4 Abw SQ Ac5),Ab9⟩)(c17:dZ K SQ "fault_of_uses" =true)(k17:d7 K (.ref Rx)=true)(a18:cT K Ys "fault" =Ya (Ya (.ref Ry)))(l18:K.lookup Ry=Ya ⟨Ac6,Abx,.func (dR "fault" "fault" (dg zZ) (cM zZ) (Zt zZ) .none Ac7 Ac8 Ac9 Aby SX Ada),Aca⟩)(c18:dZ K SX "fault" =true)(k18:d7 K (.ref Ry)=true)(a19:cT K Ys "_law_mix" =Ya (Ya (.ref Rz)))(l19:K.lookup Rz=Ya ⟨Adb,Abz,.func (dR "_law_mix" "_law_mix" (dg z8) (cM z8) (Zt z8) .none Adc Ade Adf AbA S6 Adg),Acb⟩)(c19:dZ K S6 "_law_mix" =true)(k19:d7 K (.ref Rz)=true)(a20:cT K Ys "_law_number" =Ya (Ya (.ref RB)))(l20:K.lookup RB=Ya ⟨Adh,AbB,.func (dR "_law_number" "_law_number" (dg z9) (cM z9) (Zt z9) .none Adi Adj Adk AbC S8 Adl),Acd⟩)(c20:dZ K S8 "_law_number" =true)(k20:d7 K (.ref RB)=true)(a21:cT K Ys "_law_row" =Ya (Ya (.ref RD)))(l21:K.lookup RD=Ya ⟨Adm,AbD,.func (dR "_law_row" "_law_row" (dg z_) (cM z_) (Zt z_) .none Adn Ado Adp AbE S_ Adq),Ace⟩)(c21:dZ K S_ "_law_row" =true)(k21:d7 K (.ref RD)=true)(a22:cT K Ys "_law_roll" =Ya (Ya (.ref RG)))(l22:K.lookup RG=Ya ⟨Ads,AbF,.func (dR "_law_roll" "_law_roll" (dg Aa) (cM Aa) (Zt Aa) .none Adt Adu Adv AbG Tc Adw),Acf⟩)(c22:dZ K Tc "_law_roll" =true)(k22:d7 K (.ref RG)=true)(a23:cT K Ys "_law_boxes" =Ya (Ya (.ref RJ)))(l23:K.lookup RJ=Ya ⟨Adx,AbH,.func (dR "_law_boxes" "_law_boxes" (dg Ab) (cM Ab) (Zt Ab) .none Ady Adz AdA AbI Td AdB),Acg⟩)(c23:dZ K Td "_law_boxes" =true)(k23:d7 K (.ref RJ)=true)(a24:cT K Ys "_law_goes" =Ya (Ya (.ref RK)))(l24:K.lookup RK=Ya ⟨AdC,AbJ,.func (dR "_law_goes" "_law_goes" (dg Ac) (cM Ac) (Zt Ac) .none AdD AdE AdF AbK Te AdG),Ach⟩)(c24:dZ K Te "_law_goes" =true)(k24:d7 K (.ref RK)=true)(a25:cT K Ys "_law_states" =Ya (Ya (.ref RL)))(l25:K.lookup RL=Ya ⟨AdH,AbL,.func (dR "_law_states" "_law_states" (dg Ad) (cM Ad) (Zt Ad) .none AdI AdJ AdK AbM Tf AdL),Aci⟩)(c25:dZ K Tf "_law_states" =true)(k25:d7 K (.ref RL)=true)(a26:cT K Ys "_law_uses" =Ya (Ya (.ref RM)))(l26:K.lookup RM=Ya ⟨AdM,AbN,.func (dR "_law_uses" "_law_uses" (dg Ae) (cM Ae) (Zt Ae) .none AdN AdO AdP AbO Tg AdQ),Acj⟩)(c26:dZ K Tg "_law_uses" =true)(k26:d7 K (.ref RM)=true)(a27:cT K Ys "_law_cell" =Ya (Ya (.ref RN)))(l27:K.lookup RN=Ya ⟨AdR,AbP,.func (dR "_law_cell" "_law_cell" (dg Af) (cM Af) (Zt Af) .none AdS AdT AdU AbQ Th AdV),Ack⟩)(c27:dZ K Th "_law_cell" =true)(k27:d7 K (.ref RN)=true)(a28:cT K Ys "_law_lying" =Ya (Ya (.ref RP)))(l28:K.lookup RP=Ya ⟨AdW,AbR,.func (dR "_law_lying" "_law_lying" (dg Ag) (cM Ag) (Zt Ag) .none AdX AdY AdZ AbS Ti Ad0),Acl⟩)(c28:dZ K Ti "_law_lying" =true)(k28:d7 K (.ref RP)=true)(a29:cT K Ys "_law_steps_changed" =Ya (Ya (.ref RQ)))(l29:K.lookup RQ=Ya ⟨Ad1,AbT,.func (dR "_law_steps_changed" "_law_steps_changed" (dg Ah) (cM Ah) (Zt Ah) .none Ad2 Ad3 Ad4 AbU Tj Ad5),Acm⟩)(c29:dZ K Tj "_law_steps_changed" =true)(k29:d7 K (.ref RQ)=true)(a30:cT K Ys "_law_uses_changed" =Ya (Ya (.ref RT)))(l30:K.lookup RT=Ya ⟨Ad6,AbV,.func (dR "_law_uses_changed" "_law_uses_changed" (dg Ai) (cM Ai) (Zt Ai) .none Ad7 Ad8 Ad9 AbW Tn Aea),Acn⟩)(c30:dZ K Tn "_law_uses_changed" =true)(k30:d7 K (.ref RT)=true)(a31:cT K Ys "_law_tables_changed" =Ya (Ya (.ref RV)))(l31:K.lookup RV=Ya ⟨Aeb,AbX,.func (dR "_law_tables_changed" "_law_tables_changed" (dg Aj) (cM Aj) (Zt Aj) .none Aec Aed Aee AbY Tp Aef),Aco⟩)(c31:dZ K Tp "_law_tables_changed" =true)(k31:d7 K (.ref RV)=true)(a32:cT K Ys "_law_lied" =Ya (Ya (.ref f32)))(l32:K.lookup f32=Ya ⟨Aeg,AbZ,.func (dR "_law_lied" "_law_lied" (dg Ak) (cM Ak) (Zt Ak) .none Aeh Aei Aej Ab0 Tq Aek),Acp⟩)(c32:dZ K Tq "_law_lied" =true)(k32:d7 K (.ref f32)=true)(a33:cT K Ys "law" =Ya (Ya (.ref RW)))(l33:K.lookup RW=Ya ⟨Ael,Ab1,.func (dR "law" "law" (dg sY) (cM sY) (Zt sY) .none Tr Tt Tu Su Ky Tv),Acq⟩)(c33:dZ K Ky "law" =true)(k33:d7 K (.ref RW)=true)(AaV:cT K Ys "dict" =Ya Ye)(Aau:cT K Ys "enumerate" =Ya Ye)(AaZ:cT K Ys "int" =Ya Ye)(Aa0:cT K Ys "len" =Ya Ye)(AaW:cT K Ys "list" =Ya Ye)(AaM:cT K Ys "range" =Ya Ye)(AaH:cT K Ys "sorted" =Ya Ye)(AaN:cT K Ys "tuple" =Ya Ye):
  ∃fd:mq,(∀(s:Yh) (v:Yg),yj s fd ⟨[v],[]⟩ [("script",v)])/\∀base:aY,K.In base->base.Ns Ys mg->o9 l.prog w K mg base o_ 8 fa fd ["script"] (zm K 1 Zoj):=by
 have e:=hfa.symm.trans (W.mg_of X G a33);cases e;have T:Txt K mg:=⟨trivial,tQ X G AaV,tQ X G Aau,tQ X G AaZ,tQ X G Aa0,tQ X G AaW,tQ X G AaM,tQ X G AaH,tQ X G AaN⟩;have Aao:bC K mg "next_place" zG ["row","place","boxes"]:=eE X G a0 l0 c0 k0 (Binds.all (m9 λ_ _ _=>rfl));have AaI:bC K mg "worked" zJ ["name","one","other"]:=eE X G a1 l1 c1 k1 (Binds.all (m9 λ_ _ _=>rfl));have AaC:bC K mg "with_box" zK ["boxes","box","value"]:=eE X G a2 l2 c2 k2 (Binds.all (m9 λ_ _ _=>rfl));have Aap:bC K mg "cell_value" zM ["cells","number"]:=eE X G a3 l3 c3 k3 (Binds.all (qW λ_ _=>rfl));have Aaq:bC K mg "next_boxes" zH ["row","boxes","cells"]:=eE X G a4 l4 c4 k4 (Binds.all (m9 λ_ _ _=>rfl));have Aav:bC K mg "is_within" zN ["number","many"]:=eE X G a5 l5 c5 k5 (Binds.all (qW λ_ _=>rfl));have AaJ:bC K mg "is_use" zO ["row"]:=eE X G a6 l6 c6 k6 (Binds.all (JN λ_=>rfl));have Aak:bC K mg "cell_number" zP ["row","boxes"]:=eE X G a7 l7 c7 k7 (Binds.all (qW λ_ _=>rfl));have AaK:bC K mg "row_at" zR ["roll","place"]:=eE X G a8 l8 c8 k8 (Binds.all (qW λ_ _=>rfl));have Aaj:bC K mg "boxes_behind" zT ["roll_row","boxes","told_boxes"]:=eE X G a9 l9 c9 k9 (Binds.all (m9 λ_ _ _=>rfl));have Aaw:bC K mg "step_fits" zQ ["roll","row","behind"]:=eE X G a10 l10 c10 k10 (Binds.all (m9 λ_ _ _=>rfl));have AaD:bC K mg "use_fits" zU ["ahead","row"]:=eE X G a11 l11 c11 k11 (Binds.all (qW λ_ _=>rfl));have Aal:bC K mg "use_matches" zV ["roll","steps","row"]:=eE X G a12 l12 c12 k12 (Binds.all (m9 λ_ _ _=>rfl));have Aae:bC K mg "first_unfit_step" zW ["roll","steps"]:=eE X G a13 l13 c13 k13 (Binds.all (qW λ_ _=>rfl));have Aag:bC K mg "first_unfit_use" zX ["ahead","uses"]:=eE X G a14 l14 c14 k14 (Binds.all (qW λ_ _=>rfl));have Aaa:bC K mg "first_unmatched_use" zY ["roll","steps","uses"]:=eE X G a15 l15 c15 k15 (Binds.all (m9 λ_ _ _=>rfl));have Aah:bC K mg "fault_of_steps" z6 ["roll","boxes","steps"]:=eE X G a16 l16 c16 JB (Binds.all (m9 λ_ _ _=>rfl));have Aai:bC K mg "fault_of_uses" z7 ["roll","steps","uses"]:=eE X G a17 l17 c17 k17 (Binds.all (m9 λ_ _ _=>rfl));have AaO:bC K mg "fault" zZ ["roll","boxes","steps","uses"]:=eE X G a18 l18 c18 k18 (Binds.all (Fg λ_ _ _ _=>rfl));have AaE:bC K mg "_law_mix" z8 ["cell","k"]:=eE X G a19 l19 c19 k19 (Binds.all (qW λ_ _=>rfl));have Aam:bC K mg "_law_number" z9 ["number"]:=eE X G a20 l20 c20 k20 (Binds.all (JN λ_=>rfl));have AaF:bC K mg "_law_row" z_ ["cell","k","size"]:=eE X G a21 l21 c21 k21 (Binds.all (m9 λ_ _ _=>rfl));have Aax:bC K mg "_law_roll" Aa ["script"]:=eE X G a22 l22 c22 k22 (Binds.all (JN λ_=>rfl))
 have Aar:bC K mg "_law_boxes" Ab ["script"]:=eE X G a23 l23 c23 k23 (Binds.all (JN λ_=>rfl));have Aay:bC K mg "_law_goes" Ac ["row","place","boxes","cells"]:=eE X G a24 l24 c24 k24 (Binds.all (Fg λ_ _ _ _=>rfl));have Aan:bC K mg "_law_states" Ad ["roll","first","most"]:=eE X G a25 l25 c25 k25 (Binds.all (m9 λ_ _ _=>rfl));have Aaz:bC K mg "_law_uses" Ae ["roll","states"]:=eE X G a26 l26 c26 k26 (Binds.all (qW λ_ _=>rfl));have AaA:bC K mg "_law_cell" Af ["script","k"]:=eE X G a27 l27 c27 k27 (Binds.all (qW λ_ _=>rfl));have Aas:bC K mg "_law_lying" Ag ["roll","first","most","at","value"]:=eE X G a28 l28 c28 k28 (Binds.all (ub5 λ_ _ _ _ _=>rfl));have Aac:bC K mg "_law_steps_changed" Ah ["roll","steps","kind","more"]:=eE X G a29 l29 c29 k29 (Binds.all (Fg λ_ _ _ _=>rfl));have Aad:bC K mg "_law_uses_changed" Ai ["uses","kind","more"]:=eE X G a30 l30 c30 k30 (Binds.all (m9 λ_ _ _=>rfl));have Aab:bC K mg "_law_tables_changed" Aj ["roll","steps","uses","cell"]:=eE X G a31 l31 c31 k31 (Binds.all (Fg λ_ _ _ _=>rfl));have AaB:bC K mg "_law_lied" Ak ["script","roll","boxes","states"]:=eE X G a32 l32 c32 k32 (Binds.all (Fg λ_ _ _ _=>rfl));refine⟨dR "law" "law" (dg sY) (cM sY) (Zt sY) .none Tr Tt Tu Su Ky Tv,λs v=>.of_eq rfl,λbase _ _=>?_⟩;have J5:=ZjS (P:=l.prog) (w:=w) (base:=base) Aao T;have Kf:=Zpm (P:=l.prog) (w:=w) (base:=base) AaI T;have tL:=ZlM (P:=l.prog) (w:=w) (base:=base) AaC T;have J3:=ZjD (P:=l.prog) (w:=w) (base:=base) Aap T;have J4:=ZjV (P:=l.prog) (w:=w) (base:=base) Aaq T Kf tL J3;have xJ:=Zlq (P:=l.prog) (w:=w) (base:=base) Aav T;have xM:=ZoX (P:=l.prog) (w:=w) (base:=base) AaJ T;have J0:=Zi5 (P:=l.prog) (w:=w) (base:=base) Aak T;have qY:=Zo9 (P:=l.prog) (w:=w) (base:=base) AaK T xJ;have JZ:=Zip (P:=l.prog) (w:=w) (base:=base) Aaj T J4 tL;have J8:=Zln (P:=l.prog) (w:=w) (base:=base) Aaw T J5 qY JZ;have Ka:=ZmG (P:=l.prog) (w:=w) (base:=base) AaD T;have J1:=Zjl (P:=l.prog) (w:=w) (base:=base) Aal T xJ xM J0 qY;have JT:=Zgs (P:=l.prog) (w:=w) (base:=base) Aae T J8;have JV:=ZgW (P:=l.prog) (w:=w) (base:=base) Aag T Ka;have JP:=Zfw (P:=l.prog) (w:=w) (base:=base) Aaa T J1;have JW:=Zho (P:=l.prog) (w:=w) (base:=base) Aah T qY JT;have JX:=ZhD (P:=l.prog) (w:=w) (base:=base) Aai T xM JV JP
 have Kl:=Zrj (P:=l.prog) (w:=w) (base:=base) AaO T JW JX;have jG:=Zms (P:=l.prog) (w:=w) (base:=base) AaE T;have qX:=ZjA (P:=l.prog) (w:=w) (base:=base) Aam T;have Kc:=ZmF (P:=l.prog) (w:=w) (base:=base) AaF T jG qX;have J9:=Zll (P:=l.prog) (w:=w) (base:=base) Aax T jG Kc;have J7:=ZjN (P:=l.prog) (w:=w) (base:=base) Aar T jG qX;have xK:=Zlz (P:=l.prog) (w:=w) (base:=base) Aay T;have J2:=Zjb (P:=l.prog) (w:=w) (base:=base) Aan T xK;have u6:=Zk3 (P:=l.prog) (w:=w) (base:=base) Aaz T;have u9:=Zk5 (P:=l.prog) (w:=w) (base:=base) AaA T;have J6:=ZjH (P:=l.prog) (w:=w) (base:=base) Aas T xK;have JR:=ZfS (P:=l.prog) (w:=w) (base:=base) Aac T;have JS:=Zf1 (P:=l.prog) (w:=w) (base:=base) Aad T;have JQ:=ZfB (P:=l.prog) (w:=w) (base:=base) Aab T JR JS;have J_:=Zle (P:=l.prog) (w:=w) (base:=base) AaB T jG qX u6 u9 J6;exact Ztu (Xo (st:=sY) l33 c33 k33) T Kl jG J9 J7 J2 u6 u9 JQ J_
end Law
open PySem PySem.W PyProof.Rows
set_option maxRecDepth 100000 in
set_option maxHeartbeats 0 in
theorem PySem.Challenge.cw_stepledger_k36_whole_only_the_run_fits_holds : PySem.Challenge.rw_stepledger_k36_whole_only_the_run_fits.Holds := by
 w_on;o_law;k_head;(case hw=>w_witness2)
 k_fill
 refine L3.Zvs (l:=PySem.Challenge.rw_stepledger_k36_whole_only_the_run_fits) (k:=8) (F:=Law.Zoj) rfl rfl ⟨rfl,by decide,by decide⟩ (λw h Y=>W.kIn_of Y) ?G Law.law_holds
 case G=>
  intro w mg fa h KX G hmg;refine' Law.ZtI KX G hmg ?_ ?_ ?_ ?_ ?_ ?_ ?_ ?_ ?_ ?_ ?_ ?_ ?_ ?_ ?_ ?_ ?_ ?_ ?_ ?_ ?_ ?_ ?_ ?_ ?_ ?_ ?_ ?_ ?_ ?_ ?_ ?_ ?_ ?_ ?_ ?_ ?_ ?_ ?_ ?_ ?_ ?_ ?_ ?_ ?_ ?_ ?_ ?_ ?_ ?_ ?_ ?_ ?_ ?_ ?_ ?_ ?_ ?_ ?_ ?_ ?_ ?_ ?_ ?_ ?_ ?_ ?_ ?_ ?_ ?_ ?_ ?_ ?_ ?_ ?_ ?_ ?_ ?_ ?_ ?_ ?_ ?_ ?_ ?_ ?_ ?_ ?_ ?_ ?_ ?_ ?_ ?_ ?_ ?_ ?_ ?_ ?_ ?_ ?_ ?_ ?_ ?_ ?_ ?_ ?_ ?_ ?_ ?_ ?_ ?_ ?_ ?_ ?_ ?_ ?_ ?_ ?_ ?_ ?_ ?_ ?_ ?_ ?_ ?_ ?_ ?_ ?_ ?_ ?_ ?_ ?_ ?_ ?_ ?_ ?_ ?_ ?_ ?_ ?_ ?_ ?_ ?_ ?_ ?_
  all_goals try k_is
