import PyProof.Rows.All
import Wide.All
import OpenK.AllK
import Wide.FinOn
import Lean
import PyProof.EqAt
import PyProof.EqKinds
import PyProof.TupleCall
import PySem.Challenge.RW_stepledger_k74_whole_told_ahead
noncomputable section
open Option renaming some->O,none->Yj,isSome_iff_exists->Vg,map_eq_some_iff->LJ,isSome_some->LL,isNone_none->LM,getD_none->LN,bind_some->LO,map_some->LP
open PySem.W renaming Frag->Yb,findIn->gP,hideAll->pq,kia_one->qp,emptyDict->vd,keepIn->rC,fnOf->qt,mg_none_of->rD,instObj->xK,hideAll_get->Dv,mroIn->zQ,codeIn->Dw,nsIn->jn,plainGet->Ih,of_hideAll->N5,callWith_K->N6,hasDictIn->N7,isFn->Dy,subIn->Ii,plainGet_of->Vh,makesIn->N8,lookIn->N_,typeIn->Oa,methodObj->Vi,plainOver->Vj,specialIn->Vk,clsIn->Ob,cellsFrom_some->LS,takerIn->Vl,takesIn->Vm,mg_of->vf,hideAll_none->LU,exmOne->Vn,kitx_tuple->LV,kitx_list->LW,kitx_dict->LX,Frag->vg,handedIn->LY,keepIn->Ij,kitOne->LZ,WalkO->L0,mg_of->Ymt,codeIn->Oc,fnOf->Ik
open PySem renaming wpAny_bind->Yc,Value->Yf,Shared->Yi,wpAny_pure->Yo,Addr->Ys,starEach->Y1,wpAny->Y5,Program->Y8,sizeLine->bI,model->aq,mainGlobals->dI,Around->cC,wpAny_field->gQ,World->aX,wpAny_mono->gq,wpAny_callSpecial?_slot->vh,bootBuiltins->j_,compareOp->iB,wpAny_loadPart'->vm,mem_of_lookup->vo,wpAny_holding->pB,Heap->aF,wpAny_newObj_type->vp,wpAny_call_entry->vz,binaryOp->jh,attributeBase->rE,wpAny_seqItems->tM,wpAny_setField_rec->zR,foldedSetIterable->zT,sizeLine_eq->qw,FuncData->mU,backTo->fZ,wpAny_pyIter_tuple->Dz,eval->aU,IsPair->gH,wpAny_passesOwn->zU,letOwnedTupleGo->zV,swapsWith->pC,treeTable->pD,call_meets->rF,wpAny_Call_Name_kw->Il,importedModules->DG,sysModules->tO,wpAny_truthy_bool->Im,pyNext->ji,rawInt->jo,cLine->fH,wpAny_setField->DK,assignEach->vA,wpAny_typeOf->zW,wpAny_comprehension_free->Vo,Stmt->Ye1,wpAny_execs_nil->Io,codeAny->mV,noteFrame->tQ,getattributeRaised->Od,sliceBounds->zX,keywordEach->zY,slicePicked->zZ,wpAny_pyIter_enum->Oe,codeAny_mono->DN,builtinLookup_eq_fast->Vp,wpAny_updateSeq_pair->Vq,wpAny_attempt->Ip,wpAny_rule->z6,codeAny_builtin->Og,wpAny_letOwnedTupleGo_enum->L1,tupleKind_room_in1->Vr,compPost->vB,wpAny_binaryOp_repeat_ref->L4,assign->nU,wpAny_assign_Name->Vs,typeLookup->DP,behindInMarks->Oh,getItem->tR,compEnvC->xM,wpAny_standAt->Oi,plainId_quiet->Oj,excClassObj->Ir,wpAny_onRaise->Ol,noFill_tuple_add->Vt,wpAny_isInstance->Vu,codeAny_compStart_list->L5,tupleKind->DQ,call_meetsIn->Om,exec_Assign_Name_used->L6,typeLookup_type->Vv,wpAny_notOrdered_dict->L7,typeIs_int->Iu,backToKw->z7,wpAny_newFunctionEnv->L8,IsZip->lz,intText?->Vw,newFunctionEnv->Vx,isSubtype_stop->Vy,subscripted->Oo,callerA->xN,relabel->xO,wpAny_dictSet_pairs->L9,seq_tuple_add->Vz,sub_AttributeError->Mb,wpAny_missed_other->Md,holding->z8,wpAny_pyIter_list->Me,wpAny_sequenceKey->Mn,valueAt->z9,wpAny_Call_method->Mo,field->nW,wpAny_dictEntries->MA,Within->VB,Result->vC,concat_meets->VD,stored->vD,wpAny_pyHash_int->MB,wpAny_pyHash_str->MC,wpAny_execs_cons->MD,kt_code_dict_new->ME,seqSlot_of->MG,PassesOwn->Oq,BindsTo->DR,theTreesLotGoes->MH,seqItems?->Ot,wpAny_throw->VF,setFlight->Ou,dictGet->DW,wpAny_letGo->VG,wpAny_dictEpoch->MI,loadIfAlive->VH,notedBy->DX,wpAny_ite_false->ML,builtinsNs->VJ,wpAny_Name->VL,wpAny_load->VN,wpAny_call->VP,typeIs_str->VR,call->VV,standAt->Iv,getAttr?->Ov,pyIter->DY,getMethod->V0,cellsFrom->V1,seqIndex?->V2,atKey->vG,unaryOp->Ow,bindL->xP,bindC->xQ,leaving->Ox,newList->Oz,nsFind->Iw,Str->ak,Tok->jB,Obj->aJ,Env->dJ,Sem->mW,Pos->aZ
open List renaming getElem?_eq_some_iff->Yd,length_append->Ye,replicate->Yg,length_cons->Yh,mem_cons_of_mem->Yk,getElem?_set_ne->Ym,mem_singleton->Yp,size_toArray->Yq,mem_append->Yr,mem_cons->Yt,getElem?_set_self->Yu,mem_cons_self->Yv,getElem?_eq_getElem->Y0,map_cons->Y2,length_map->Y3,getElem?_append_left->Y4,append_assoc->Y7,length_nil->gw,append_nil->gJ,map_append->gK,mem_append_right->lV,replicate_succ->lA,set_cons_succ->lW,set_cons_zero->lX,getElem?_map->lB,length_set->jZ,prefix_append->mX,range->fM,lookup_cons->lY,getD_eq_getElem?_getD->vH,nodup_cons->lC,mem_of_getElem?->rG,getElem?_append_right->xR,all_eq_true->nY,cons_append->pF,length_replicate->vI,drop_eq_getElem_cons->z_,mem_append_left->vJ,foldl_cons->qx,nil_append->qy,any_cons->nZ,flatten_cons->tU,take_of_length_le->Aa,prefix_refl->tV,getElem?_take_of_lt->D_,length_singleton->Ab,not_mem_nil->vK,mem_filterMap->Ac,getElem_mem->xT,eq_nil_of_length_eq_zero->OD,getElem?_cons_succ->Iz,map_nil->rH,mem_map->rJ,any_eq_true->Ad,set_set->tW,getElem?_of_mem->IK,lookup->tX,getElem?_replicate->OJ,length_take->Ea,mem_filter->Eb,find?_cons->Ec,all_cons->Ae,sum_cons->Af,drop_length->IV,filterMap_cons->O1,length->xU,Nodup->vL,forIn_cons->IW,getElem?_cons_zero->V3,eraseIdxIfInBounds_toArray->MM,ext_getElem?->O2,foldl_append->O4,mem_range->I_,dropLast_eq_take->V4,contains_iff_mem->V5,dropLast_concat_getLast->MQ,foldl->Ag,forIn_nil->O5,any_eq_false->V6,take_sublist->V7,length_range->V8,length_filterMap_le->MR,drop_of_length_le->MS,drop_eq_nil_of_le->MU,of_mem_zip->V9,getElem?_eq_none->MV,sum_append->V_,length_filter_le->MW,pairwise_append->MX,dropLast_subset->MY,dropLast_concat->MZ,drop_zero->Wa,nodup_nil->Wb,map_congr_left->Na,getElem_range->Nd,contains_cons->Nl,map_take->Wc,reverse_cons->Nn,pairwise_map->Nw,nodup_append->NA,getElem?_inj->NB,all_map->Wd,getElem_inj->NC,length_drop->ND,zipIdx_cons->NF,zipIdx_nil->NG,length->b9,toArray->pd
open PySem.Heap renaming get?_push_of_some->Yl,lt_size->Yw,get?_push_size->Y6,get?_update_other->Ed,size_push->xV,get?_update_self->O6,SameBut->Ah
open Nat renaming le_refl->Yn,le_trans->Yx,lt_of_lt_of_le->Yy,ne_of_lt->eE,le_antisymm->iJ,zero_le->dY,lt_trans->j4,lt_irrefl->pG,le_of_not_lt->tY,zero_add->qz,le_add_right->xW,add_assoc->tZ,ne_of_gt->rK,lt_succ_self->Ef,le_of_eq->xX,succ_le_succ->Ja,add_comm->Ai,le_of_lt->Eg,le_max_left->O7,add_right_comm->Wf,le_max_right->Wg,sub_eq_zero_of_le->NH,not_lt_zero->Wh,mul_le_mul_left->NI,le_of_lt_succ->NJ,lt_succ_of_le->NL,add_zero->Wi,min_le_right->NM,succ_ne_self->NN,min_eq_right->NO,le_succ->Wj,min_eq_left->NR,strongRecOn->NS,sub_le->Wk,ble->Jb,max_assoc->NU
open Classical renaming propDecidable->Yz
open Option.some renaming inj->Y9,injEq->NV
open PySem.Builtin.SmallTypes renaming nextOf->n6,ownedTupleIsFree->xY,ownedTupleHandOut->NW
open Bool renaming and_eq_true->j5,false_ne_true->lZ,and_eq_true_iff->Yba,or_eq_true->vM,false_eq_true->Aj,and_true->xZ,beq_eq_decide_eq->O8,and_false->Eh,false_or->O9,and_self->O_,or_false->Wl,eq_iff_iff->NX,not_false->NY,not_true->N0
open Ne renaming symm->cF
open False renaming elim->gM
open Int renaming natCast_add->qC,toNat_natCast->t6,add_assoc->vN,emod_nonneg->Ei,natCast_nonneg->Wm,le_trans->Jc,emod_lt_of_pos->Wn,toNat_of_nonneg->N1,le_of_lt->Wo,ofNat_lt->Wq,zero_add->Wr,le_antisymm->N2,not_le->Ws
open PySem.Str renaming ofString->n_,length->t7,empty->Wt
open PySem.Builtin.List renaming listTooLong->Ej
open PyProof.Rows renaming callWith_type1->Jd,slot_tuple_getitem->Pa,slot_tupleiter_next->DF,envOfC->mY,kindOf->ou,AllBare->t8,subscriptTail_builtinR->N3,entry_tupleiter_next->N4,entry_tuple_getitem->N9,args_tupleiter_next->Of,args_tuple_getitem->Oy,subscriptTail->Wu,Subscript_->Wv
open Array renaming getElem?_eq_some_iff->Je,length_toList->Pb,getElem?_toList->Ww,toList->Pg,mem_of_getElem?->OA,mem_toList_iff->OB,append_assoc->OC,forIn_toList->OE
open Decidable renaming byContradiction->Jf
open PySem.F renaming slot_dict_get->El,slot_zip_next->x_,args_dict_get_3->Ph,plainAttrs_list->Pj,entry_dict_get->Pk,args_tuple_add_2->Wx,entry_tuple_add->Wy,slot_tuple_add->Wz,args_zip_next_1->Pn,entry_zip_next->Pq,excBase_ValueError->OF,slot_list_append->OG,type_list_append->OH,plainAttrs_dict->OI,type_dict_get->OK,slot_enumerate_next->OL,slot_int_rmul->OM,args_list_extend_2->ON,kt_typeCall_dict_1->OO,entry_list_extend->OP,slot_list_extend->OQ,args_dict_init_2->OR,entry_dict_init->OS,entry_list_pop->OT,kt_called_dict->OU,slot_list_pop->OV,slot_int_rmul->OW
open PySem.Obj renaming data_mapFields->Ak,mapFields->t_,isFreed_of_fields->Pr,mapSeq->Pu,cls_mapFields->OX
open PySem.SeqAt renaming EqAt->oA,notIn_listAt->OY
open PySem.Builtin.Str renaming strSliceIndices->Px,occurrences->OZ
open PySem.Calls renaming spliced_cons->Em,callWith_builtin->Py,evalArgs_plain->Pz,spliced_nil->PB,Name_function_global->O0
open PySem.Builtin.Slice renaming slicePlaces->PJ,sliceAdjust->WD,sliceApplied->Pc
open PySem.Builtin.Tuple renaming tupleExact->PK,tupleItemsOf->Pd,tupleTooMany->Pe
open PySem.Builtin.Dict renaming updateFrom->PL,addKeywords->Pf,selfAndRest->Pl,pairItems->Pm,missed->Po
open PyProof.Rows.KTD renaming datumAt->vO,TabOf->yc
open PySem.Around renaming under_plainId->PN,under->PQ
open PySem.SeqAt.EqAt renaming str_int->PX,int_str->WK,int_int->WL,same->WM,none_bool->Pp,bool_none->Pt,bool_bool->Pw,none_int->PC,none_str->PD,bool_int->PF,bool_str->PH,int_none->PM,int_bool->PR,str_none->PU,str_bool->PV,str_str->PY,of_refs->PZ
open PySem.SeqAt.RcAt renaming lists_lengths->P1,tuples->P2,lists->P5
open OfNat renaming ofNat->Jg
open Eq renaming trans->yd
open PySem.Heap.DictOf renaming new->WN
open PySem.PassesOwn renaming never->WP,leaving->P6
open Nat.succ renaming inj->P0
open Sum.inr renaming inj->P_
open PySem.SeqAt.RcNeAt renaming tuples->P7
open PySem.Heap.SameBut renaming update->P8
open PySem.EntryCells renaming newEntry->P9
open PySem.BindsTo renaming of_defaults->Qb
open PySem.Paired renaming length->WQ
open List.cons renaming inj->WT,injEq->Qr
open PySem.StrLaws renaming found_one->QA
open PySem.Code renaming isFrame->WW
open PySem.Shared renaming heap->WX
open PySem.Value renaming isStrOf->QE
open Max renaming max->gR
open Min renaming min->jL
abbrev _root_.yz:=List<|ak×Yf
abbrev _root_.tI:=List<|ak×Ys
abbrev _root_.rq:=List Ye1
abbrev _root_.rL:=List dJ
abbrev _root_.qv:=List<|Int×Int
abbrev _root_.qA:=Option Ys
abbrev _root_.qB:=Array Yf
abbrev _root_.pw:=List PySem.Expr
abbrev _root_.pe:=Option Int
abbrev _root_.oB:=List ak
abbrev _root_.oy:=List<|Ys×aJ
abbrev _root_.oo:=Option Yf
abbrev _root_.l8:=List Int
abbrev _root_.l6:=List Ys
abbrev _root_.l5:=List Yf
theorem aaE{p:Prop}(h:p:=by decide):p:=h
theorem j0{p:Prop}(h:p:=by simp):p:=h
theorem c8{p:Prop}(h:p:=by omega):p:=h
theorem aaH{p:Prop}(h:p:=by kernel_rfl):p:=h
theorem f_{c:Prop}{_:Decidable c}(h:c){α:Sort _}{a b:α}:ite c a b=a:=if_pos h
theorem i6{c:Prop}{_:Decidable c}(h:¬c){α:Sort _}{a b:α}:ite c a b=b:=if_neg h
theorem pf{p:Prop}[Decidable p](h:¬p):decide p=false:=decide_eq_false h
theorem qc{p:Prop}[Decidable p](h:p):decide p=true:=decide_eq_true h
theorem oz{a b:Prop}(h:a)(n:¬a):b:=absurd h n
theorem aaD{α:Sort _}{a:α}:a=a:=rfl
theorem _root_.qr{p:Prop}(h:p:=by exact rfl):p:=h
theorem _root_.oP{p:Prop}(h:p:=by simp;omega):p:=h
theorem _root_.BH{p:Prop}(h:p:=by rw[Yq];omega):p:=h
theorem _root_.wm{p:Prop}(h:p:=by intro e;cases e):p:=h
abbrev d4(s:Yi):=s.heap.objs.size
abbrev DH:List String:=["enumerate","zip","dict_itemiterator","dict_reverseitemiterator","odict_iterator","itertools.zip_longest","itertools.pairwise"]
open Lean in
def rp:Nat->Syntax->MacroM (TSyntax `rcasesPat)
|0,_=>Macro.throwUnsupported
|n+1,s=>match s with
|`($x:ident)=>`(rcasesPat|$x:ident)
|`(_)=>`(rcasesPat|_)
|`(⟨$a,*⟩)=>do
 let b<-a.getElems.mapM λz=>do `(Parser.Tactic.rcasesPatLo|$(<-rp n z):rcasesPat)
 `(rcasesPat|⟨$b,*⟩)
|_=>Macro.throwUnsupported
local macro_rules
|`(tactic|let $p:term:=$e)=>do `(tactic|obtain $(<-rp 9 p):rcasesPat:=$e)
def clA(w:Int):gR w 0=(w.toNat:Int):=by omega
def clB(v:Int)(n:Nat)(h:¬v<0):jL v (n:Int)=((jL v.toNat n:Nat):Int):=by omega
def WY(v:Int)(n:Nat)(h:v<0):gR 0 (jL (v+(n:Int)) (n:Int))=((v+(n:Int)).toNat:Int):=by omega
def W0(v:Int)(n:Nat)(h:¬v<0):gR 0 (jL v (n:Int))=((jL v.toNat n:Nat):Int):=by omega
set_option compiler.extract_closed false
set_option Elab.async false
set_option linter.all false
set_option maxRecDepth 100000
namespace L2
open PySem PySem.Spec PyProof.Rows
abbrev Key:=Sum Int ak
abbrev _root_.w8:=List<|Key×Yf
abbrev _root_.tf:=List Key
def En:Key->Yf->Bool
 | .inl k,v=>Value.isInt k v|.inr x,v=>QE x v
def Ad5(w:aX):Key->Int
 | .inl k=>hashInt k|.inr x=>hashStr w x
def vP:∀{k:Key} {v:Yf},En k v=true->(∃i t,k=Sum.inl i/\v=Value.int i t)\/(∃x t,k=Sum.inr x/\v=Value.str x t)
 | .inl i,v,h=>by let⟨t,e⟩:=Value.isInt_shape (k:=i) (v:=v) h;exact .inl ⟨i,t,rfl,e⟩|.inr x,v,h=>by let⟨t,e⟩:=Value.isStrOf_shape (x:=x) (v:=v) h;exact .inr ⟨x,t,rfl,e⟩
def ZsQ(i:Int)(t:jB):En (.inl i) (.int i t)=true:=by simp[En,Value.isInt]
def Ztz(x:ak)(t:jB):En (.inr x) (.str x t)=true:=by simp[En,QE]
def Ad6(a b:Int):decide ((Sum.inl a:Key)=Sum.inl b)=(a==b):=by
 by_cases e:a=b
 .subst e;simp
 .have h:¬(Sum.inl a:Key)=Sum.inl b:=λq=>e<|Sum.inl.inj q;rw[pf h];exact(beq_eq_false_iff_ne.mpr e).symm
def Ad7(a b:ak):decide ((Sum.inr a:Key)=Sum.inr b)=decide (a=b):=by
 by_cases e:a=b
 .subst e;simp
 .have h:¬(Sum.inr a:Key)=Sum.inr b:=λq=>e<|P_ q;rw[pf h,pf e]
def Zzq(a:Int)(b:ak):decide ((Sum.inl a:Key)=Sum.inr b)=false:=pf nofun
def Zzu(a:ak)(b:Int):decide ((Sum.inr a:Key)=Sum.inl b)=false:=pf nofun
def gj(prog:Y8)(w:aX):PySem.KeyKind prog w Key where
 is:=En
 hash:=Ad5 w
 inj:=λv a b ha hb=>by
  rcases vP ha with⟨i,t,rfl,rfl⟩|⟨x,t,rfl,rfl⟩
  .rcases vP hb with⟨j,u,rfl,e⟩|⟨y,u,rfl,e⟩
   .injection e with e1 _;rw[e1]
   .exact nomatch e
  .rcases vP hb with⟨j,u,rfl,e⟩|⟨y,u,rfl,e⟩
   .exact nomatch e
   .injection e with e1 _;rw[e1]
 byValue:=λk v h=>by rcases vP h with⟨i,t,rfl,rfl⟩|⟨x,t,rfl,rfl⟩<;>rfl
 pyHash:=λhv h=>by
  rcases vP hv with⟨i,t,rfl,rfl⟩|⟨x,t,rfl,rfl⟩
  .exact MB h
  .exact MC h
 eqBool:=λhu hv h=>by
  rcases vP hu with⟨i,t,rfl,rfl⟩|⟨x,t,rfl,rfl⟩
  .rcases vP hv with⟨j,u,rfl,rfl⟩|⟨y,u,rfl,rfl⟩
   .rw[Ad6]at h;exact wpAny_eqBool_int h
   .rw[Zzq]at h;exact WK i t y u _ _ _ _ h
  .rcases vP hv with⟨j,u,rfl,rfl⟩|⟨y,u,rfl,rfl⟩
   .rw[Zzu]at h;exact PX x t j u _ _ _ _ h
   .rw[Ad7]at h;exact wpAny_eqBool_str h
 «strs»:=λk x t v h=>by
  rcases vP h with⟨i,u,rfl,e⟩|⟨y,u,rfl,e⟩
  .exact nomatch e
  .injection e with e1 _
   subst e1;cases v<;>rfl
def ZoF(prog:Y8)(w:aX)(i:Int)(t:jB):(gj prog w).is (.inl i) (.int i t)=true:=ZsQ i t
def Zo4(prog:Y8)(w:aX)(x:ak)(t:jB):(gj prog w).is (.inr x) (.str x t)=true:=Ztz x t
end L2
namespace L2
open PySem PySem.Spec PyProof.Rows
inductive V where
 |Z|bl (b:Bool)|int (i:Int)|str (x:ak)|Eo (b:Array UInt8)|AF (b:UInt64)|ref (a:Ys)|ty (n:String)
 deriving DecidableEq
abbrev _root_.uB:=List<|ak×V
abbrev _root_.sv:=List<|Key×V
abbrev _root_.k6:=List V
def i5:V->Yf->Prop
 | .Z,u=>u=Value.none|.bl b,u=>u=Value.bool b|.int i,u=>∃t,u=Value.int i t|.str x,u=>∃t,u=Value.str x t
 | .Eo b,u=>∃t,u=Value.bytes b t|.AF b,u=>∃t,u=Value.float b t|.ref a,u=>u=Value.ref a|.ty n,u=>u=Value.type n
abbrev i3:k6->l5->Prop:=Paired i5
def i3.length{xs:k6}{us:l5}(r:i3 xs us):b9 xs=b9 us:=WQ r
theorem i3.get:∀{xs:k6} {us:l5} {i:Nat} {x:V},i3 xs us->xs[i]?=O x->∃u,us[i]?=O u/\i5 x u
 |_,_,_,_,.nil,e=>by simp at e|_,_,0,_,.cons r _,e=>by simp at e;subst e;exact⟨_,rfl,r⟩|_,_,i+1,x,.cons _ t,e=>by let⟨u,h1,h2⟩:=i3.get (i:=i) (x:=x) t (by simpa using e);exact⟨u,by simpa using h1,h2⟩
theorem i3.set{x:V}{u:Yf}(r:i5 x u):∀{xs:k6} {us:l5} (i:Nat),i3 xs us->i3 (xs.set i x) (us.set i u)
 |_,_,_,.nil=>.nil|_,_,0,.cons _ t=>.cons r t|_,_,i+1,.cons q t=>.cons q<|i3.set r i t
theorem i3.append:∀{xs ys:k6} {us ws:l5},i3 xs us->i3 ys ws->i3 (xs++ys) (us++ws)
 |_,_,_,_,.nil,s=>s|_,_,_,_,.cons r t,s=>.cons r<|i3.append t s
theorem i3.take:∀{xs:k6} {us:l5} (n:Nat),i3 xs us->i3 (xs.take n) (us.take n)
 |_,_,0,_=>.nil|_,_,_+1,.nil=>.nil|_,_,n+1,.cons r t=>.cons r<|i3.take n t
theorem i3.drop:∀{xs:k6} {us:l5} (n:Nat),i3 xs us->i3 (xs.drop n) (us.drop n)
 |_,_,0,r=>r|_,_,_+1,.nil=>.nil|_,_,n+1,.cons _ t=>i3.drop n t
def kh:Option V->oo->Prop
 |some v,O u=>i5 v u|none,Yj=>True|_,_=>False
def KV{κ:Type}:List (κ×V)->List (κ×Yf)->Prop:=Paired λ(p:κ×V) (q:κ×Yf)=>p.1=q.1/\i5 p.2 q.2
def kV:Key->V
 | .inl i=>.int i|.inr x=>.str x
inductive HO where
 |L (xs:k6)
 |U (xs:k6)
 |dK (kvs:sv)|dT (kvs:List (tf×V))
 |set (S:Int->Bool) (n:Nat)
 |ins (C dx:Ys) (fs:uB)
 |own (x:Ys)
 |xd (fs:uB)
 |met (f x:Ys)
 |Qa (lo hi:Int)
 |fO (o:aJ) (u:HO)
 |ye (ps:qB)
 |ext (φ:aF->Prop)
abbrev Hp:=Ys->Option HO
def k4(H:Hp)(a:Ys)(o:HO):Hp:=λb=>if b=a then O o else H b
variable{a:Ys}{H:Hp}
def pH{o:HO}:k4 H a o a=O o:=by unfold k4;rw[f_ aaD]
variable{b:Ys}
def eF{o:HO}(h:b≠a):k4 H a o b=H b:=by unfold k4;rw[i6 h]
def Ad8{o u:HO}(h:H a=O o)(h':H b=O u)(d:o≠u):a≠b:=by intro e;subst e;rw[h]at h';exact d<|Y9 h'
def uc{o:HO}(h:H a=O o)(h':H b=Yj):a≠b:=by intro e;subst e;rw[h]at h';cases h'
section
variable (P:Y8) (w:aX)
def qD(h:aF)(a:Ys)(items:qB):Prop:=∃o,h.get? a=O o/\(o.cls= .type "tuple" /\o.dict=Yj)/\∃n,o.data= .seq items n
def qD.U{h:aF}{a:Ys}{items:qB}(x:qD h a items):IsTup h a items:=let⟨o,e,c,d⟩:=x;⟨o,e,c.1,d⟩
def qD.new(h:aF)(items:qB):qD (h.push {cls:=.type "tuple",data:=.seq items}) h.objs.size items:=⟨_,Y6 _ aaD,⟨rfl,rfl⟩,0,rfl⟩
def gC(H:Hp)(h:aF)(a:Ys):HO->Prop
 | .L xs=>b9 xs<=bI/\∃(c_:l5) (n:Nat),i3 xs c_/\h.get? a=O {cls:=.type "list",data:=.seq c_.toArray n}|.U xs=>b9 xs<=bI/\∃c_:l5,i3 xs c_/\qD h a c_.toArray|.dK kvs=>b9 kvs<=bI/\(a==tO)=false/\∃vs,KV kvs vs/\h.DictOf (gj P w) a vs|.dT kvs=>b9 kvs<=bI/\(a==tO)=false/\∃xs:List (tf×Ys×Yf),
   Paired (λ(p:tf×V) (q:tf×Ys×Yf)=>p.1=q.1/\H q.2.1=O (.U<|p.1.map kV)/\i5 p.2 q.2.2) kvs xs/\
   ∃o es ep,h.get? a=O o/\o.ExactDict/\o.data= .dict es ep/\es.toList=xs.map (entryOfKey<|DQ<|gj P w)/\(xs.map (·.1)).Nodup
 | .set S n=>h.SetOf (intKind P w) a S n|.ins C dx fs=>H dx=O (.own a)/\fs.length<=1000/\dx≠a/\h.get? a=O (xK C dx)/\
   ∃mA,h.Ns1 dx mA/\(∀f,kh (fs.lookup f)<|mA f)/\VB mA (fs.map (·.1))
 | .own _=>∃o,h.get? a=O o|.xd fs=>∃mA,h.Ns1 a mA/\∀f,kh (fs.lookup f) (mA f)|.Qa lo hi=>∃t u v,h.get? a=O {cls:=.type "range",data:=.fields #[.int lo t,.int hi u,.int 1 v]}|.fO o u=>h.get? a=O o/\gC H h a u
 | .ye ps=>h.get? a=O {cls:=.none,data:=.fields ps}|.met f x=>h.get? a=O (Vi (.ref f)<|.ref x)|.ext φ=>φ h/\(∃o,h.get? a=O o)/\∀h1 h2:aF,φ h1->(∀o,h1.get? a=O o->h2.get? a=O o)->φ h2
def eY(H:Hp)(h:aF):Prop:=∀a o,H a=O o->gC P w H h a o
end
section
variable {P:Y8} {w:aX} {H H':Hp} {h h':aF} {a:Ys} {o:HO}
def gC.lt(x:gC P w H h a o):a<h.objs.size:=by
 cases o with
 |L xs=>let⟨_,_,_,_,e⟩:=x;exact Yw e|U xs=>let⟨_,_,_,p⟩:=x;exact p.U.lt|dK kvs=>let⟨_,_,_,_,o,_,_,e,_⟩:=x;exact Yw e|dT kvs=>let⟨_,_,_,_,o,_,_,e,_⟩:=x;exact Yw e
 |set S n=>let⟨o,_,_,_,e,_⟩:=x;exact Yw e|ins C dx fs=>let⟨_,_,_,e,_⟩:=x;exact Yw e|own y=>let⟨_,e⟩:=x;exact Yw e|xd fs=>let⟨_,⟨_,_,_,e,_⟩,_⟩:=x;exact Yw e
 |Qa lo hi=>let⟨_,_,_,e⟩:=x;exact Yw e|fO ob u=>let⟨e,_⟩:=x;exact Yw e|ye ps=>exact Yw (show h.get? a=O _ from x)|met f y=>exact Yw (show h.get? a=O _ from x)
 |ext φ=>let⟨_,⟨_,e⟩,_⟩:=x;exact Yw e
theorem Paired.U8{α β:Type}{F G:α->β->Prop}:∀{l₁:List α} {l₂:List β},Paired F l₁ l₂->(∀a b,F a b->G a b)->Paired G l₁ l₂
 |_,_,.nil,_=>.nil|_,_,.cons r t,f=>.cons (f _ _ r)<|Paired.U8 t f
def gC.rV(x:gC P w H h a o)(k:∀b u,(b=a\/H b=O (.own a))->h.get? b=O u->h'.get? b=O u)(ho:∀b,H b=O (.own a)->H' b=O (.own a))(ht:∀b xs,H b=O (.U xs)->H' b=O (.U xs)):gC P w H' h' a o:=by
 induction o with
 |L xs=>let⟨z,c_,n,r,e⟩:=x;exact⟨z,c_,n,r,k _ _ (.inl aaD) e⟩|U xs=>let⟨z,c_,r,ob,e,c⟩:=x;exact⟨z,c_,r,ob,k _ _ (.inl aaD) e,c⟩|dK kvs=>let⟨z,y,vs,r,ob,es,ep,e,c⟩:=x;exact⟨z,y,vs,r,ob,es,ep,k _ _ (.inl aaD) e,c⟩|dT kvs=>let⟨z,y,xs,r,ob,es,ep,e,c⟩:=x;exact⟨z,y,xs,Paired.U8 r λp q z=>⟨z.1,ht _ _ z.2.1,z.2.2⟩,ob,es,ep,k _ _ (.inl aaD) e,c⟩
 |set S n=>let⟨ob,es,ep,t,e,c⟩:=x;exact⟨ob,es,ep,t,k _ _ (.inl aaD) e,c⟩|ins C dx fs=>let⟨d,z,ne,e,mA,⟨od,es,ep,e2,c⟩,r⟩:=x;exact⟨ho _ d,z,ne,k _ _ (.inl aaD) e,mA,⟨od,es,ep,k _ _ (.inr d) e2,c⟩,r⟩
 |own y=>let⟨ob,e⟩:=x;exact⟨ob,k _ _ (.inl aaD) e⟩|xd fs=>let⟨mA,⟨od,es,ep,e,c⟩,r⟩:=x;exact⟨mA,⟨od,es,ep,k _ _ (.inl aaD) e,c⟩,r⟩|Qa lo hi=>let⟨t,u,v,e⟩:=x;exact⟨t,u,v,k _ _ (.inl aaD) e⟩|fO ob u ih=>let⟨e,q⟩:=x;exact⟨k _ _ (.inl aaD) e,ih q⟩
 |ye ps=>have e:h.get? a=O {cls:=.none,data:=.fields ps}:=x;show h'.get? a=O {cls:=.none,data:=.fields ps};exact k a _ (.inl aaD) e|met f y=>have e:h.get? a=O (Vi (.ref f)<|.ref y):=x;show h'.get? a=O (Vi (.ref f)<|.ref y);exact k a _ (.inl aaD) e|ext φ=>let⟨p,⟨o,e⟩,st⟩:=x;exact⟨st _ _ p λo q=>k _ _ (.inl aaD) q,⟨o,k _ _ (.inl aaD) e⟩,st⟩
def eY.lt(x:eY P w H h)(e:H a=O o):a<h.objs.size:=(x a o e).lt
def eY.fresh(x:eY P w H h)(e:h.objs.size<=a):H a=Yj:=by
 cases q:H a with
 |none=>rfl|some u=>exact oz (Yy (x.lt q) e)<|pG _
def eY.kept(x:eY P w H h)(k:∀b u,h.get? b=O u->h'.get? b=O u):eY P w H h':=λa o e=>(x a o e).rV (λb u _ q=>k b u q) (λ_ q=>q) λ_ _ q=>q
def eY.laid(x:eY P w H h)(k:∀b u,h.get? b=O u->h'.get? b=O u)(hp:h.objs.size<=a)(new:gC P w (k4 H a o) h' a o):eY P w (k4 H a o) h':=λb u e=>by
 have hn:=x.fresh hp;by_cases hb:b=a
 .subst hb;rw[pH]at e;cases e;exact new
 .rw[eF hb]at e;exact(x b u e).rV (λc v _ q=>k c v q) (λc q=>by rwa[eF<|uc q hn]) λc xs q=>by rwa[eF<|uc q hn]
end
def Rd(H:Hp)(a:Ys)(u:HO):Prop:=H a=O u\/∃o,H a=O (.fO o u)
def Rd.ok{P:Y8}{w:aX}{h:aF}{u:HO}(r:Rd H a u)(x:eY P w H h):gC P w H h a u:=by
 rcases r with r|⟨o,r⟩
 .exact x a u r
 .let⟨_,q⟩:=x a _ r;exact q
def Jh:Option HO->Prop
 |some (.L _)=>True|some (.dK _)=>True|some (.dT _)=>True|some (.set _ _)=>True
 |some (.ins _ _ _)=>True|some (.ext _)=>True|_=>False
section
variable {P:Y8} {w:aX} {H:Hp} {h h':aF} {x e:Ys} {o':HO}
def eY.write(ok:eY P w H h)(mu:Jh (H x))(he:e=x\/H e=O (.own x))(k:∀b u,b≠e->h.get? b=O u->h'.get? b=O u)(A5:∃u,h'.get? e=O u)(new:gC P w (k4 H x o') h' x o'):eY P w (k4 H x o') h':=λb u q=>by
 have QI:∀c y,H c=O (.own y)->c≠x:=λc y r z=>by subst z;rwa[r]at mu
 have Ad9:∀c xs,H c=O (.U xs)->c≠x:=λc xs r z=>by subst z;rwa[r]at mu
 by_cases hb:b=x
 .subst hb;rw[pH]at q;cases q;exact new
 .rw[eF hb]at q;by_cases yf:b=e
  .have q':H b=O (.own x):=by
    rcases he with z|z
    .exact oz (yf.trans z) hb
    .rwa[yf]
   rw[q]at q';cases q';let⟨v,hv⟩:=A5;exact⟨v,by rwa[yf]⟩
  .refine(ok b u q).rV (λc v hc r=>k c v ?_ r) (λc r=>by rwa[eF<|QI c b r]) λc xs r=>by rwa[eF<|Ad9 c xs r]
   rcases hc with rfl|hc
   .exact yf
   .rintro rfl;rcases he with z|z
    .exact QI c b hc z
    .rw[hc]at z;cases z;exact hb aaD
end
structure Un(fs ex:l6)(H H':Hp)(h h':aF):Prop where
 keep:∀b o,h.get? b=O o->H b=Yj->b∉fs->b∉ex->h'.get? b=O o
 slot:∀b o,h.get? b=O o->H b=Yj->b∈fs->b∉ex->∃sl,h'.get? b=O {o with slots:=sl}
 free:∀b o,h.get? b=O o->H b=Yj->b∉ex->H' b=Yj
 there:∀b o,h.get? b=O o->b∉ex->∃o',h'.get? b=O o'
 ri:∀b xs,H b=O (.U xs)->H' b=O (.U xs)
 nR:∀b o u,H b=O (.fO o u)->H' b=O (.fO o u)
 ph:∀b ps,H b=O (.ye ps)->∃more,H' b=O (.ye<|ps++more)
section
variable {fs fs' ex ex':l6} {H H1 H2:Hp} {h h1 h2 h':aF} {a x e:Ys} {o:HO}
def Un.any(u:Un fs ex H H1 h h1){ob:aJ}(q:h.get? b=O ob)(n:H b=Yj)(hx:b∉ex):∃sl,h1.get? b=O {ob with slots:=sl}:=by
 by_cases hb:b∈fs
 .exact u.slot b ob q n hb hx
 .exact⟨ob.slots,u.keep b ob q n hb hx⟩
def Un.trans(a:Un fs ex H H1 h h1)(b:Un fs ex H1 H2 h1 h2):Un fs ex H H2 h h2 where
 keep:=λc ob q n hc hx=>b.keep c ob (a.keep c ob q n hc hx) (a.free c ob q n hx) hc hx
 slot:=λc ob q n hc hx=>by let⟨sl,e1⟩:=a.slot c ob q n hc hx;let⟨EI,e2⟩:=b.slot c _ e1 (a.free c ob q n hx) hc hx;exact⟨EI,e2⟩
 free:=λc ob q n hx=>by let⟨o',e1⟩:=a.there c ob q hx;exact b.free c o' e1 (a.free c ob q n hx) hx
 there:=λc ob q hx=>by let⟨o',e1⟩:=a.there c ob q hx;exact b.there c o' e1 hx
 ri:=λc xs q=>b.ri c xs<|a.ri c xs q
 nR:=λc ob xs q=>b.nR c ob xs<|a.nR c ob xs q
 ph:=λc ps q=>by let⟨m1,e1⟩:=a.ph c ps q;let⟨m2,e2⟩:=b.ph c _ e1;exact⟨m1++m2,by rw[e2,OC]⟩
def Un.kept(k:∀b u,h.get? b=O u->h'.get? b=O u):Un fs ex H H h h':=⟨λb ob q _ _ _=>k b ob q,λb ob q _ _ _=>⟨ob.slots,k b ob q⟩,λ_ _ _ n _=>n,λb ob q _=>⟨ob,k b ob q⟩,λ_ _ q=>q,λ_ _ _ q=>q,λ_ ps q=>⟨#[],by rw[q];simp⟩⟩
def Un.refl:Un fs ex H H h h:=Un.kept λ_ _ q=>q
def Un.laid(k:∀b u,h.get? b=O u->h'.get? b=O u)(hp:h.objs.size<=a)(hn:H a=Yj):Un fs ex H (k4 H a o) h h' where
 keep:=λb u q _ _ _=>k b u q
 slot:=λb u q _ _ _=>⟨u.slots,k b u q⟩
 free:=λb u q n _=>by rwa[eF<|eE<|Yy (Yw q) hp]
 there:=λb u q _=>⟨u,k b u q⟩
 ri:=λb xs q=>by rwa[eF<|uc q hn]
 nR:=λb u xs q=>by rwa[eF<|uc q hn]
 ph:=λb ps q=>⟨#[],by rw[eF<|uc q hn,q];simp⟩
def Un.write(mu:Jh (H x))(he:e=x\/H e=O (.own x))(k:∀b u,b≠e->h.get? b=O u->h'.get? b=O u)(A5:∃u,h'.get? e=O u):Un fs ex H (k4 H x o) h h':=by
 have hx:∀b,H b=Yj->b≠x:=λb n z=>by subst z;rwa[n]at mu
 have hb:∀b,H b=Yj->b≠e:=λb n z=>by
  subst z;rcases he with r|r
  .exact hx b n r
  .rw[n]at r;cases r
 have hm:∀b u,H b=O u->¬Jh (O u)->b≠x:=λb u q nm z=>by subst z;rw[q]at mu;exact nm mu
 refine⟨λb u q n _ _=>k b u (hb b n) q,λb u q n _ _=>⟨u.slots,k b u (hb b n) q⟩,λb u q n _=>by rwa[eF<|hx b n],λb u q _=>?_,
  λb xs q=>by rwa[eF<|hm b _ q λz=>z],λb u xs q=>by rwa[eF<|hm b _ q λz=>z],λb ps q=>⟨#[],by rw[eF<|hm b _ q λz=>z,q];simp⟩⟩
 by_cases yf:b=e
 .subst yf;exact A5
 .exact⟨u,k b u yf q⟩
end
def yg(h:aF)(H:Hp):l6:=(fM h.objs.size).filter λa=>(H a).isSome
def vQ(h:aF)(H:Hp):aF:=pq h<|yg h H
def ZsF(h:aF)(H:Hp):(vQ h H).objs.size=h.objs.size:=PySem.W.hideAll_size _ _
def Zu1{h:aF}{o:aJ}(e:h.get? b=O o)(n:H b=Yj):(vQ h H).get? b=O o:=Dv _ e λhm=>by have q:(H b).isSome=true:=(Eb.mp hm).2;rw[n]at q;simp at q
def Zyf{h:aF}{o:aJ}(e:(vQ h H).get? b=O o):h.get? b=O o/\H b=Yj:=by
 have e':h.get? b=O o:=N5 (yg h H) e;refine⟨e',?_⟩;cases q:H b with
 |none=>rfl|some x=>have hm:b∈yg h H:=Eb.mpr ⟨I_.mpr<|Yw e',by simp[q]⟩;have z:(vQ h H).get? b=Yj:=LU (yg h H) hm;rw[z]at e;cases e
def ZxH(g h:aF)(L:Ys):oy:=(fM h.objs.size).filterMap λa=>if a=L\/(g.get? a).isSome=true then Yj else(h.get? a).map λo=>(a,o)
def rest(g h:aF)(L d:Ys):oy:=(ZxH g h L).filter λp=>decide<|p.1≠d
end L2
namespace L2
open PySem PySem.Spec PyProof.Rows
structure Mod(K:Yb)(mg:ak->oo)(base:aF):Prop where
 vR:K.In base
 glob:base.Ns dI mg
 blt:∃mb,base.Ns VJ mb/\∀x:ak,x≠ "__name__" ->mb x=j_ x
 nolimit:base.NoLimit
structure Cx where
 prog:Y8
 w:aX
 K:Yb
 mg:ak->oo
 base:aF
 A:cC
 N:oB
 s₀:Yi
 H₀:Hp
 env:dJ
 outer:rL
 stack:rL
 ex:l6
 fn:ak->Bool
 calm:Bool
 pn:oy
 xe:Yf->Yi->Prop
def ti(l:rL):l6:=l.filterMap (·.frame)
abbrev Cx.fs(X:Cx):l6:=ti X.outer
def Qc(sc:Scope)(x:ak):Prop:=sc.names.lookup x=O .local\/sc.names.lookup x=O .cell\/sc.names.lookup x=O .free
def Loc(sc:Scope)(x:ak):Prop:=sc.names.lookup x=O .local\/sc.names.lookup x=O .cell
def Look(env:dJ)(h:aF)(m:ak->oo)(x:ak)(u:Yf):Prop:=(env.kindOf x=O .local/\m x=O u)\/((env.kindOf x=O .cell\/env.kindOf x=O .free)/\∃c,env.cells.lookup x=O c/\h.IsCell c (O u))
structure Cx.Ok(X:Cx):Prop where
 mod:Mod X.K X.mg X.base
 kind:X.env.scope.kind= .function
 glob:X.env.globals=dI
 blt:X.env.builtins=VJ
 above:d4 X.s₀<=X.env.locals
 inj:∀x y c,X.env.cells.lookup x=O c->X.env.cells.lookup y=O c->x=y
 has:∀x,(X.env.kindOf x=O .cell\/X.env.kindOf x=O .free)->∃c,X.env.cells.lookup x=O c
 AG:∀x c,X.fn x=true->X.env.cells.lookup x=O c->d4 X.s₀<=c
 hd:X.calm=true->X.A.handled=Yj
 frames:X.A.frames=O X.stack
 Ep:X.stack=X.outer\/(X.stack=X.env::X.outer/\X.env.frame=O X.env.locals)
 Er:∀b∈X.ex,b≠X.env.locals/\∀x c,X.env.cells.lookup x=O c->c≠b
 bs:∀b o,X.base.get? b=O o->X.s₀.heap.get? b=O o/\X.H₀ b=Yj
 pI:X.base.objs.size<=d4 X.s₀
 zN:∀b o,X.base.get? b=O o->b∉X.ex
 xu:∀b∈X.ex,b∉X.fs
 lU:X.s₀.heap.FunFrames X.base X.outer
 rN:∀b∈X.fs,X.H₀ b=Yj
structure c9(X:Cx)(c6:oy)(σ:List (Option V))(H:Hp)(s:Yi):Prop where
 ok:X.Ok
 os:s.os=X.s₀.os
 bare:t8 s.gens
 base:Un X.fs X.ex X.H₀ H X.s₀.heap s.heap
 loc:∃m,s.heap.Ns X.env.locals m/\∀(i:Nat) (x:ak) (v:V),X.N[i]?=O x->σ[i]?=O (O v)->Qc X.env.scope x->∃u,i5 v u/\Look X.env s.heap m x u
 cell:∀x c,X.env.cells.lookup x=O c->∃v,s.heap.IsCell c v
 free:H X.env.locals=Yj
 mR:∀x c,X.env.cells.lookup x=O c->H c=Yj
 pin:∀p∈X.pn++c6,s.heap.get? p.1=O p.2/\H p.1=Yj/\p.1≠X.env.locals/\p.1∉X.fs/\∀v,p.2.data≠ .cell v
 kb:eY X.prog X.w H s.heap
 len:b9 σ=X.N.length
variable{E:Yf->Yi->Prop}{t':Nat}{ch:l6}
section
variable {X:Cx} {c6:oy} {σ:List (Option V)} {H H':Hp} {s:Yi} {h':aF}
def Cx.Ok.Aea(ok:X.Ok){b:Ys}{o:aJ}(e:X.base.get? b=O o):b∉X.fs:=λhb=>by have:=(ok.lU.mem hb).1;rw[e]at this;cases this
def c9.bs(I:c9 X c6 σ H s):∀b o,X.base.get? b=O o->s.heap.get? b=O o/\H b=Yj:=λb o e=>⟨I.base.keep b o (I.ok.bs b o e).1 (I.ok.bs b o e).2 (I.ok.Aea e)<|I.ok.zN b o e,I.base.free b o (I.ok.bs b o e).1 (I.ok.bs b o e).2<|I.ok.zN b o e⟩
def c9.bk(I:c9 X c6 σ H s):∀b o,X.base.get? b=O o->s.heap.get? b=O o:=λb o e=>(I.bs b o e).1
def c9.mod(I:c9 X c6 σ H s):Mod X.K X.mg X.base:=I.ok.mod
def c9.eZ(I:c9 X c6 σ H s):X.K.In s.heap:=I.ok.mod.vR.keeps I.bk
def c9.nolimit(I:c9 X c6 σ H s):s.heap.NoLimit:=I.ok.mod.nolimit.keeps I.bk
def c9.fr(I:c9 X c6 σ H s):∃m,Fr X.base X.env.locals s.heap m:=
 let⟨m,hn,_⟩:=I.loc
 ⟨m,hn,I.bk,Yx I.ok.pI I.ok.above⟩
def c9.lt(I:c9 X c6 σ H s):X.env.locals<d4 s:=let⟨_,hn,_⟩:=I.loc;hn.lt
def c9.sz(I:c9 X c6 σ H s):d4 X.s₀<=d4 s:=Yx I.ok.above<|Eg I.lt
def c9.Aeb(I:c9 X c6 σ H s){a:Ys}(h:d4 s<=a):a∉X.fs:=λhb=>by let⟨_,o,ho,_⟩:=I.ok.lU.mem hb;exact oz (Yy (Yw ho)<|Yx I.sz h)<|pG _
def c9.Al(I:c9 X c6 σ H s):∀x c,X.env.cells.lookup x=O c->c≠X.env.locals:=λx c e z=>by let⟨v,o,ho,hd⟩:=I.cell x c e;let⟨m,⟨o',es,ep,qf,sR,_⟩,_⟩:=I.loc;rw[z,qf]at ho;cases ho;rw[sR]at hd;cases hd
def c9.lU(I:c9 X c6 σ H s):s.heap.FunFrames X.base X.outer:=by
 have all:∀(l:rL),(∀b∈ti l,b∈X.fs)->X.s₀.heap.FunFrames X.base l->s.heap.FunFrames X.base l:=by
  intro l
  induction l with
  |nil=>intro _ _;trivial|cons env r ih=>intro hs hl;let⟨hk,⟨L,o,hf,hn,ho,hd⟩,hr⟩:=hl;have hL:L∈X.fs:=hs L (by unfold ti;rw[O1,hf];exact Yv);let⟨sl,e⟩:=I.base.slot L o ho (I.ok.rN L hL) hL λz=>I.ok.xu L z hL;exact⟨hk,⟨L,_,hf,hn,e,hd⟩,ih (λb hb=>hs b (by unfold ti;rw[O1,hf];exact Yk _ hb)) hr⟩
 exact all X.outer (λ_ hb=>hb) I.ok.lU
def c9.stack(I:c9 X c6 σ H s):s.heap.FunFrames X.base X.stack:=by
 rcases I.ok.Ep with e|⟨e,hf⟩
 .rw[e];exact I.lU
 .rw[e];let⟨m,hn,_⟩:=I.loc;refine .cons (by rw[I.ok.kind];decide) hf hn ?_ I.lU;exact Heap.get?_none_of_le<|Yx I.ok.pI I.ok.above
def c9.xq(I:c9 X c6 σ H s):∀b∈ti X.stack,b∈X.env.locals::X.fs:=λb hb=>by
 rcases I.ok.Ep with e|⟨e,hf⟩
 .rw[e]at hb;exact Yk _ hb
 .rw[e]at hb;unfold ti at hb;rwa[O1,hf]at hb
def c9.UJ(I:c9 X c6 σ H s):∀b∈ti X.stack,H b=Yj:=λb hb=>by
 rcases Yt.mp (I.xq b hb)with e|hb
 .rw[e];exact I.free
 .let⟨_,o,ho,_⟩:=I.ok.lU.mem hb;exact I.base.free b o ho (I.ok.rN b hb) λz=>I.ok.xu b z hb
def c9.step{g':Array GenState}{d':Drawn}(I:c9 X c6 σ H s)(sT:∀b∈ch,(b∈X.ex\/X.s₀.heap.objs.size<=b)/\b≠X.env.locals/\(∀x c,X.env.cells.lookup x=O c->c≠b)/\∀p∈X.pn++c6,p.1≠b)(keep:∀b o,b≠X.env.locals->b∉X.fs->b∉ch->s.heap.get? b=O o->H b=Yj->h'.get? b=O o)(slot:∀b o,b≠X.env.locals->b∈X.fs->b∉ch->s.heap.get? b=O o->H b=Yj->∃sl,h'.get? b=O {o with slots:=sl})(free:∀b o,b∉ch->s.heap.get? b=O o->H b=Yj->H' b=Yj)(there:∀b o,b∉ch->s.heap.get? b=O o->∃o',h'.get? b=O o')(ri:∀b xs,H b=O (.U xs)->H' b=O (.U xs))(nR:∀b o u,H b=O (.fO o u)->H' b=O (.fO o u))(ph:∀b ps,H b=O (.ye ps)->∃more,H' b=O (.ye<|ps++more))(ns:∀m,s.heap.Ns X.env.locals m->h'.Ns X.env.locals m)(kb:eY X.prog X.w H' h')(hg:t8 g'):
  c9 X c6 σ H' {s with heap:=h',gens:=g',drawn:=d',toks:=t'}:=by
 have QN:∀b o,X.s₀.heap.get? b=O o->b≠X.env.locals:=λb o e=>eE<|Yy (Yw e) I.ok.above;have Qd:∀b o,X.s₀.heap.get? b=O o->b∉X.ex->b∉ch:=λb o e hx hb=>by
  rcases(sT b hb).1 with z|z
  .exact hx z
  .exact oz (Yy (Yw e) z)<|pG _
 have cellK:∀x c,X.env.cells.lookup x=O c->∀v,s.heap.IsCell c v->h'.IsCell c v:=λx c e v ao=>by
  let⟨o,ho,hd⟩:=ao;have Ji:c∉ch:=λz=>(sT c z).2.2.1 x c e aaD;by_cases hc:c∈X.fs
  .let⟨sl,q⟩:=slot c o (I.Al x c e) hc Ji ho<|I.mR x c e;exact⟨_,q,hd⟩
  .exact⟨o,keep c o (I.Al x c e) hc Ji ho<|I.mR x c e,hd⟩
 refine⟨I.ok,I.os,hg,⟨λb o e n hb hx=>?_,λb o e n hb hx=>?_,λb o e n hx=>?_,λb o e hx=>?_,λb xs e=>ri b xs<|I.base.ri b xs e,λb o xs e=>nR b o xs<|I.base.nR b o xs e,λb ps e=>?_⟩,?_,λx c e=>?_,?_,λx c e=>?_,λp hp=>?_,kb,I.len⟩
 .exact keep b o (QN b o e) hb (Qd b o e hx) (I.base.keep b o e n hb hx)<|I.base.free b o e n hx
 .let⟨sl,e1⟩:=I.base.slot b o e n hb hx;let⟨EI,e2⟩:=slot b _ (QN b o e) hb (Qd b o e hx) e1<|I.base.free b o e n hx;exact⟨EI,e2⟩
 .let⟨o',e1⟩:=I.base.there b o e hx;exact free b o' (Qd b o e hx) e1<|I.base.free b o e n hx
 .let⟨o',e1⟩:=I.base.there b o e hx;exact there b o' (Qd b o e hx) e1
 .let⟨m1,e1⟩:=I.base.ph b ps e;let⟨m2,e2⟩:=ph b _ e1;exact⟨m1++m2,by rw[e2,OC]⟩
 .let⟨m,hn,hl⟩:=I.loc;refine⟨m,ns m hn,λi x v e1 e2 e3=>?_⟩;let⟨u,r,l⟩:=hl i x v e1 e2 e3;refine⟨u,r,?_⟩;rcases l with l|⟨k,c,e,z⟩
  .exact .inl l
  .exact .inr ⟨k,c,e,cellK x c e _ z⟩
 .let⟨v,z⟩:=I.cell x c e;exact⟨v,cellK x c e v z⟩
 .let⟨m,⟨o,_,_,ho,_⟩,_⟩:=I.loc;exact free _ o (λz=>(sT _ z).2.1 aaD) ho I.free
 .let⟨v,o,ho,hd⟩:=I.cell x c e;exact free c o (λz=>(sT c z).2.2.1 x c e aaD) ho<|I.mR x c e
 .let⟨e,n,ne,nf,d⟩:=I.pin p hp;have Ji:p.1∉ch:=λz=>(sT p.1 z).2.2.2 p hp aaD;exact⟨keep p.1 p.2 ne nf Ji e n,free p.1 p.2 Ji e n,ne,nf,d⟩
def c9.un(I:c9 X c6 σ H s)(u:Un X.fs [] H H' s.heap h')(kb:eY X.prog X.w H' h'):c9 X c6 σ H' {s with heap:=h',toks:=t'}:=by let⟨m,⟨o,es,ep,ho,r⟩,_⟩:=id I.loc;let⟨sl,hL⟩:=u.any ho I.free j0;exact I.step (g':=s.gens) (d':=s.drawn) (ch:=[]) nofun (λb o _ hb _ e n=>u.keep b o e n hb j0) (λb o _ hb _ e n=>u.slot b o e n hb j0) (λb o _ e n=>u.free b o e n j0) (λb o _ e=>u.there b o e j0) u.ri u.nR u.ph (λm' hm=>by let⟨o',EJ,EK,qf,r'⟩:=hm;rw[ho]at qf;cases qf;exact⟨_,EJ,EK,hL,r'⟩) kb I.bare
def c9.call{g':Array GenState}{d':Drawn}(I:c9 X c6 σ H s)(u:Un (ti X.stack) ch H H' s.heap h')(kb:eY X.prog X.w H' h')(hg:t8 g')(sT:∀b∈ch,(b∈X.ex\/X.s₀.heap.objs.size<=b)/\b≠X.env.locals/\(∀x c,X.env.cells.lookup x=O c->c≠b)/\∀p∈X.pn++c6,p.1≠b):
  c9 X c6 σ H' {s with heap:=h',gens:=g',drawn:=d',toks:=t'}:=by
 let⟨m,⟨o,es,ep,ho,r⟩,_⟩:=id I.loc;let⟨sl,hL⟩:=u.any ho I.free λz=>(sT _ z).2.1 aaD;exact I.step (ch:=ch) sT (λb o hL hb hc e n=>u.keep b o e n (λz=>(Yt.mp<|I.xq b z).elim hL hb) hc) (λb o _ _ hc e n=>u.any e n hc) (λb o hc e n=>u.free b o e n hc) (λb o hc e=>u.there b o e hc) u.ri u.nR u.ph (λm' hm=>by let⟨o',EJ,EK,qf,r'⟩:=hm;rw[ho]at qf;cases qf;exact⟨_,EJ,EK,hL,r'⟩) kb hg
def c9.turned{it:Ys}(I:c9 X c6 σ H s)(k:∀b o,b≠it->s.heap.get? b=O o->h'.get? b=O o)(hn:H it=Yj)(hL:it≠X.env.locals)(h1:it∈X.ex\/X.s₀.heap.objs.size<=it)(h2:∀x c,X.env.cells.lookup x=O c->c≠it)(h3:∀p∈X.pn++c6,p.1≠it):c9 X c6 σ H {s with heap:=h',toks:=t'}:=by
 have Jj:∀b u,H b=O u->b≠it:=λb u e z=>by rw[z,hn]at e;cases e
 refine I.step (g':=s.gens) (d':=s.drawn) (ch:=[it]) (λb hb=>?_) (λb o _ _ hc e _=>k b o (λz=>hc<|by simp[z]) e) (λb o _ _ hc e _=>⟨o.slots,k b o (λz=>hc<|by simp[z]) e⟩) (λ_ _ _ _ n=>n)
  (λb o hc e=>⟨o,k b o (λz=>hc<|by simp[z]) e⟩) (λ_ _ e=>e) (λ_ _ _ e=>e) (λb ps e=>⟨#[],by rw[e];simp⟩) (λm hm=>?_) (λb u e=>?_) I.bare
 .have e:b=it:=by simpa using hb
  subst e;exact⟨h1,hL,h2,h3⟩
 .let⟨o,es,ep,ho,r⟩:=hm;exact⟨o,es,ep,k _ o (cF hL) ho,r⟩
 .refine(I.kb b u e).rV (λc v hc q=>k c v ?_ q) (λ_ q=>q) λ_ _ q=>q;rcases hc with z|z
  .rw[z];exact Jj b u e
  .exact Jj c _ z
def c9.tok(I:c9 X c6 σ H s)(t:Nat):c9 X c6 σ H {s with toks:=t}:=I.un (h':=s.heap) (t':=t) Un.refl I.kb
def c9.kept(I:c9 X c6 σ H s)(k:∀b u,s.heap.get? b=O u->h'.get? b=O u):c9 X c6 σ H {s with heap:=h',toks:=t'}:=I.un (Un.kept k)<|I.kb.kept k
def c9.laid{a:Ys}{o:HO}(I:c9 X c6 σ H s)(k:∀b u,s.heap.get? b=O u->h'.get? b=O u)(hp:d4 s<=a)(new:gC X.prog X.w (k4 H a o) h' a o):
  c9 X c6 σ (k4 H a o) {s with heap:=h',toks:=t'}:=I.un (Un.laid k hp<|I.kb.fresh hp)<|I.kb.laid k hp new
def c9.write{x e:Ys}{o:HO}(I:c9 X c6 σ H s)(mu:Jh (H x))(he:e=x\/H e=O (.own x))(k:∀b u,b≠e->s.heap.get? b=O u->h'.get? b=O u)(A5:∃u,h'.get? e=O u)(new:gC X.prog X.w (k4 H x o) h' x o):c9 X c6 σ (k4 H x o) {s with heap:=h',toks:=t'}:=I.un (Un.write mu he k A5)<|I.kb.write mu he k A5 new
def c9.QO{tL:oy}(I:c9 X c6 σ H s)(h:∀p∈tL,s.heap.get? p.1=O p.2/\H p.1=Yj/\p.1≠X.env.locals/\p.1∉X.fs/\∀v,p.2.data≠ .cell v):c9 X tL σ H s:=⟨I.ok,I.os,I.bare,I.base,I.loc,I.cell,I.free,I.mR,λp hp=>(Yr.mp hp).elim (λz=>I.pin p<|vJ _ z)<|h p,I.kb,I.len⟩
def QP{N:oB}(hN:N.Nodup){i j:Nat}{x:ak}(a:N[i]?=O x)(b:N[j]?=O x):i=j:=by let⟨h1,e1⟩:=Yd.mp a;let⟨h2,e2⟩:=Yd.mp b;exact(NC hN).mp (e1.trans e2.symm)
def W2{M:Model}{A:cC}{i:Nat}{x:ak}{v:V}{u:Yf}{Q:Unit->Yi->Prop}(I:c9 X c6 σ H s)(hN:X.N.Nodup)(hi:X.N[i]?=O x)(hx:Loc X.env.scope x)(r:i5 v u)(h:∀s',c9 X c6 (σ.set i<|O v) H s'->(∃a,Ah a s.heap s'.heap/\(a=X.env.locals\/X.env.cells.lookup x=O a))->Q () s')(hf:X.fn x=true\/X.env.scope.names.lookup x=O .local:=by first|exact .inl rfl|exact .inr rfl|assumption):Y5 M A (storeName X.env x u) Q E s:=by
 let⟨m,hn,hl⟩:=id I.loc;have w9:(X.env.scope.kind== .class|| (X.env.scope.kind== .module&&X.env.locals !=X.env.globals))=false:=by rw[I.ok.kind];rfl
 have QU:i<b9 σ:=by rw[I.len];exact(Yd.mp hi).1
 have Al:=I.Al;have tracked:∀{a:Ys} {h':aF},(∃o,s.heap.get? a=O o/\H a=Yj)->Ah a s.heap h'->eY X.prog X.w H h':=λ{a h'} ha hs b ob e=>by
  let⟨_,_,tJ⟩:=ha;refine(I.kb b ob e).rV (λc w' hc q=>(hs.2 c ?_).trans q) (λ_ q=>q) λ_ _ q=>q;rintro rfl;rcases hc with rfl|hc
  .rw[tJ]at e;cases e
  .rw[tJ]at hc;cases hc
 rcases hx with hk|hk
 .refine wpAny_storeName_local hk hn (λh' A6 hs=>?_) w9;let⟨ZpL,_,_,hoL,_⟩:=id hn;refine h _ ⟨I.ok,I.os,I.bare,⟨λb o e n hb hx=>?_,λb o e n hb hx=>?_,I.base.free,λb o e hx=>?_,I.base.ri,I.base.nR,I.base.ph⟩,⟨_,A6,λj y v' e1 e2 e3=>?_⟩,λy c e=>?_,I.free,I.mR,λp hp=>?_,tracked ⟨ZpL,hoL,I.free⟩ hs,by simpa using I.len⟩ ⟨_,hs,.inl aaD⟩
  .exact(hs.2 b<|eE<|Yy (Yw e) I.ok.above).trans (I.base.keep b o e n hb hx)
  .let⟨sl,e1⟩:=I.base.slot b o e n hb hx;exact⟨sl,(hs.2 b<|eE<|Yy (Yw e) I.ok.above).trans e1⟩
  .let⟨o',e1⟩:=I.base.there b o e hx;exact⟨o',(hs.2 b<|eE<|Yy (Yw e) I.ok.above).trans e1⟩
  .by_cases hj:j=i
   .subst hj;rw[hi]at e1;cases e1;rw[Yu QU]at e2;cases e2;exact⟨u,r,.inl ⟨hk,j0⟩⟩
   .rw[Ym<|cF hj]at e2;let⟨u',r',q⟩:=hl j y v' e1 e2 e3;refine⟨u',r',?_⟩;rcases q with⟨k,e⟩|⟨k,c,e,z⟩
    .refine .inl ⟨k,?_⟩;have:y≠x:=λe=>hj<|QP hN e1<|e▸hi;simp[this,e]
    .exact .inr ⟨k,c,e,z.sameBut hs<|Al y c e⟩
  .let⟨w',z⟩:=I.cell y c e;exact⟨w',z.sameBut hs<|Al y c e⟩
  .let⟨e,n,ne,nf,d⟩:=I.pin p hp;exact⟨(hs.2 p.1 ne).trans e,n,ne,nf,d⟩
 .have EL:X.fn x=true:=by
   rcases hf with z|z
   .exact z
   .rw[z]at hk;cases hk
  let⟨c,hc⟩:=I.ok.has x<|.inl hk;let⟨w',z⟩:=I.cell x c hc;refine wpAny_storeName_cell I.ok.kind hk hc z λh' r9 hs=>?_;let⟨oc,QY,Aec⟩:=id z;refine h {s with heap:=h'} ⟨I.ok,I.os,I.bare,⟨λb o e n hb hx=>?_,λb o e n hb hx=>?_,I.base.free,λb o e hx=>?_,I.base.ri,I.base.nR,I.base.ph⟩,⟨m,hn.sameBut hs<|cF<|Al x c hc,λj y v' e1 e2 e3=>?_⟩,λy c' e=>?_,I.free,I.mR,λp hp=>?_,tracked ⟨oc,QY,I.mR x c hc⟩ hs,by simpa using I.len⟩ ⟨c,hs,.inr hc⟩
  .exact(hs.2 b<|eE<|Yy (Yw e)<|I.ok.AG x c EL hc).trans (I.base.keep b o e n hb hx)
  .let⟨sl,e1⟩:=I.base.slot b o e n hb hx;exact⟨sl,(hs.2 b<|eE<|Yy (Yw e)<|I.ok.AG x c EL hc).trans e1⟩
  .let⟨o',e1⟩:=I.base.there b o e hx;exact⟨o',(hs.2 b<|eE<|Yy (Yw e)<|I.ok.AG x c EL hc).trans e1⟩
  .by_cases hj:j=i
   .subst hj;rw[hi]at e1;cases e1;rw[Yu QU]at e2;cases e2;exact⟨u,r,.inr ⟨.inl hk,c,hc,r9⟩⟩
   .rw[Ym<|cF hj]at e2;let⟨u',r',q⟩:=hl j y v' e1 e2 e3;refine⟨u',r',?_⟩;rcases q with q|⟨k,c',e,z'⟩
    .exact .inl q
    .refine .inr ⟨k,c',e,z'.sameBut hs ?_⟩;rintro rfl;exact hj<|QP hN e1<|I.ok.inj _ _ _ e hc▸hi
  .by_cases Q1:c'=c
   .subst Q1;exact⟨_,r9⟩
   .let⟨w2,z2⟩:=I.cell y c' e;exact⟨w2,z2.sameBut hs Q1⟩
  .let⟨e,n,ne,nf,d⟩:=I.pin p hp;refine⟨(hs.2 p.1 ?_).trans e,n,ne,nf,d⟩;intro q;rw[q,QY]at e;have q':oc=p.2:=Y9 e;exact d w' (by rwa[<-q'])
def Q2{M:Model}{A:cC}{i:Nat}{x:ak}{v:V}{u:Yf}{Q:Unit->Yi->Prop}(I:c9 X c6 σ H s)(hN:X.N.Nodup)(hi:X.N[i]?=O x)(hx:Loc X.env.scope x)(r:i5 v u)(h:∀s',c9 X c6 (σ.set i<|O v) H s'->Q () s')(hf:X.fn x=true\/X.env.scope.names.lookup x=O .local:=by first|exact .inl rfl|exact .inr rfl|assumption):Y5 M A (storeName X.env x u) Q E s:=W2 I hN hi hx r (λs' I' _=>h s' I') hf
def c9.uC{s':Yi}(I:c9 X c6 σ H s)(ho:s'.os=s.os)(u:Un (ti X.stack) ch H H' s.heap s'.heap)(kb:eY X.prog X.w H' s'.heap)(hg:t8 s'.gens)(sT:∀b∈ch,(b∈X.ex\/X.s₀.heap.objs.size<=b)/\b≠X.env.locals/\(∀x c,X.env.cells.lookup x=O c->c≠b)/\∀p∈X.pn++c6,p.1≠b):c9 X c6 σ H' s':=by let⟨h',g',d',t',o'⟩:=s';have e:o'=s.os:=ho;subst e;exact I.call (g':=g') (t':=t') (d':=d') u kb hg sT
end
abbrev XK:=Yf->qA->Hp->Prop
abbrev St:=List<|Option V
abbrev VK:=V->Hp->Prop
abbrev TE:=St->Hp->VK->Prop
abbrev TT:=St->Hp->(Bool->Hp->Prop)->Prop
abbrev TA:=St->Hp->(k6->Hp->Prop)->Prop
structure Ends where
 nx:St->Hp->Prop
 rt:VK
 bk:St->Hp->Prop:=λ_ _=>False
 ct:St->Hp->Prop:=λ_ _=>False
abbrev TS:=Ends->St->Hp->Prop
inductive EP(X:Cx)(c6:oy)(σ:St)(Q:VK)(u:Yf)(s':Yi):Prop where
 |mk (v:V) (H':Hp) (I:c9 X c6 σ H' s') (r:i5 v u) (q:Q v H'):EP X c6 σ Q u s'
inductive TP(X:Cx)(c6:oy)(σ:St)(Q:Bool->Hp->Prop)(b:Bool)(s':Yi):Prop where
 |mk (H':Hp) (I:c9 X c6 σ H' s') (q:Q b H'):TP X c6 σ Q b s'
inductive AP(X:Cx)(c6:oy)(σ:St)(Q:k6->Hp->Prop)(us:l5)(s':Yi):Prop where
 |mk (vs:k6) (H':Hp) (I:c9 X c6 σ H' s') (r:i3 vs us) (q:Q vs H'):AP X c6 σ Q us s'
def SP(X:Cx)(c6:oy)(D:Ends)(f:Flow)(s':Yi):Prop:=
 match f with
 | .next=>∃σ' H',c9 X c6 σ' H' s'/\D.nx σ' H'|.brk=>∃σ' H',c9 X c6 σ' H' s'/\D.bk σ' H'|.cont=>∃σ' H',c9 X c6 σ' H' s'/\D.ct σ' H'|.ret u=>∃v σ' H',c9 X c6 σ' H' s'/\i5 v u/\D.rt v H'
def PE(X:Cx)(e:Expr)(t:TE):Prop:=∀(c6:oy) (s:Yi) (σ:St) (H:Hp) (Q:VK),c9 X c6 σ H s->t σ H Q->Y5 (aq X.prog X.w) X.A (aU e X.env) (EP X c6 σ Q) X.xe s
def PT(X:Cx)(e:Expr)(t:TT):Prop:=∀(c6:oy) (s:Yi) (σ:St) (H:Hp) (Q:Bool->Hp->Prop),c9 X c6 σ H s->t σ H Q->Y5 (aq X.prog X.w) X.A (isTrue e X.env<|aU e X.env) (TP X c6 σ Q) X.xe s
def PW(X:Cx)(e:Expr)(t:TT):Prop:=∀(whole:mW Yf) (c6:oy) (s:Yi) (σ:St) (H:Hp) (Q:Bool->Hp->Prop),c9 X c6 σ H s->t σ H Q->Y5 (aq X.prog X.w) X.A (isTrue e X.env whole) (TP X c6 σ Q) X.xe s
def PW.pt{X:Cx}{e:Expr}{t:TT}(h:PW X e t):PT X e t:=h _
def PA(X:Cx)(es:pw)(t:TA):Prop:=∀(pos:aZ) (c6:oy) (s:Yi) (σ:St) (H:Hp) (Q:k6->Hp->Prop),c9 X c6 σ H s->t σ H Q->Y5 (aq X.prog X.w) X.A (spliced<|fZ pos<|Y1 es X.env) (AP X c6 σ Q) X.xe s
def PS(X:Cx)(st:Ye1)(t:TS):Prop:=∀(c6:oy) (s:Yi) (σ:St) (H:Hp) (D:Ends),c9 X c6 σ H s->t D σ H->Y5 (aq X.prog X.w) X.A (exec st X.env) (SP X c6 D) X.xe s
def kj(X:Cx)(st:rq)(t:TS):Prop:=∀(c6:oy) (s:Yi) (σ:St) (H:Hp) (D:Ends),c9 X c6 σ H s->t D σ H->Y5 (aq X.prog X.w) X.A (execs st X.env) (SP X c6 D) X.xe s
def aV{α:Type}{t:mW α}{Q Q':α->Yi->Prop}{M:Model}{A:cC}{s:Yi}(h:Y5 M A t Q E s)(hQ:∀a s,Q a s->Q' a s):Y5 M A t Q' E s:=gq h hQ λ_ _ x=>x
end L2
namespace L2
open PySem PySem.Spec PyProof.Rows
section
variable {X:Cx}
def Aed(i:Nat):TE:=λσ H Q=>∃v,σ[i]?=O (O v)/\Q v H
def tC(v:V):TE:=λ_ H Q=>Q v H
def ZzI{i:Nat}{x:ak}{pos:aZ}(hN:X.N[i]?=O x)(hv:Qc X.env.scope x)(hd:(x==("__debug__":ak))=false:=by decide)(vt:(x==("__classdict__":ak))=false:=by decide):PE X (.Name x pos) (Aed i):=by
 intro c6 s σ H Q I h;let⟨v,e,h⟩:=h;let⟨m,hn,hl⟩:=I.loc;let⟨u,r,l⟩:=hl i x v hN e hv;have pV:EP X c6 σ Q u s:=⟨v,H,I,r,h⟩;rcases l with⟨hk,hm⟩|⟨hk,c,hc,u4⟩
 .exact VL (wpAny_loadName_local I.ok.kind hk hn hm pV) hd
 .rcases hk with hk|hk
  .exact VL (wpAny_loadName_cell I.ok.kind hk hc u4 pV) hd
  .exact VL (wpAny_loadName_free I.ok.kind hk hc u4 pV vt) hd
def Aee{i j pos}:PE X (.Constant (.int i) j pos) (tC<|.int i):=λ_ _ _ H _ I h=>wpAny_Constant_int ⟨.int i,H,I.tok _,⟨_,rfl⟩,h⟩
def Aef{b j pos}:PE X (.Constant (.bool b) j pos) (tC<|.bl b):=λ_ _ _ H _ I h=>Constant_bool ⟨.bl b,H,I,rfl,h⟩
def Aeg{j pos}:PE X (.Constant .none j pos) (tC .Z):=λ_ _ _ H _ I h=>Constant_none ⟨.Z,H,I,rfl,h⟩
def ZzR{x j pos}:PE X (.Constant (.str x) j pos) (tC<|.str x):=λ_ _ _ H _ I h=>Calls.Constant_str ⟨.str x,H,I.tok _,⟨_,rfl⟩,h⟩
def Gl(X:Cx)(x:ak):Prop:=X.env.kindOf x=O .globalImplicit
def Es{E:Yf->Yi->Prop}{c6:oy}{s:Yi}{σ:St}{H:Hp}{x:ak}{u:Yf}{pos:aZ}{Q:Yf->Yi->Prop}(I:c9 X c6 σ H s)(hg:Gl X x)(hm:X.mg x=O u)(h:Q u s)(hd:(x==("__debug__":ak))=false:=by decide):Y5 (aq X.prog X.w) X.A (aU (.Name x pos) X.env) Q E s:=O0 I.ok.kind hg (Calls.loadGlobal_global (by rw[I.ok.glob];exact I.mod.glob.keeps I.bk) hm h) hd
def Am{E:Yf->Yi->Prop}{c6:oy}{s:Yi}{σ:St}{H:Hp}{x:ak}{u:Yf}{pos:aZ}{Q:Yf->Yi->Prop}(I:c9 X c6 σ H s)(hg:Gl X x)(hm:X.mg x=Yj)(hv:j_ x=O u)(h:Q u s)(hn:x≠ "__name__":=by decide)(hd:(x==("__debug__":ak))=false:=by decide):Y5 (aq X.prog X.w) X.A (aU (.Name x pos) X.env) Q E s:=by let⟨mb,h1,h2⟩:=I.mod.blt;exact O0 I.ok.kind hg (Calls.loadGlobal_builtin (by rw[I.ok.glob];exact I.mod.glob.keeps I.bk) hm (by rw[I.ok.blt];exact h1.keeps I.bk) ((h2 x hn).trans hv) h) hd
def Rl{x:ak}{v:V}{u:Yf}{pos:aZ}(hg:Gl X x)(hm:X.mg x=O u)(r:i5 v u)(hd:(x==("__debug__":ak))=false:=by decide):PE X (.Name x pos) (tC v):=λ_ _ _ H _ I h=>Es I hg hm ⟨v,H,I,r,h⟩ hd
def Zxj{x:ak}{v:V}{u:Yf}{pos:aZ}(hg:Gl X x)(hm:X.mg x=Yj)(hv:j_ x=O u)(r:i5 v u)(hn:x≠ "__name__":=by decide)(hd:(x==("__debug__":ak))=false:=by decide):PE X (.Name x pos) (tC v):=λ_ _ _ H _ I h=>Am I hg hm hv ⟨v,H,I,r,h⟩ hn hd
variable {a b:Expr} {ta tb:TE} {pos:aZ}
def ZlW(t:TE):TT:=λσ H Q=>t σ H λx H1=>∃c,x= .bl c/\Q c H1
def W3{e:Expr}{t:TE}(h:PE X e t)(he:∀whole,isTrue e X.env whole=(do let v ←whole;Iv e.pos;z8 [v] (truthy v)):=by intro _;rfl):PT X e (ZlW t):=by intro c6 s σ H Q I hw;refine isTrue_plain (aV (h c6 s σ H _ I hw) λv s1 ao=>?_)<|he _;let⟨x,H1,I1,r1,q1⟩:=ao;let⟨d,rfl,q⟩:=q1;cases r1;exact Im ⟨H1,I1,q⟩
variable {tA Qe:TT} {rest:pw}
def Aeh(t u:TT):TT:=λσ H Q=>t σ H λc H1=>if c=true then u σ H1 Q else Q false H1
def tOr(t u:TT):TT:=λσ H Q=>t σ H λc H1=>if c=true then Q true H1 else u σ H1 Q
def Aei(t:TT):TT:=λσ H Q=>t σ H λc H1=>Q (!c) H1
def ZxC(ha:PT X a tA):PW X (.BoolOp .And [a] pos) tA:=by
 intro wh c6 s σ H Q I h;refine isTrue_and<|aV (ha c6 s σ H Q I h) λc s1 e=>?_;cases c with
 |true=>exact isTrue_and_nil e|false=>exact e
def ZzP(ha:PT X a tA):PW X (.BoolOp .Or [a] pos) tA:=by
 intro wh c6 s σ H Q I h;refine isTrue_or<|aV (ha c6 s σ H Q I h) λc s1 e=>?_;cases c with
 |false=>exact isTrue_or_nil e|true=>exact e
def ZzO(ha:PT X a tA)(hb:PW X (.BoolOp .And (b::rest) pos) Qe):PW X (.BoolOp .And (a::b::rest) pos) (Aeh tA Qe):=by
 intro wh c6 s σ H Q I h;refine isTrue_and<|aV (ha c6 s σ H _ I h) λc s1 ao=>?_;let⟨H1,I1,q1⟩:=ao;cases c with
 |true=>exact hb wh c6 s1 σ H1 Q I1 q1|false=>exact⟨H1,I1,q1⟩
def Aej(ha:PT X a tA)(hb:PW X (.BoolOp .Or (b::rest) pos) Qe):PW X (.BoolOp .Or (a::b::rest) pos) (tOr tA Qe):=by
 intro wh c6 s σ H Q I h;refine isTrue_or<|aV (ha c6 s σ H _ I h) λc s1 ao=>?_;let⟨H1,I1,q1⟩:=ao;cases c with
 |true=>exact⟨H1,I1,q1⟩|false=>exact hb wh c6 s1 σ H1 Q I1 q1
def Zzi(ha:PT X a tA):PT X (.UnaryOp .Not a pos) (Aei tA):=by intro c6 s σ H Q I h;exact isTrue_not<|aV (ha c6 s σ H (λc H1=>Q (!c) H1) I h) λc s' ⟨H',I',q⟩=>⟨H',I',q⟩
def Aek(ta tb:TE):TE:=λσ H Q=>ta σ H λx H1=>∃c,x= .bl c/\if c=true then tb σ H1 Q else Q (.bl false) H1
def Ael(ta tb:TE):TE:=λσ H Q=>ta σ H λx H1=>∃c,x= .bl c/\if c=true then Q (.bl true) H1 else tb σ H1 Q
def Aem(ta:TE):TE:=λσ H Q=>ta σ H λx H1=>∃c,x= .bl c/\Q (.bl<|!c) H1
def Zzw{op}{t:TE}(h:PE X a t):PE X (.BoolOp op [a] pos) t:=λc6 s σ H Q I hw=>BoolOp_one<|h c6 s σ H Q I hw
def ZyU(ha:PE X a ta)(hb:PE X (.BoolOp .And (b::rest) pos) tb):PE X (.BoolOp .And (a::b::rest) pos) (Aek ta tb):=by
 intro c6 s σ H Q I h;refine BoolOp_and<|aV (ha c6 s σ H _ I h) λv s1 ao=>?_;let⟨x,H1,I1,r1,q1⟩:=ao;let⟨c,rfl,q1⟩:=q1;cases r1;refine Im ?_;cases c with
 |true=>exact hb c6 s1 σ H1 Q I1 q1|false=>exact⟨.bl false,H1,I1,rfl,q1⟩
def Aen(ha:PE X a ta)(hb:PE X (.BoolOp .Or (b::rest) pos) tb):PE X (.BoolOp .Or (a::b::rest) pos) (Ael ta tb):=by
 intro c6 s σ H Q I h;refine BoolOp_or<|aV (ha c6 s σ H _ I h) λv s1 ao=>?_;let⟨x,H1,I1,r1,q1⟩:=ao;let⟨c,rfl,q1⟩:=q1;cases r1;refine Im ?_;cases c with
 |false=>exact hb c6 s1 σ H1 Q I1 q1|true=>exact⟨.bl true,H1,I1,rfl,q1⟩
def Aeo(ha:PE X a ta):PE X (.UnaryOp .Not a pos) (Aem ta):=by intro c6 s σ H Q I h;refine UnaryOp_<|aV (ha c6 s σ H _ I h) λv s1 ao=>?_;let⟨x,H1,I1,r1,q1⟩:=ao;let⟨c,rfl,q1⟩:=q1;cases r1;exact not_of<|Im ⟨.bl<|!c,H1,I1,rfl,q1⟩
def W4(t:TT)(ta tb:TE):TE:=λσ H Q=>t σ H λc H1=>if c=true then ta σ H1 Q else tb σ H1 Q
def ZuZ{c:Expr}(hc:PT X c tA)(ha:PE X a ta)(hb:PE X b tb):PE X (.IfExp c a b pos) (W4 tA ta tb):=by
 intro c6 s σ H Q I h;refine wpAny_IfExp<|aV (hc c6 s σ H _ I h) λd s1 ao=>?_;let⟨H1,I1,q1⟩:=ao;cases d with
 |true=>exact ha c6 s1 σ H1 Q I1 q1|false=>exact hb c6 s1 σ H1 Q I1 q1
end
end L2
namespace L2
open PySem PySem.Spec PyProof.Rows
def dm(K:Yb)(H:Hp)(a:Ys)(xs:k6):Prop:=
 Rd H a (.L xs)\/
  ∃(o:aJ) (c_:qB) (n:Nat),K.lookup a=O o/\o.cls= .type "list" /\o.dict=Yj/\o.data= .seq c_ n/\c_.size<=bI/\i3 xs c_.toList
def dD(K:Yb)(H:Hp)(a:Ys)(xs:k6):Prop:=
 Rd H a (.U xs)\/
  ∃(o:aJ) (c_:qB) (n:Nat),K.lookup a=O o/\(o.cls= .type "tuple" /\o.dict=Yj)/\o.data= .seq c_ n/\c_.size<=bI/\i3 xs c_.toList
def Aep:Yf->Option V
 | .none=>O .Z|.bool b=>O (.bl b)|.int i _=>O (.int i)|.str x _=>O<|.str x
 | .bytes b _=>O (.Eo b)|.float b _=>O (.AF b)|.ref a=>O (.ref a)|.type n=>O<|.ty n
 |_=>Yj
def i5.abs{x:V}{u:Yf}(r:i5 x u):Aep u=O x:=by
 cases x with
 |Z=>cases r;rfl|bl _=>cases r;rfl|int _=>let⟨t,rfl⟩:=r;rfl|str _=>let⟨t,rfl⟩:=r;rfl
 |Eo _=>let⟨t,rfl⟩:=r;rfl|AF _=>let⟨t,rfl⟩:=r;rfl|ref _=>cases r;rfl|ty _=>cases r;rfl
def i5.inj{x y:V}{u:Yf}(r:i5 x u)(q:i5 y u):x=y:=Y9<|r.abs.symm.trans q.abs
theorem i3.inj:∀{xs ys:k6} {us:l5},i3 xs us->i3 ys us->xs=ys
 |_,_,_,.nil,.nil=>rfl|_,_,_,.cons r t,.cons r' t'=>by rw[r.inj r',i3.inj t t']
variable{K:Yb}
section
variable {X:Cx} {c6:oy} {σ:St} {H:Hp} {s:Yi} {a:Ys} {xs ys:k6}
def dm.of(h:H a=O (.L xs)):dm K H a xs:=.inl<|.inl h
def dD.of(h:H a=O (.U xs)):dD K H a xs:=.inl<|.inl h
def c9.list(I:c9 X c6 σ H s)(h:dm X.K H a xs):∃c_:l5,i3 xs c_/\PlainL s.heap a c_.toArray/\xs.length<=bI:=by
 rcases h with h|⟨o,c_,n,hk,hc,hd,hs,hz,r⟩
 .let⟨z,c_,n,r,e⟩:=h.ok I.kb;exact⟨c_,r,⟨_,n,e,rfl,rfl,rfl⟩,z⟩
 .refine⟨c_.toList,r,⟨o,n,I.eZ a o hk,hc,hd,by simpa using hs⟩,?_⟩;have e:=r.length;simp only[Pb]at e;omega
def c9.tuple(I:c9 X c6 σ H s)(h:dD X.K H a xs):∃c_:l5,i3 xs c_/\IsTup s.heap a c_.toArray/\xs.length<=bI:=by
 rcases h with h|⟨o,c_,n,hk,hc,hs,hz,r⟩
 .let⟨z,c_,r,p⟩:=h.ok I.kb;exact⟨c_,r,p.U,z⟩
 .refine⟨c_.toList,r,⟨o,I.eZ a o hk,hc.1,n,by simpa using hs⟩,?_⟩;have e:=r.length;simp only[Pb]at e;omega
def c9.RA(I:c9 X c6 σ H s)(h:dm X.K H a xs)(h':dm X.K H a ys):xs=ys:=by
 let⟨c_,r,⟨o,n,e,_,_,d⟩,_⟩:=I.list h;let⟨its',r',⟨o',n',e',_,_,d'⟩,_⟩:=I.list h';rw[e]at e';cases e';rw[d]at d';injection d' with d1 _;have:c_=its':=by simpa using congrArg Pg d1
 subst this;exact r.inj r'
def c9.RC(I:c9 X c6 σ H s)(h:dD X.K H a xs):∃c_:l5,i3 xs c_/\qD s.heap a c_.toArray/\xs.length<=bI:=by
 rcases h with h|⟨o,c_,n,hk,hc,hs,hz,r⟩
 .let⟨z,c_,r,p⟩:=h.ok I.kb;exact⟨c_,r,p,z⟩
 .refine⟨c_.toList,r,⟨o,I.eZ a o hk,hc,n,by simpa using hs⟩,?_⟩;have e:=r.length;simp only[Pb]at e;omega
def c9.Uw(I:c9 X c6 σ H s)(h:dD X.K H a xs)(h':dD X.K H a ys):xs=ys:=by
 let⟨c_,r,⟨o,e,_,n,d⟩,_⟩:=I.tuple h;let⟨its',r',⟨o',e',_,n',d'⟩,_⟩:=I.tuple h';rw[e]at e';cases e';rw[d]at d';injection d' with d1 _;have:c_=its':=by simpa using congrArg Pg d1
 subst this;exact r.inj r'
end
abbrev Cx.p9(X:Cx)(E:Yf->Yi->Prop):Cx:={X with xe:=E}
abbrev Cx.iC(X:Cx):Cx:=X.p9 λ_ _=>False
def Cx.Ok.p9{X:Cx}(ok:X.Ok)(E:Yf->Yi->Prop):(X.p9 E).Ok:=⟨ok.mod,ok.kind,ok.glob,ok.blt,ok.above,ok.inj,ok.has,ok.AG,ok.hd,ok.frames,ok.Ep,ok.Er,ok.bs,ok.pI,ok.zN,ok.xu,ok.lU,ok.rN⟩
def Cx.Ok.nQ{X:Cx}{E:Yf->Yi->Prop}(ok:(X.p9 E).Ok):X.Ok:=⟨ok.mod,ok.kind,ok.glob,ok.blt,ok.above,ok.inj,ok.has,ok.AG,ok.hd,ok.frames,ok.Ep,ok.Er,ok.bs,ok.pI,ok.zN,ok.xu,ok.lU,ok.rN⟩
variable{e:Expr}
section
variable {X:Cx} {c6:oy} {σ:St} {H:Hp} {s:Yi} {E:Yf->Yi->Prop}
def c9.p9(I:c9 X c6 σ H s)(E:Yf->Yi->Prop):c9 (X.p9 E) c6 σ H s:=⟨I.ok.p9 E,I.os,I.bare,I.base,I.loc,I.cell,I.free,I.mR,I.pin,I.kb,I.len⟩
def c9.nQ(I:c9 (X.p9 E) c6 σ H s):c9 X c6 σ H s:=⟨I.ok.nQ,I.os,I.bare,I.base,I.loc,I.cell,I.free,I.mR,I.pin,I.kb,I.len⟩
def SP.nQ{D:Ends}{f:Flow}{s':Yi}(h:SP (X.p9 E) c6 D f s'):SP X c6 D f s':=by
 cases f with
 |next=>let⟨σ',H',I,q⟩:=h;exact⟨σ',H',I.nQ,q⟩|brk=>let⟨σ',H',I,q⟩:=h;exact⟨σ',H',I.nQ,q⟩|cont=>let⟨σ',H',I,q⟩:=h;exact⟨σ',H',I.nQ,q⟩|ret u=>let⟨v,σ',H',I,r,q⟩:=h;exact⟨v,σ',H',I.nQ,r,q⟩
def PE.iC{t:TE}(h:PE X.iC e t):PE X e t:=λc6 s σ H Q I hw=>gq (h c6 s σ H Q (I.p9 _) hw) (λ_ _ ⟨v,H',I',r,q⟩=>⟨v,H',I'.nQ,r,q⟩) λ_ _ z=>gM z
def PT.iC{t:TT}(h:PT X.iC e t):PT X e t:=λc6 s σ H Q I hw=>gq (h c6 s σ H Q (I.p9 _) hw) (λ_ _ ⟨H',I',q⟩=>⟨H',I'.nQ,q⟩) λ_ _ z=>gM z
def kj.iC{st:rq}{t:TS}(h:kj X.iC st t):kj X st t:=λc6 s σ H D I hw=>gq (h c6 s σ H D (I.p9 _) hw) (λ_ _ q=>q.nQ) λ_ _ z=>gM z
end
section
variable {X:Cx} {st:Ye1} {rest:rq} {t u:TS} {e:Expr} {te:TE} {pos:aZ}
def Aeq:TS:=λD σ H=>D.nx σ H
def Aer(t u:TS):TS:=λD σ H=>t {D with nx:=u D} σ H
def ZwT:kj X [] Aeq:=λ_ _ σ H _ I h=>Io ⟨σ,H,I,h⟩
def RE(h1:PS X st t)(h2:kj X rest u):kj X (st::rest) (Aer t u):=by
 intro c6 s σ H D I h;refine MD<|aV (h1 c6 s σ H {D with nx:=u D} I h) λf s1 q=>?_;cases f with
 |next=>let⟨σ',H',I',q⟩:=q;exact h2 c6 s1 σ' H' D I' q|ret v=>exact q|brk=>exact q
 |cont=>exact q
def RF(h1:PS X st t):kj X [st] t:=by
 intro c6 s σ H D I h;refine MD<|aV (h1 c6 s σ H D I h) λf s1 q=>?_;cases f with
 |next=>exact Io q|ret v=>exact q|brk=>exact q|cont=>exact q
def c9.quiet{c6:oy}{σ:St}{H:Hp}{s:Yi}(I:c9 X c6 σ H s):interactive X.env=false:=by simp[interactive,I.ok.kind]
def Aes(te:TE):TS:=λD σ H=>te σ H λ_ H1=>D.nx σ H1
def RH(he:PE X e te)(hs:pC e Yj pos.line X.env=pure false:=by rfl):PS X (.Expr e pos) (Aes te):=by intro c6 s σ H D I h;exact wpAny_Expr_any (aV (he c6 s σ H _ I h) λv s1 ⟨x,H1,I1,r1,q1⟩=>⟨σ,H1,I1,q1⟩) I.quiet hs
def Aet(te:TE):TS:=λD σ H=>te σ H D.rt
def Zzk(he:PE X e te):PS X (.Return (O e) pos) (Aet te):=by intro c6 s σ H D I h;exact wpAny_Return_some<|aV (he c6 s σ H _ I h) λv s1 ⟨x,H1,I1,r1,q1⟩=>⟨x,σ,H1,I1,r1,q1⟩
def Aeu(c:TT)(t u:TS):TS:=λD σ H=>c σ H λb H1=>if b=true then t D σ H1 else u D σ H1
def W5{c:Expr}{a b:rq}{tc:TT}(hc:PT X c tc)(ha:kj X a t)(hb:kj X b u):PS X (.If c a b pos) (Aeu tc t u):=by
 intro c6 s σ H D I h;refine wpAny_If<|aV (hc c6 s σ H _ I h) λd s1 ao=>?_;let⟨H1,I1,q1⟩:=ao;cases d with
 |true=>exact ha c6 s1 σ H1 D I1 q1|false=>exact hb c6 s1 σ H1 D I1 q1
end
abbrev TG:=V->St->Hp->(St->Hp->Prop)->Prop
abbrev vU:=k6->St->Hp->(St->Hp->Prop)->Prop
def PG(X:Cx)(target:Expr)(t:TG):Prop:=
 ∀(c6:oy) (s:Yi) (σ:St) (H:Hp) (v:V) (u:Yf) (Q:St->Hp->Prop),c9 X c6 σ H s->i5 v u->t v σ H Q ->
  Y5 (aq X.prog X.w) X.A (nU target X.env u) (λ_ s'=>∃σ' H',c9 X c6 σ' H' s'/\Q σ' H') X.xe s
def ud(X:Cx)(ts:pw)(t:vU):Prop:=
 ∀(c6:oy) (s:Yi) (σ:St) (H:Hp) (vs:k6) (us:l5) (Q:St->Hp->Prop),c9 X c6 σ H s->i3 vs us->t vs σ H Q ->
  Y5 (aq X.prog X.w) X.A (assignInOrder ((vA ts X.env).map (·.2)) us) (λ_ s'=>∃σ' H',c9 X c6 σ' H' s'/\Q σ' H') X.xe s
section
variable {X:Cx} {pos:aZ}
def RI(i:Nat):TG:=λv σ H Q=>Q (σ.set i<|O v) H
def RO{i:Nat}{x:ak}(hN:X.N.Nodup)(hi:X.N[i]?=O x)(hx:Loc X.env.scope x)(hf:X.fn x=true\/X.env.scope.names.lookup x=O .local:=by first|exact .inl rfl|exact .inr rfl|assumption):PG X (.Name x pos) (RI i):=by intro c6 s σ H v u Q I r h;exact Vs (Q2 I hN hi hx r (λs' I'=>⟨_,H,I',h⟩) hf)
def Aev:vU:=λvs σ H Q=>vs=[]/\Q σ H
def Aew(t:TG)(u:vU):vU:=λvs σ H Q=>∃v r,vs=v::r/\t v σ H λσ' H'=>u r σ' H' Q
def ZxN:ud X [] Aev:=by intro c6 s σ H vs us Q I r h;let⟨e,h⟩:=h;subst e;cases r;exact assignInOrder_nil ⟨σ,H,I,h⟩
def Zwf{es:pw}{t:TG}{u:vU}(h1:PG X e t)(h2:ud X es u)(hs:(vA (e::es) X.env).map (·.2)=nU e X.env::(vA es X.env).map (·.2):=by rfl):ud X (e::es) (Aew t u):=by
 intro c6 s σ H vs us Q I r h;let⟨v,Zum,e1,h⟩:=h;subst e1;cases r with
 |cons r rr=>rw[hs];refine assignInOrder_cons<|aV (h1 c6 s σ H _ _ _ I r h) λ_ s1 ao=>?_;let⟨σ1,H1,I1,q1⟩:=ao;exact h2 c6 s1 σ1 H1 _ _ Q I1 rr q1
def Aex(K:Yb)(n:Nat)(t:vU):TG:=λv σ H Q=>∃a xs,v= .ref a/\dD K H a xs/\xs.length=n/\t xs σ H Q
def Aey{es:pw}{k:Nat}{t:vU}{n:Nat}(hc:X.calm=true)(h:ud X es t)(hn:(vA es X.env).length=n:=by rfl)(sf:(vA es X.env).findIdx? (·.1)=Yj:=by rfl):PG X (.Tuple es k pos) (Aex X.K n t):=by intro c6 s σ H v u Q I r hw;let⟨a,xs,e1,hq,hl,hw⟩:=hw;subst e1;cases r;let⟨c_,rv,ht,hz⟩:=I.tuple hq;refine assign_Tuple_tuple (I.ok.hd hc) ht (by simp[hn,<-hl,rv.length]) sf λh' hx=>?_;have I1:c9 X c6 σ H {s with heap:=h'}:=I.kept (t':=s.toks) λb o e=>hx b o (eE<|Yw e) e;exact h c6 _ σ H xs _ Q I1 (by simpa using rv) hw
def Aez(te:TE)(g:TG):TS:=λD σ H=>te σ H λx H1=>g x σ H1 D.nx
def RS{i:Nat}{x:ak}{te:TE}{ow:aZ}(hN:X.N.Nodup)(hi:X.N[i]?=O x)(hx:Loc X.env.scope x)(he:PE X e te)(hs:pC e (O<|.Name x ow) pos.line X.env=pure false:=by rfl)(hf:X.fn x=true\/X.env.scope.names.lookup x=O .local:=by first|exact .inl rfl|exact .inr rfl|assumption):
  PS X (.Assign [.Name x ow] e pos) (Aez te<|RI i):=by
 intro c6 s σ H D I h;refine wpAny_Assign_Name (aV (he c6 s σ H _ I h) λv s1 ao=>?_) hs;let⟨y,H1,I1,r1,q1⟩:=ao;exact Q2 I1 hN hi hx r1 (λs2 I2=>⟨_,H1,I2,q1⟩) hf
end
section
variable {X:Cx} {pos:aZ}
def Zzt(c:TT)(tb:TS):TS:=λD σ H=>∃W:Nat->St->Hp->Prop,(∃m,W m σ H)/\∀m σ H,W m σ H ->
 c σ H λb H1=>if b=true then∃N:St->Hp->Prop,(∀σ' H',N σ' H'->∃m',m'<m/\W m' σ' H')/\tb {D with nx:=N,ct:=N,bk:=D.nx} σ H1 else D.nx σ H1
def RU{c:Expr}{body:rq}{tc:TT}{tb:TS}(hp:Oq (aq X.prog X.w) X.A X.env X.xe)(hc:PT X c tc)(hb:kj X body tb):PS X (.While c body [] pos) (Zzt tc tb):=by
 intro c6 s σ H D I h;let⟨W,⟨m0,w0⟩,turn⟩:=h;refine wpAny_While<|codeAny_whileLoop (λn s'=>∃σ' H',c9 X c6 σ' H' s'/\W n σ' H') ?_ m0 ⟨σ,H,I,w0⟩;rintro n s1 ⟨σ1,H1,I1,w1⟩;refine zU hp<|aV (hc c6 s1 σ1 H1 _ I1<|turn n σ1 H1 w1) λb s2 ao=>?_;let⟨H2,I2,q2⟩:=ao;cases b with
 | true=>
  let⟨N,hN,q2⟩:=q2;rw[f_ aaD];refine zU hp<|aV (hb c6 s2 σ1 H2 _ I2 q2) λf s3 q3=>?_;cases f with
  |next=>let⟨σ3,H3,I3,n3⟩:=q3;let⟨m',hm,w3⟩:=hN σ3 H3 n3;exact⟨m',hm,σ3,H3,I3,w3⟩|cont=>let⟨σ3,H3,I3,n3⟩:=q3;let⟨m',hm,w3⟩:=hN σ3 H3 n3;exact⟨m',hm,σ3,H3,I3,w3⟩|brk=>exact q3|ret v=>exact q3
 |false=>rw[i6 lZ];exact Io ⟨σ1,H2,I2,q2⟩
end
structure It where
 go:Nat->Hp->Prop
 Qf:Nat->Hp->V->Hp->Prop
 stop:Nat->Hp->Prop
def iK(X:Cx)(c6:oy)(H:Hp)(b:Ys):Prop:=H b=Yj/\b≠X.env.locals/\b∉X.fs/\(b∈X.ex\/X.s₀.heap.objs.size<=b)/\(∀x c,X.env.cells.lookup x=O c->c≠b)/\∀p∈X.pn++c6,p.1≠b
def c9.xx{X:Cx}{c6:oy}{σ:St}{H H':Hp}{s:Yi}{b:Ys}(I:c9 X c6 σ H s)(hb:d4 s<=b)(hn:H' b=Yj):iK X c6 H' b:=by
 refine⟨hn,rK<|Yy I.lt hb,I.Aeb hb,.inr<|Yx I.sz hb,λx c e z=>?_,λp hp z=>?_⟩
 .let⟨v,q⟩:=I.cell x c e;exact oz (Yy q.lt<|by rwa[z])<|pG _
 .exact oz (Yy (Yw (I.pin p hp).1)<|by rwa[z])<|pG _
structure Turn(P:Y8)(w:aX)(K:Yb)(tg:Expr)(J:It)(fp:l6)(it:Ys)(tn:Nat->aF->Prop):Prop where
 mem:it∈fp
 obj:∀i h,tn i h->∀b∈fp,∃o,h.get? b=O o/\∀v,o.data≠ .cell v
 keep:∀i h h',tn i h->(∀b∈fp,∀o,h.get? b=O o->h'.get? b=O o)->tn i h'
 item:∀(X:Cx),X.prog=P->X.w=w->X.K=K->X.calm=true->∀(i:Nat) (c6:oy) (s:Yi) (σ:St) (H:Hp) (E:Yf->Yi->Prop),c9 X c6 σ H s->(∀b∈fp,iK X c6 H b)->tn i s.heap->J.go i H ->
  Y5 (aq P w) X.A (ji<|.ref it) (λr s1=>∃u,r=O u/\
   Y5 (aq P w) X.A (zV tg (.ref it) u) (λ_ s2=>∃x H',c9 X c6 σ H' s2/\i5 x u/\J.Qf i H x H'/\tn (i+1) s2.heap/\∀b∈fp,H' b=Yj) E s1) E s
 done:∀(X:Cx),X.prog=P->X.w=w->X.K=K->X.calm=true->∀(i:Nat) (c6:oy) (s:Yi) (σ:St) (H:Hp) (E:Yf->Yi->Prop),c9 X c6 σ H s->(∀b∈fp,iK X c6 H b)->tn i s.heap->J.stop i H ->
  Y5 (aq P w) X.A (ji<|.ref it) (λr s1=>r=Yj/\c9 X c6 σ H s1) E s
 self:∀(A:cC) (i:Nat) (s:Yi) (Q:Yf->Yi->Prop) (E:Yf->Yi->Prop),tn i s.heap->Q (.ref it) s->Y5 (aq P w) A (DY<|.ref it) Q E s
abbrev TI:=St->Hp->(It->Hp->Prop)->Prop
def EM(X:Cx)(c6:oy)(σ:St)(tg:Expr)(R:It->Hp->Prop)(BI:Yf)(s2:Yi):Prop:=∃(it:Ys) (fp:l6) (tn:Nat->aF->Prop) (J:It) (H':Hp),BI= .ref it/\c9 X c6 σ H' s2/\Turn X.prog X.w X.K tg J fp it tn/\tn 0 s2.heap/\(∀b∈fp,iK X c6 H' b)/\R J H'
def PI(X:Cx)(tg iter:Expr)(wi:TI):Prop:=
 ∀(c6:oy) (s:Yi) (σ:St) (H:Hp) (R:It->Hp->Prop),c9 X c6 σ H s->wi σ H R ->
  Y5 (aq X.prog X.w) X.A (aU iter X.env) (λv s1=>Y5 (aq X.prog X.w) X.A (DY v) (EM X c6 σ tg R) X.xe s1) X.xe s
variable{tg:Expr}
def Qg{M:Model}{A:cC}{E:Yf->Yi->Prop}{s:Yi}{it:Ys}{u:Yf}{o:aJ}{n:String}{vs:qB}{Q:Unit->Yi->Prop}(ho:s.heap.get? it=O o)(hc:o.cls= .type n)(hd:o.data= .fields vs)(hn:DH.contains n=false)(hQ:Q () s):Y5 M A (zV tg (.ref it) u) Q E s:=by
 unfold zV;cases tg<;>first
  |exact Yo hQ
  | (cases u<;>first
    |exact Yo hQ
    | (refine Yc (VN ho ?_)
       rw[hc,hd];show Y5 M A (if(DH.contains n&&vs[0]?==O (jo _))=true then _ else _) Q E s;rw[i6 (by intro h;rw[hn,Bool.false_and]at h;cases h)];exact Yo hQ))
def RY(K:Yb)(a:Ys):It:=⟨λi H=>∃xs x,dm K H a xs/\xs[i]?=O x,λi H x H'=>H'=H/\∀xs,dm K H a xs->xs[i]?=O x,λi H=>∃xs,dm K H a xs/\xs.length<=i⟩
def R1(K:Yb)(a:Ys):It:=⟨λi H=>∃xs x,dD K H a xs/\xs[i]?=O x,λi H x H'=>H'=H/\∀xs,dD K H a xs->xs[i]?=O x,λi H=>∃xs,dD K H a xs/\xs.length<=i⟩
def Qh(lo:Int)(n:Nat):It:=⟨λi _=>i<n,λi H x H'=>H'=H/\x= .int (lo+i),λi _=>n<=i⟩
def Ztm{P:Y8}{w:aX}(a it:Ys):Turn P w K tg (RY K a) [it] it (λi h=>h.IsListIter it a i)where
 mem:=by simp
 obj:=λi h st b hb=>by
  have e:b=it:=by simpa using hb
  subst e;let⟨o,e,c,d⟩:=st;exact⟨o,e,λv z=>by rw[d]at z;cases z⟩
 keep:=λi h h' st k=>st.at λo e=>k it j0 o e
 item:=by intro X hP hw hK hc i c6 s σ H E I hf st hg;subst hP hw hK;let⟨xs,x,hq,hx⟩:=hg;let⟨c_,rv,p,hz⟩:=I.list hq;let⟨u,hu,ru⟩:=rv.get hx;let⟨f0,f1,f2,f3,f4,f5⟩:=hf it j0;refine wpAny_pyNext_list_item st p.isList (x:=u) (by simpa using hu) λh' vv sb=>?_;have I1:c9 X c6 σ H {s with heap:=h'}:=I.turned (t':=s.toks) (λb o hb e=>(sb.2 b hb).trans e) f0 f1 f3 f4 f5;let⟨o,e,c,d⟩:=id vv;exact⟨u,rfl,Qg (s:={s with heap:=h'}) e c d aaE ⟨x,H,I1,ru,⟨rfl,λys hy=>by rwa[I.RA hy hq]⟩,vv,λb hb=>(hf b hb).1⟩⟩
 done:=by intro X hP hw hK hc i c6 s σ H E I hf st hg;subst hP hw hK;let⟨xs,hq,hx⟩:=hg;let⟨c_,rv,p,hz⟩:=I.list hq;let⟨f0,f1,f2,f3,f4,f5⟩:=hf it j0;have hl:=rv.length;exact wpAny_pyNext_list_end (I.ok.hd hc) st p.isList oP λh' eb=>⟨rfl,I.turned (t':=s.toks) (λb o hb e=>eb b o hb e) f0 f1 f3 f4 f5⟩
 self:=λ_ _ _ _ _ st h=>wpAny_pyIter_listiter st h
def Zrc{P:Y8}{w:aX}(a it:Ys):Turn P w K tg (R1 K a) [it] it (λi h=>h.IsTupleIter it a i)where
 mem:=by simp
 obj:=λi h st b hb=>by
  have e:b=it:=by simpa using hb
  subst e;let⟨o,e,c,d⟩:=st;exact⟨o,e,λv z=>by rw[d]at z;cases z⟩
 keep:=λi h h' st k=>st.at λo e=>k it j0 o e
 item:=by intro X hP hw hK hc i c6 s σ H E I hf st hg;subst hP hw hK;let⟨xs,x,hq,hx⟩:=hg;let⟨c_,rv,p,hz⟩:=I.tuple hq;let⟨u,hu,ru⟩:=rv.get hx;let⟨f0,f1,f2,f3,f4,f5⟩:=hf it j0;refine wpAny_pyNext_tuple_item st (show s.heap.IsTuple a c_.toArray from p) (x:=u) (by simpa using hu) λh' vv sb=>?_;have I1:c9 X c6 σ H {s with heap:=h'}:=I.turned (t':=s.toks) (λb o hb e=>(sb.2 b hb).trans e) f0 f1 f3 f4 f5;let⟨o,e,c,d⟩:=id vv;exact⟨u,rfl,Qg (s:={s with heap:=h'}) e c d aaE ⟨x,H,I1,ru,⟨rfl,λys hy=>by rwa[I.Uw hy hq]⟩,vv,λb hb=>(hf b hb).1⟩⟩
 done:=by intro X hP hw hK hc i c6 s σ H E I hf st hg;subst hP hw hK;let⟨xs,hq,hx⟩:=hg;let⟨c_,rv,p,hz⟩:=I.tuple hq;let⟨f0,f1,f2,f3,f4,f5⟩:=hf it j0;have hl:=rv.length;exact wpAny_pyNext_tuple_end (I.ok.hd hc) st (show s.heap.IsTuple a c_.toArray from p) oP λh' eb=>⟨rfl,I.turned (t':=s.toks) (λb o hb e=>eb b o hb e) f0 f1 f3 f4 f5⟩
 self:=λ_ _ _ _ _ st h=>wpAny_pyIter_tupleiter st h
def ZqL{P:Y8}{w:aX}(it:Ys)(lo:Int)(n:Nat):Turn P w K tg (Qh lo n) [it] it (λi h=>IsRangeIter h it (lo+(i:Nat)*1) ((n:Int)-(i:Nat)) 1)where
 mem:=by simp
 obj:=λi h st b hb=>by
  have e:b=it:=by simpa using hb
  subst e;exact⟨_,st,λv z=>by have z':Data.fields _=Data.cell v:=z;cases z'⟩
 keep:=λi h h' st k=>k it j0 _ st
 item:=by intro X hP hw hK hc i c6 s σ H E I hf st hg;subst hP hw hK;let⟨f0,f1,f2,f3,f4,f5⟩:=hf it j0;have W:=Walks.range (prog:=X.prog) (w:=X.w) (I.ok.hd hc) it lo 1 n;refine W.item i s _ _ hg st λv h' tk hv vv kk=>?_;let⟨t,rfl⟩:=hv;have I1:c9 X c6 σ H {s with heap:=h',toks:=tk}:=I.turned (λb o hb e=>kk b o (by simpa using hb) e) f0 f1 f3 f4 f5;refine⟨_,rfl,Qg (s:={s with heap:=h',toks:=tk}) (n:="range_iterator") vv aaD aaD aaE ⟨.int<|lo+i,H,I1,⟨t,?_⟩,⟨rfl,rfl⟩,vv,λb hb=>(hf b hb).1⟩⟩;rw[Int.mul_one]
 done:=by intro X hP hw hK hc i c6 s σ H E I hf st hg;subst hP hw hK;let⟨f0,f1,f2,f3,f4,f5⟩:=hf it j0;exact wpAny_pyNext_range_end (I.ok.hd hc) st (by have:n<=i:=hg;omega) λh' eb=>⟨rfl,I.turned (t':=s.toks) (λb o hb e=>eb b o hb e) f0 f1 f3 f4 f5⟩
 self:=λ_ _ _ _ _ st h=>wpAny_pyIter_rangeiter st h
end L2
namespace L2
open PySem PySem.Spec PyProof.Rows
variable{c6:oy}{fp:l6}
section
variable {X:Cx} {tg:Expr}
def AeA(K:Yb)(tl:TE):TI:=λσ H R=>tl σ H λx H1=>∃a,x= .ref a/\(∃xs,dm K H1 a xs)/\R (RY K a) H1
def AeB(K:Yb)(tl:TE):TI:=λσ H R=>tl σ H λx H1=>∃a,x= .ref a/\(∃xs,dD K H1 a xs)/\R (R1 K a) H1
def Zxs{l:Expr}{tl:TE}(hl:PE X l tl):PI X tg l (AeA X.K tl):=by
 intro c6 s σ H R I h;refine aV (hl c6 s σ H _ I h) λv s1 ao=>?_;let⟨x,H1,I1,r1,q1⟩:=ao;let⟨a,e,⟨xs,hq⟩,q⟩:=q1;subst e;cases r1;let⟨c_,rv,p,hz⟩:=I1.list hq;refine Me p.isList ?_;refine⟨d4 s1,[d4 s1],_,_,H1,rfl,I1.kept (t':=s1.toks) λb o e=>Yl _ e,Ztm a _,⟨_,Y6 _ aaD,rfl,rfl⟩,λb hb=>?_,q⟩;have e:b=d4 s1:=by simpa using hb
 subst e;exact I1.xx (Yn _)<|I1.kb.fresh<|Yn _
def ZzG{l:Expr}{tl:TE}(hl:PE X l tl):PI X tg l (AeB X.K tl):=by
 intro c6 s σ H R I h;refine aV (hl c6 s σ H _ I h) λv s1 ao=>?_;let⟨x,H1,I1,r1,q1⟩:=ao;let⟨a,e,⟨xs,hq⟩,q⟩:=q1;subst e;cases r1;let⟨c_,rv,p,hz⟩:=I1.tuple hq;refine Dz (show s1.heap.IsTuple a c_.toArray from p) ?_;refine⟨d4 s1,[d4 s1],_,_,H1,rfl,I1.kept (t':=s1.toks) λb o e=>Yl _ e,Zrc a _,⟨_,Y6 _ aaD,rfl,rfl⟩,λb hb=>?_,q⟩;have e:b=d4 s1:=by simpa using hb
 subst e;exact I1.xx (Yn _)<|I1.kb.fresh<|Yn _
def Zua{σ:St}{H:Hp}{s:Yi}{R:It->Hp->Prop}{E:Yf->Yi->Prop}{lo hi:Int}{t u v:jB}{tk:Nat}(I:c9 X c6 σ H s)(h1:-(2^62)<=lo)(h2:lo<2^62)(h3:-(2^62)<=hi)(h4:hi<2^62)(q:R (Qh lo (hi-lo).toNat) H):Y5 (aq X.prog X.w) X.A (DY<|.ref<|d4 s) (EM X c6 σ tg R) E {s with heap:=s.heap.push {cls:=.type "range",data:=.fields #[.int lo t,.int hi u,.int 1 v]},toks:=tk}:=by
 refine wpAny_pyIter_range (IsRange.new ..) (small_one h1 h2 h3 h4) ?_;have I1:c9 X c6 σ H {s with heap:=s.heap.push {cls:=.type "range",data:=.fields #[.int lo t,.int hi u,.int 1 v]},toks:=tk}:=I.kept λb o e=>Yl _ e;refine⟨(s.heap.push {cls:=.type "range",data:=.fields #[.int lo t,.int hi u,.int 1 v]}).objs.size,[(s.heap.push {cls:=.type "range",data:=.fields #[.int lo t,.int hi u,.int 1 v]}).objs.size],_,_,H,rfl,
  I1.kept (t':=tk) λb o e=>Yl _ e,ZqL _ lo (hi-lo).toNat,?_,λb hb=>?_,q⟩
 .have e1:lo+((0:Nat):Int)*1=lo:=by simp
  have e2:(((hi-lo).toNat:Nat):Int)-((0:Nat):Int)=Builtin.Range.rangeSize lo hi 1:=by rw[rangeSize_one];split <;>omega
  show IsRangeIter _ _ (lo+((0:Nat):Int)*1) ((((hi-lo).toNat:Nat):Int)-((0:Nat):Int)) 1;rw[e1,e2];exact Y6 _ aaD
 .have e:b=(s.heap.push {cls:=.type "range",data:=.fields #[.int lo t,.int hi u,.int 1 v]}).objs.size:=by simpa using hb
  subst e;exact I1.xx (Yn _)<|I1.kb.fresh<|Yn _
def AeC(ta:TA):TI:=λσ H R=>ta σ H λvs H1=>∃j:Int,vs=[.int j]/\ -(2^62)<=j/\j<2^62/\R (Qh 0 j.toNat) H1
def ZtU{a:Expr}{ta:TA}{p pos:aZ}(hg:Gl X "range")(hm:X.mg "range" =Yj)(ha:PA X [a] ta)(hs:Y1 [a] X.env=[(false,aU a X.env)]:=by rfl):PI X tg (.Call (.Name "range" p) [a] [] pos) (AeC ta):=by
 intro c6 s σ H R I h;refine Call_<|Am I hg hm boot_range<|Jd (aV (ha pos c6 s σ H _ I h) λus s1 ao=>?_) hs aaD;let⟨vs,H1,I1,r1,q1⟩:=ao;let⟨j,e,q1,q2,q⟩:=q1;subst e;cases r1 with
 |cons r rr=>
  cases rr
  let⟨t,rfl⟩:=r;exact call_range_1 (Zua I1 c8 c8 q1 q2<|by simpa using q)
def AeD(wi:TI)(g:TG)(tb:TS):TS:=λD σ H=>wi σ H λJ H1=>∃W:Nat->Nat->St->Hp->Prop,(∃m,W 0 m σ H1)/\∀i m σ H,W i m σ H ->
 (J.stop i H/\D.nx σ H)\/(J.go i H/\∃N:St->Hp->Prop,(∀σ' H',N σ' H'->∃m',m'<m/\W (i+1) m' σ' H')/\∀x H',J.Qf i H x H'->g x σ H' λσ2 H2=>tb {D with nx:=N,ct:=N,bk:=D.nx} σ2 H2)
def rO(fp:l6)(h:aF):oy:=fp.filterMap λb=>(h.get? b).map λo=>(b,o)
def Et{h:aF}{b:Ys}{o:aJ}(hb:b∈fp)(e:h.get? b=O o):(b,o)∈rO fp h:=Ac.mpr ⟨b,hb,by rw[e];rfl⟩
def Ztf{h:aF}{p:Ys×aJ}(hp:p∈rO fp h):p.1∈fp/\h.get? p.1=O p.2:=by
 let⟨b,hb,e⟩:=Ac.mp hp;cases q:h.get? b with
 |none=>rw[q]at e;cases e|some o=>rw[q]at e;have e':(b,o)=p:=Y9 e;subst e';exact⟨hb,q⟩
def c9.pinned{σ:St}{H:Hp}{s:Yi}(I:c9 X c6 σ H s)(hf:∀b∈fp,iK X c6 H b)(ho:∀b∈fp,∃o,s.heap.get? b=O o/\∀v,o.data≠ .cell v):c9 X (c6++rO fp s.heap) σ H s:=I.QO λp hp=>(Yr.mp hp).elim (λz=>I.pin p<|lV _ z) λz=>by let⟨hb,e⟩:=Ztf z;let⟨f0,f1,f2,_⟩:=hf p.1 hb;let⟨o,e',d⟩:=ho p.1 hb;rw[e]at e';cases e';exact⟨e,f0,f1,f2,d⟩
def c9.Dn{pl:oy}{σ:St}{H:Hp}{s:Yi}(I:c9 X (c6++pl) σ H s):c9 X c6 σ H s:=I.QO λp hp=>I.pin p<|lV _<|vJ _ hp
def W6{iter:Expr}{body:rq}{wi:TI}{g:TG}{tb:TS}{pos:aZ}(hp:Oq (aq X.prog X.w) X.A X.env X.xe)(hc:X.calm=true)(hi:PI X tg iter wi)(hg:PG X tg g)(hb:kj X body tb)(hs:∀x,zT iter X.env x=pure x:=by intro _;rfl):PS X (.For tg iter body [] pos) (AeD wi g tb):=by
 intro c6 s σ H D I h;refine wpAny_For (aV (hi c6 s σ H _ I h) λv s1 h1=>aV h1 λBI s2 h2=>?_) hs;let⟨it,fp,tn,J,H2,e,I2,T,AH,f2,W,⟨m0,w0⟩,turn⟩:=h2;subst e;have AI:∀{H':Hp},(∀b∈fp,H' b=Yj)->∀b∈fp,iK X c6 H' b:=λhn b hb=>⟨hn b hb,(f2 b hb).2⟩;refine codeAny_forLoop_any (λn s'=>∃i σ' H',c9 X c6 σ' H' s'/\tn i s'.heap/\(∀b∈fp,H' b=Yj)/\W i n σ' H') ?_ m0 ⟨0,σ,H2,I2,AH,λb hb=>(f2 b hb).1,w0⟩;rintro n s3 ⟨i,σ3,H3,I3,st3,Sb,w3⟩;rcases turn i n σ3 H3 w3 with⟨stop,Zt5⟩|⟨go,N,hN,step⟩
 .refine zU hp<|aV (T.done X aaD aaD aaD hc i c6 s3 σ3 H3 X.xe I3 (AI Sb) st3 stop) λr s4 ⟨hr,I4⟩=>?_;subst hr;exact Io ⟨σ3,H3,I4,Zt5⟩
 .refine zU hp<|aV (T.item X aaD aaD aaD hc i c6 s3 σ3 H3 X.xe I3 (AI Sb) st3 go) λr s4 ⟨u,hr,h4⟩=>?_;subst hr;refine zU hp<|aV h4 λ_ s5 ao=>?_;let⟨x,H5,I5,Zvd,ZrC,jC,lD⟩:=ao;have W8:=I5.pinned (AI lD)<|T.obj _ _ jC;refine zU hp<|aV (hg _ s5 σ3 H5 x u _ W8 Zvd<|step x H5 ZrC) λ_ s6 ao=>?_;let⟨hen,ke2,I6,ZuE⟩:=ao;refine zU hp<|aV (hb _ s6 hen ke2 _ I6 ZuE) λf s7 q7=>?_;have again:∀{σ7:St} {H7:Hp},c9 X (c6++rO fp s5.heap) σ7 H7 s7->N σ7 H7->∃m,m<n/\∃i σ' H',c9 X c6 σ' H' s7/\tn i s7.heap/\(∀b∈fp,H' b=Yj)/\W i m σ' H':=λ{σ7 H7} I7 n7=>by
   let⟨m',hm,Aa3⟩:=hN σ7 H7 n7;refine⟨m',hm,i+1,σ7,H7,I7.Dn,T.keep _ _ _ jC λb hb o e=>(I7.pin (b,o)<|lV _<|lV _<|Et hb e).1,λb hb=>?_,Aa3⟩;let⟨o,e,d⟩:=T.obj _ _ jC b hb;exact(I7.pin (b,o)<|lV _<|lV _<|Et hb e).2.1
  cases f with
  |next=>let⟨σ7,H7,I7,n7⟩:=q7;exact again I7 n7|cont=>let⟨σ7,H7,I7,n7⟩:=q7;exact again I7 n7|brk=>let⟨σ7,H7,I7,q7⟩:=q7;exact⟨σ7,H7,I7.Dn,q7⟩|ret v=>let⟨x7,σ7,H7,I7,r7,q7⟩:=q7;exact⟨x7,σ7,H7,I7.Dn,r7,q7⟩
end
end L2
namespace L2
open PySem PySem.Spec PyProof.Rows
abbrev R2:=V->V->Hp->VK->Prop
def aY(X:Cx)(f:Yf->Yf->mW Yf)(r:R2):Prop:=
 ∀(c6:oy) (s:Yi) (σ:St) (H:Hp) (x y:V) (v u:Yf) (Q:VK),c9 X c6 σ H s->i5 x v->i5 y u->r x y H Q ->
  Y5 (aq X.prog X.w) X.A (f v u) (EP X c6 σ Q) X.xe s
def vV(X:Cx)(f:Yf->mW Yf)(r:V->Hp->VK->Prop):Prop:=
 ∀(c6:oy) (s:Yi) (σ:St) (H:Hp) (x:V) (v:Yf) (Q:VK),c9 X c6 σ H s->i5 x v->r x H Q ->
  Y5 (aq X.prog X.w) X.A (f v) (EP X c6 σ Q) X.xe s
def bY(X:Cx)(f:Yf)(r:k6->Hp->VK->Prop):Prop:=
 ∀(c6:oy) (s:Yi) (σ:St) (H:Hp) (xs:k6) (us:l5) (Q:VK),c9 X c6 σ H s->i3 xs us->r xs H Q ->
  Y5 (aq X.prog X.w) X.A (call f us) (EP X c6 σ Q) X.xe s
def Jk(r:R2)(ta tb:TE):TE:=λσ H Q=>ta σ H λx H1=>tb σ H1 λy H2=>r x y H2 Q
def Se(r:V->Hp->VK->Prop)(ta:TE):TE:=λσ H Q=>ta σ H λx H1=>r x H1 Q
def rI(C:Int->Int->Prop)(g:Int->Int->V):R2:=λx y H Q=>∃i j,x= .int i/\y= .int j/\C i j/\Q (g i j) H
def yh(g:Int->Int->V):R2:=λx y H Q=>∃i j,x= .int i/\y= .int j/\Q (g i j) H
def rU(g:Int->V):V->Hp->VK->Prop:=λx H Q=>∃i,x= .int i/\Q (g i) H
variable{f:Yf->Yf->mW Yf}{c6:oy}
section
variable {X:Cx} {a b c:Expr} {ta tb tc:TE} {pos:aZ}
def U9(ha:PE X a ta)(hb:PE X b tb){s:Yi}{σ:St}{H:Hp}{R:V->V->Hp->Prop}(I:c9 X c6 σ H s)(h:ta σ H λx H1=>tb σ H1 λy H2=>R x y H2){Q:Yf->Yi->Prop}(hf:∀v u s2 x y H2,c9 X c6 σ H2 s2->i5 x v->i5 y u->R x y H2->Y5 (aq X.prog X.w) X.A (f v u) Q X.xe s2):
  Y5 (aq X.prog X.w) X.A (aU a X.env) (λv s₁=>Y5 (aq X.prog X.w) X.A (aU b X.env) (λu s₂=>Y5 (aq X.prog X.w) X.A (f v u) Q X.xe s₂) X.xe s₁) X.xe s:=by
 refine aV (ha c6 s σ H _ I h) λv s1 ao=>?_;let⟨x,H1,I1,r1,q1⟩:=ao;refine aV (hb c6 s1 σ H1 _ I1 q1) λu s2 ao=>?_;let⟨y,H2,I2,r2,q2⟩:=ao;exact hf v u s2 x y H2 I2 r1 r2 q2
def AeE{op:Operator}{r:R2}(ho:aY X (jh op) r)(ha:PE X a ta)(hb:PE X b tb):PE X (.BinOp a op b pos) (Jk r ta tb):=by intro c6 s σ H Q I h;exact wpAny_BinOp<|U9 ha hb I h λv u s2 x y H2 I2 rx ry q=>ho c6 s2 σ H2 x y v u Q I2 rx ry q
def AeF{op:UnaryOp}{r:V->Hp->VK->Prop}(ho:vV X (Ow op) r)(ha:PE X a ta):PE X (.UnaryOp op a pos) (Se r ta):=by intro c6 s σ H Q I h;exact UnaryOp_<|aV (ha c6 s σ H _ I h) λv s1 ⟨x,H1,I1,r1,q1⟩=>ho c6 s1 σ H1 x v Q I1 r1 q1
def Qi{C:Int->Int->Prop}{g:Int->Int->Int}(rule:∀(i j:Int) (t u:jB) (s:Yi) (Q:Yf->Yi->Prop) (E:Yf->Yi->Prop),C i j->Q (.int (g i j) s.toks) {s with toks:=s.toks+1}->Y5 (aq X.prog X.w) X.A (f (.int i t)<|.int j u) Q E s):
  aY X f (rI C λi j=>.int<|g i j):=by
 intro c6 s σ H x y v u Q I rx ry h;let⟨i,j,rfl,rfl,hc,q⟩:=h;let⟨t,rfl⟩:=rx;let⟨t',rfl⟩:=ry;exact rule i j t t' s _ _ hc ⟨.int<|g i j,H,I.tok _,⟨_,rfl⟩,q⟩
def Sf{g:Int->Int->Int}(rule:∀(i j:Int) (t u:jB) (s:Yi) (Q:Yf->Yi->Prop) (E:Yf->Yi->Prop),Q (.int (g i j) s.toks) {s with toks:=s.toks+1}->Y5 (aq X.prog X.w) X.A (f (.int i t)<|.int j u) Q E s):
  aY X f (yh λi j=>.int<|g i j):=by
 intro c6 s σ H x y v u Q I rx ry h;let⟨i,j,rfl,rfl,q⟩:=h;let⟨t,rfl⟩:=rx;let⟨t',rfl⟩:=ry;exact rule i j t t' s _ _ ⟨.int<|g i j,H,I.tok _,⟨_,rfl⟩,q⟩
def Qj{g:Int->Int->Bool}(rule:∀(i j:Int) (t u:jB) (s:Yi) (Q:Yf->Yi->Prop) (E:Yf->Yi->Prop),Q (.bool<|g i j) s->Y5 (aq X.prog X.w) X.A (f (.int i t)<|.int j u) Q E s):
  aY X f (yh λi j=>.bl<|g i j):=by
 intro c6 s σ H x y v u Q I rx ry h;let⟨i,j,rfl,rfl,q⟩:=h;let⟨t,rfl⟩:=rx;let⟨t',rfl⟩:=ry;exact rule i j t t' s _ _ ⟨.bl<|g i j,H,I,rfl,q⟩
def AeG(i j:Int):Prop:=0<j/\j<1073741824
def AeH(i j:Int):Prop:=0<=j/\j<=1000000/\i.natAbs<2^64
def U_(i j:Int):Prop:=(-(2^64)<i/\i<2^64)\/(-(2^64)<j/\j<2^64)
def U_.ok{i j:Int}(h:U_ i j):IntMulOk i j:=by
 rcases h with⟨h1,h2⟩|⟨h1,h2⟩
 .exact .of_left<|intBits_le_64 h1 h2
 .exact .of_right<|intBits_le_64 h1 h2
def ZzT:aY X (jh .Add) (yh λi j=>.int<|i+j):=Sf λ_ _ _ _ _ _ _ q=>add_int q
def Zy1:aY X (jh .Sub) (yh λi j=>.int<|i-j):=Sf λ_ _ _ _ _ _ _ q=>sub_int q
def ZyX:aY X (jh .Mult) (rI U_ λi j=>.int<|i*j):=Qi λ_ _ _ _ _ _ _ hc q=>mul_int q hc.ok
def Zx3:aY X (jh .FloorDiv) (rI AeG λi j=>.int<|i / j):=Qi λi j _ _ _ _ _ hc q=>by have h1:(0:Int)<j:=hc.1;have h2:j<1073741824:=hc.2;exact floordiv_int c8 (by rwa[Int.fdiv_eq_ediv_of_nonneg i<|by exact Wo h1])<|.inl<|PyProof.noPylong_small c8
def Zzc:aY X (jh .Mod) (rI (λ_ j=>0<j) λi j=>.int<|i % j):=Qi λi j _ _ _ _ _ hc q=>by have h1:(0:Int)<j:=hc;exact mod_int' c8 (by rwa[Int.fmod_eq_emod_of_nonneg i<|by exact Wo h1])
def AeI:aY X (jh .Pow) (rI AeH λi j=>.int<|i^j.toNat):=Qi λ_ _ _ _ _ _ _ hc q=>pow_int_small hc.1 hc.2.1 hc.2.2 q
def unI{f:Yf->mW Yf}{g:Int->Int}(rule:∀(i:Int) (t:jB) (s:Yi) (Q:Yf->Yi->Prop) (E:Yf->Yi->Prop),Q (.int (g i) s.toks) {s with toks:=s.toks+1}->Y5 (aq X.prog X.w) X.A (f<|.int i t) Q E s):
  vV X f (rU λi=>.int<|g i):=by
 intro c6 s σ H x v Q I rx h;let⟨i,rfl,q⟩:=h;let⟨t,rfl⟩:=rx;exact rule i t s _ _ ⟨.int<|g i,H,I.tok _,⟨_,rfl⟩,q⟩
def Zzy:vV X (Ow .USub) (rU λi=>.int<|-i):=unI λ_ _ _ _ _ q=>neg_int q
end
def W9{i j:ak}:decide (V.str i=V.str j)=(i==j):=by rw[NX];simp
section
variable {X:Cx} {a b c:Expr} {ta tb tc:TE} {pos:aZ}
def W_{σ:St}{H:Hp}{s:Yi}{Q:VK}{k k':Bool}(I:c9 X c6 σ H s)(q:Q (.bl k) H)(e:k=k'):EP X c6 σ Q (.bool k') s:=by subst e;exact⟨.bl k,H,I,rfl,q⟩
def AeJ:aY X (iB .Lt) (yh λi j=>.bl<|decide<|i<j):=Qj λ_ _ _ _ _ _ _ q=>lt_int q
def AeK:aY X (iB .LtE) (yh λi j=>.bl<|decide<|i<=j):=Qj λ_ _ _ _ _ _ _ q=>le_int q
def AeL:aY X (iB .Gt) (yh λi j=>.bl<|decide<|j<i):=Qj λ_ _ _ _ _ _ _ q=>gt_int q
def AeM:aY X (iB .GtE) (yh λi j=>.bl<|decide<|j<=i):=Qj λ_ _ _ _ _ _ _ q=>ge_int q
def ZsZ:aY X (iB .In) (λx y H Q=>∃i j,x= .str i/\y= .str j/\Q (.bl<|!(OZ j i 0 j.length 1).isEmpty) H):=by intro c6 s σ H x y v u Q I rx ry h;let⟨i,j,rfl,rfl,q⟩:=h;let⟨t,rfl⟩:=rx;let⟨t',rfl⟩:=ry;exact in_str<|W_ I q aaD
def ZyT:aY X (iB .Is) (λx y H Q=>y= .Z/\Q (.bl<|decide<|x= .Z) H):=by
 intro c6 s σ H x y v u Q I rx ry h;let⟨rfl,q⟩:=h;cases ry;refine is_none_gen<|W_ I q ?_;cases x<;>first
  |(cases rx;rfl)
  |(let⟨t,rfl⟩:=rx;rfl)
def Zoi:aY X (iB .NotIn) (λx y H Q=>∃i j,x= .str i/\y= .str j/\Q (.bl<|!(!(OZ j i 0 j.length 1).isEmpty)) H):=by intro c6 s σ H x y v u Q I rx ry h;let⟨i,j,rfl,rfl,q⟩:=h;let⟨t,rfl⟩:=rx;let⟨t',rfl⟩:=ry;exact notIn_str<|W_ I q aaD
def isObj:HO->Bool
 | .L _=>true|.ins _ _ _=>true|_=>false
def Xa{s:Yi}{σ:St}{H:Hp}{a:Ys}{o:HO}(I:c9 X c6 σ H s)(h:H a=O o)(p:isObj o=true):∃ob,s.heap.get? a=O ob/\ob.cls≠ .type "tuple":=by
 cases o with
 |L xs=>obtain⟨_,c_,n,_,e⟩:b9 xs<=bI/\∃(c_:l5) (n:Nat),i3 xs c_/\s.heap.get? a=O {cls:=.type "list",data:=.seq c_.toArray n}:=I.kb a _ h;exact⟨_,e,(by show Value.type "list" ≠ .type "tuple";decide +kernel)⟩|ins C dx fs=>have x:=I.kb a _ h;let⟨_,_,_,e,_⟩:=x;exact⟨_,e,(by show Value.ref C≠ .type "tuple";exactλz=>by cases z)⟩|_=>exact oz (show false=true from p) lZ
def aY.or{r r':R2}(h:aY X f r)(h':aY X f r'):aY X f (λx y H Q=>r x y H Q\/r' x y H Q):=by
 intro c6 s σ H x y v u Q I rx ry q;rcases q with q|q
 .exact h c6 s σ H x y v u Q I rx ry q
 .exact h' c6 s σ H x y v u Q I rx ry q
def ZxP{op:CmpOp}{r:R2}(ho:aY X (iB op) r)(ha:PE X a ta)(hb:PE X b tb)(hm:Oh op b=false):PE X (.Compare a [op] [b] pos) (Jk r ta tb):=by intro c6 s σ H Q I h;exact wpAny_Compare1 (U9 ha hb I h λv u s2 x y H2 I2 rx ry q=>ho c6 s2 σ H2 x y v u Q I2 rx ry q) hm
def AeN(t:TE):TT:=λσ H Q=>t σ H λx H'=>∃k,x= .bl k/\Q k H'
def Zxd{op:CmpOp}{r:R2}(ho:aY X (iB op) r)(ha:PE X a ta)(hb:PE X b tb)(hm:Oh op b=false):PT X (.Compare a [op] [b] pos) (AeN<|Jk r ta tb):=by intro c6 s σ H Q I h;refine wpAny_isTrue_Compare1 (aV (ha c6 s σ H _ I h) λv s1 ⟨x,H1,I1,r1,q1⟩=>aV (hb c6 s1 σ H1 _ I1 q1) λu s2 ⟨y,H2,I2,r2,q2⟩=>aV (ho c6 s2 σ H2 x y v u _ I2 r1 r2 q2) λc s3 ⟨z,H3,I3,r3,k,e,q3⟩=>?_) hm;subst e;cases r3;exact Im ⟨H3,I3,q3⟩
def Qk:(bI:Nat)<2^63:=by rw[qw];decide
def Zqx:aY X (jh .Add) (λx y H Q=>∃i j,x= .str i/\y= .str j/\i.length+j.length<=bI/\Q (.str<|i++j) H):=by intro c6 s σ H x y v u Q I rx ry h;let⟨i,j,rfl,rfl,hz,q⟩:=h;let⟨t,rfl⟩:=rx;let⟨t',rfl⟩:=ry;exact add_str (λt' tk=>⟨.str<|i++j,H,I.tok _,⟨_,rfl⟩,q⟩) hz
def vals1{x:V}{us:l5}(r:i3 [x] us):∃u,us=[u]/\i5 x u:=by
 cases r with
 |cons r1 r2=>cases r2;exact⟨_,rfl,r1⟩
def vals2{x y:V}{us:l5}(r:i3 [x,y] us):∃u w',us=[u,w']/\i5 x u/\i5 y w':=by
 cases r with
 |cons r1 r2=>
  cases r2 with
  |cons r3 r4=>cases r4;exact⟨_,_,rfl,r1,r3⟩
def Ztn(hc:X.calm=true):bY X (.builtin "max") (λxs H Q=>∃i j,xs=[.int i,.int j]/\Q (.int<|if j>i then j else i) H):=by
 intro c6 s σ H xs us Q I r h;let⟨i,j,rfl,q⟩:=h;let⟨u,w',rfl,⟨t,rfl⟩,⟨t',rfl⟩⟩:=vals2 r;refine max_two_ints (I.ok.hd hc) λh' tk k=>⟨_,H,I.kept k,?_,q⟩;by_cases hj:j>i
 .rw[f_ hj,f_ hj];exact⟨_,rfl⟩
 .rw[i6 hj,i6 hj];exact⟨_,rfl⟩
def Zts:bY X (.type "int") (λxs H Q=>(∃i,xs=[.int i]/\Q (.int i) H)\/∃k,xs=[.bl k]/\Q (.int<|if k then 1 else 0) H):=by
 intro c6 s σ H xs us Q I r h;rcases h with⟨i,rfl,q⟩|⟨k,rfl,q⟩
 .let⟨u,rfl,t,rfl⟩:=vals1 r;exact call_int_int ⟨.int i,H,I,⟨_,rfl⟩,q⟩
 .let⟨u,rfl,r1⟩:=vals1 r;cases r1;exact call_int_bool ⟨.int<|if k then 1 else 0,H,I.tok _,⟨_,rfl⟩,q⟩
def AeO(K:Yb)(x:V)(H:Hp)(n:Nat):Prop:=
 match x with
 | .str y=>y.length<=bI/\n=y.length|.Eo y=>y.size<=bI/\n=y.size|.ref p=>(∃xs,dm K H p xs/\n=b9 xs)\/∃xs,dD K H p xs/\n=b9 xs|_=>False
def ZvI:bY X (.builtin "len") (λxs H Q=>∃x n,xs=[x]/\AeO X.K x H n/\Q (.int n) H):=by
 intro c6 s σ H xs us Q I r h;let⟨x,n,rfl,e,q⟩:=h;let⟨u,rfl,rx⟩:=vals1 r;have hl:=Qk;have hs:bI=16777216:=qw;cases x with
 |str y=>let⟨t,rfl⟩:=rx;obtain⟨hy,e'⟩:y.length<=bI/\n=y.length:=e;subst e';exact len_str c8 ⟨.int _,H,I.tok _,⟨_,rfl⟩,q⟩|Eo y=>let⟨t,rfl⟩:=rx;obtain⟨hy,e'⟩:y.size<=bI/\n=y.size:=e;subst e';exact PySem.W.len_bytes c8 ⟨.int _,H,I.tok _,⟨_,rfl⟩,q⟩|ref p=>
  cases rx
  have e':(∃xs,dm X.K H p xs/\n=b9 xs)\/∃xs,dD X.K H p xs/\n=b9 xs:=e;rcases e' with⟨xs,hx,e'⟩|⟨xs,hx,e'⟩
  .subst e';let⟨c_,r',pl,hz⟩:=I.list hx;have i7:=r'.length;exact Calls.call_len_list pl.isList (by simp only[Yq];omega) ⟨.int<|b9 xs,H,I.tok _,⟨_,by simp only[Yq];rw[i7]⟩,q⟩
  .subst e';let⟨c_,r',pl,hz⟩:=I.tuple hx;have i7:=r'.length;exact len_tuple pl (by simp only[Yq];omega) ⟨.int<|b9 xs,H,I.tok _,⟨_,by simp only[Yq];rw[i7]⟩,q⟩
 |_=>exact(show False from e).elim
end
end L2
namespace L2
open PySem PySem.Spec PyProof.Rows
structure Ao(h:aF)(x dx C:Ys)(mA:ak->oo):Prop where
 obj:h.get? x=O (xK C dx)
 ns:h.Ns1 dx mA
 ne:dx≠x
def ZtB{h:aF}{dx:Ys}{mA:ak->oo}(n:h.Ns1 dx mA):∃od,h.get? dx=O od/\∀name,N_ name od=O (mA name):=by
 let⟨o,es,ep,ho,hd,hk,_,hm⟩:=n;refine⟨o,ho,λname=>?_⟩;have e:=hm name;unfold Iw findBy at e;rw[<-Array.find?_toList]at e;unfold N_;rw[hd];dsimp only;split
 .rename_i y q;rw[q]at e;exact congrArg O e
 .rename_i q;rw[q]at e;have a:es.toList.any (·.refKey)=false:=by
   rw[V6];intro y hy;let⟨z,t,vw⟩:=hk y<|OB.mp hy;simp[DictEntry.refKey,vw]
  have a':¬es.toList.any (·.refKey)=true:=by rw[a];exact lZ
  rw[i6 a'];exact congrArg O e
def Ao.look{h:aF}{x dx C:Ys}{mA:ak->oo}(I:Ao h x dx C mA):∃od,PySem.W.InstAt h x (xK C dx) C (O od)/\∀name,N_ name od=O (mA name):=
 let⟨od,ho,hl⟩:=ZtB I.ns
 ⟨od,⟨I.obj,rfl,rfl,ho⟩,hl⟩
variable{Q:Yf->Yi->Prop}
section
variable {prog:Y8} {w:aX} {A:cC} {E:Yf->Yi->Prop} {s:Yi} {K:Yb} {x dx C f:Ys} {mA:ak->oo} {name:ak} {v:Yf}
def ZwV{expr:Bool}(X:K.In s.heap)(I:Ao s.heap x dx C mA)(hg:Ih K C name=true)(hh:N7 K C=true)(ha:gP K (.ref C) name=O Yj)(hv:mA name=O v)(DI:LY v=true)(h:Q v {s with toks:=s.toks+1}):
  Y5 (aq prog w) A (getAttr (.ref x) name expr) Q E s:=by
 let⟨od,J,hl⟩:=I.look;exact PySem.W.get_value X J (Vh hg).1 (PySem.W.findObj_own hh ha aaD<|by rw[hl,hv]) DI h
def ZuO{pl:mW Bool}{Q:Yf×l5->Yi->Prop}(X:K.In s.heap)(I:Ao s.heap x dx C mA)(hg:Ih K C name=true)(hf:gP K (.ref C) name=O (O<|.ref f))(ht:Dy K (.ref f)=true)(hv:mA name=Yj)(h:Q (.ref f,[.ref x]) s):
  Y5 (aq prog w) A (V0 (.ref x) name pl) Q E s:=by
 let⟨od,J,hl⟩:=I.look;exact PySem.W.method_fn X J (Vh hg).1 (Vh hg).2 hf (beq_iff_eq.mp ht) (by show(N_ name od).map (·.isSome)=O false;rw[hl,hv];rfl) h
def ZxB{ns:oB}{Q:Unit->Yi->Prop}(X:K.In s.heap)(I:Ao s.heap x dx C mA)(hs:gP K (.ref C) "__setattr__" =O (O<|.builtin "object.__setattr__"))(hp:Vj K C=true)(ht:Vl K C name=O Yj)(hh:N7 K C=true)(hw:VB mA ns)(hsz:b9 ns<=bI)(h:∀h',Ao h' x dx C (λy=>if y=name then O v else mA y)->Ah dx s.heap h'->Q () {s with heap:=h',toks:=s.toks+2}):
  Y5 (aq prog w) A (setAttr (.ref x) name v) Q E s:=by
 let⟨od,J,hl⟩:=I.look;refine PySem.W.set_plain X J hs<|PySem.W.osa_open (s:={s with toks:=s.toks+1}) (r:=Yj) X J hp ht λb=>?_;let⟨cd,hc,sR⟩:=PySem.W.any_some hh;have hx:s.heap.get? x=O ⟨.ref C,O dx,.plain,#[]⟩:=I.obj;refine Yc<|Yo<|Yc<|Yc<|wpAny_loadPart hx<|Yc<|PySem.W.Looks.here (s:={s with toks:=s.toks+1}) (PySem.W.looks_clsIn X hc) ?_;rw[sR];refine Yo (a:=O dx)<|Yc<|Yo<|Yc ?_;refine wpAny_nsSet1 (s:={s with toks:=s.toks+1}) I.ns λh' BM px=>?_;let⟨ZrJ,esD,epD,hoD,hdD,hcD⟩:=BM.count<|PySem.Within.cons name v hw;refine Yc (wpAny_lookBehind hoD (by rw[hdD];exact pastItsLine_dict<|Yx hcD (by rw[Yh];omega)) ?_);exact Yo<|h _ ⟨(px.2 _<|cF I.ne).trans I.obj,BM,I.ne⟩ px
def Zv4{R:vC->Yi->Prop}{vs:l5}{kw:yz}(X:K.In s.heap)(hm:N8 K C=true)(hi:gP K (.ref C) "__init__" =O (O<|.ref f))(hf:Oa K (.ref f)=O (.type "function"))(h:mV (aq prog w) (A.under<|.builtin "type.__call__" ⟨.ref C::vs,kw⟩) (.call (.ref f) ⟨.ref (d4 s+1)::vs,kw⟩) (PySem.W.InitBack (d4 s+1) R)
   {s with heap:=(s.heap.push vd).push<|xK C<|d4 s}):
  mV (aq prog w) A (.call (.ref C) ⟨vs,kw⟩) R s:=by
 let⟨hh,g,d,t,os⟩:=s;exact PySem.W.make_core (PySem.W.makes_of X hm) (PySem.W.looks_findIn X hi) (λself=>PySem.W.bind_fn X self hf) (.inl aaD) h
end
def jM(f:ak)(v:V):uB->uB
 |[]=>[(f,v)]|(g,x)::r=>if g=f then(g,v)::r else(g,x)::jM f v r
theorem Si(f g:ak)(v:V):∀fs:uB,(jM f v fs).lookup g=if g=f then O v else fs.lookup g
 | []=>by
  show tX g [(f,v)]=_;by_cases h:g=f
  .have hb:(g==f)=true:=beq_iff_eq.mpr h;simp only[tX,hb,f_ h]
  .have hb:(g==f)=false:=beq_eq_false_iff_ne.mpr h;simp only[tX,hb,i6 h]
 | (k,x)::r=>by
  have ih:=Si f g v r;rw[show jM f v ((k,x)::r)=(if k=f then(k,v)::r else(k,x)::jM f v r)from rfl];by_cases hk:k=f
  .rw[f_ hk];by_cases h:g=k
   .have hb:(g==k)=true:=beq_iff_eq.mpr h;simp only[tX,hb,f_<|h.trans hk]
   .have hb:(g==k)=false:=beq_eq_false_iff_ne.mpr h;simp only[tX,hb,i6 λe:g=f=>h<|e.trans hk.symm]
  .rw[i6 hk];by_cases h:g=k
   .have hb:(g==k)=true:=beq_iff_eq.mpr h;simp only[tX,hb,i6 λe:g=f=>hk<|h.symm.trans e]
   .have hb:(g==k)=false:=beq_eq_false_iff_ne.mpr h;simp only[tX,hb];exact ih
theorem Xb(f:ak)(v:V):∀fs:uB,f∈(jM f v fs).map (·.1)/\∀g,g∈fs.map (·.1)->g∈(jM f v fs).map (·.1)
 |[]=>⟨by simp[jM],λg h=>by simp at h⟩|(k,x)::r=>by
  let⟨i1,i2⟩:=Xb f v r;rw[show jM f v ((k,x)::r)=(if k=f then(k,v)::r else(k,x)::jM f v r)from rfl];by_cases hk:k=f
  .rw[f_ hk];subst hk;exact⟨j0,λg h=>by simpa using h⟩
  .rw[i6 hk];refine⟨?_,λg h=>?_⟩
   .rw[Y2];exact Yk _ i1
   .rw[Y2]at h |-;rcases Yt.mp h with e|e
    .exact Yt.mpr<|.inl e
    .exact Yk _<|i2 g e
theorem Sj(f:ak)(v:V):∀fs:uB,(jM f v fs).length<=b9 fs+1
 |[]=>by simp[jM]|(k,x)::r=>by
  have ih:=Sj f v r;rw[show jM f v ((k,x)::r)=(if k=f then(k,v)::r else(k,x)::jM f v r)from rfl];by_cases hk:k=f
  .rw[f_ hk,Yh,Yh];exact xW _ _
  .rw[i6 hk,Yh,Yh];omega
def kh.some_of{v:V}{o:oo}(r:kh (O v) o):∃u,o=O u/\i5 v u:=by
 cases o with
 |none=>exact(show False from r).elim|some u=>exact⟨u,rfl,r⟩
def kh.none_of{o:oo}(r:kh Yj o):o=Yj:=by
 cases o with
 |none=>rfl|some u=>exact(show False from r).elim
def ZtS{v:V}{u:Yf}(r:i5 v u):LY u=true:=by
 cases v with
 |Z=>cases(show u=Value.none from r);rfl|bl b=>cases(show u=Value.bool b from r);rfl|int i=>let⟨t,e⟩:=(show∃t,u=Value.int i t from r);cases e;rfl|str x=>let⟨t,e⟩:=(show∃t,u=Value.str x t from r);cases e;rfl
 |Eo b=>let⟨t,e⟩:=(show∃t,u=Value.bytes b t from r);cases e;rfl|AF b=>let⟨t,e⟩:=(show∃t,u=Value.float b t from r);cases e;rfl|ref a=>cases(show u=Value.ref a from r);rfl|ty n=>cases(show u=Value.type n from r);rfl
section
variable {P:Y8} {w:aX} {H H':Hp} {h h':aF} {a C dx:Ys} {fs fs':uB}
def Ql(kb:eY P w H h)(e:H a=O (.ins C dx fs)):∃mA,Ao h a dx C mA/\(∀f,kh (fs.lookup f)<|mA f)/\VB mA (fs.map (·.1))/\fs.length<=1000/\H dx=O (.own a):=by let⟨d,z,ne,ob,mA,n,r,q⟩:=(show gC P w H h a (.ins C dx fs)from kb a _ e);exact⟨mA,⟨ob,n,ne⟩,r,q,z,d⟩
end
structure vW(K:Yb)(C:Ys):Prop where
 ZoY:Ih K C Wt=true
 hd:N7 K C=true
 po:Vj K C=true
 Aa4:gP K (.ref C) "__setattr__" =O (O<|.builtin "object.__setattr__")
def vW.get{K:Yb}{C:Ys}(c:vW K C)(f:ak):Ih K C f=true:=c.ZoY
def pJ(K:Yb)(C:Ys)(f:ak):Prop:=gP K (.ref C) f=O Yj
def pJ.BN{K:Yb}{C:Ys}{f:ak}(n:pJ K C f):Vl K C f=O Yj:=by unfold Vl;rw[show gP K (.ref C) f=O Yj from n];rfl
structure Meth(K:Yb)(C:Ys)(m:ak)(f:Ys):Prop where
 oE:gP K (.ref C) m=O (O<|.ref f)
 fn:Dy K (.ref f)=true
 kp:rC K (.ref f)=true
section
variable {X:Cx} {c6:oy} {σ:St} {H:Hp} {s:Yi} {a C dx:Ys} {fs:uB} {f:ak} {v:V} {A:cC} {E:Yf->Yi->Prop}
def Zrb{b:Bool}(I:c9 X c6 σ H s)(e:H a=O (.ins C dx fs))(c:vW X.K C)(n:pJ X.K C f)(l:fs.lookup f=O v)(h:∀u s',c9 X c6 σ H s'->i5 v u->Q u s'):Y5 (aq X.prog X.w) A (getAttr (.ref a) f b) Q E s:=by let⟨mA,pj,r,_,_,_⟩:=Ql I.kb e;let⟨u,hu,ru⟩:=kh.some_of (v:=v) (o:=mA f) (by rw[<-l];exact r f);exact ZwV I.eZ pj (c.get f) c.hd n hu (ZtS ru)<|h u _ (I.tok _) ru
def Zqo{m:ak}{g:Ys}{pl:mW Bool}{Q:Yf×l5->Yi->Prop}(I:c9 X c6 σ H s)(e:H a=O (.ins C dx fs))(c:vW X.K C)(k:Meth X.K C m g)(l:fs.lookup m=Yj)(h:Q (.ref g,[.ref a]) s):Y5 (aq X.prog X.w) A (V0 (.ref a) m pl) Q E s:=by let⟨mA,pj,r,_,_,_⟩:=Ql I.kb e;have hn:mA m=Yj:=kh.none_of (by rw[<-l];exact r m);exact ZuO I.eZ pj (c.get m) k.oE k.fn hn h
def Zq5{y:V}{u:Yf}{Q:Unit->Yi->Prop}(I:c9 X c6 σ H s)(e:H a=O (.ins C dx fs))(c:vW X.K C)(n:pJ X.K C f)(hl:b9 fs<1000)(ry:i5 y u)(h:∀s',c9 X c6 σ (k4 H a<|.ins C dx<|jM f y fs) s'->Q () s'):Y5 (aq X.prog X.w) A (setAttr (.ref a) f u) Q E s:=by
 let⟨mA,pj,r,wi,_,ho⟩:=Ql I.kb e;have hz:(fs.map (·.1)).length<=bI:=by rw[Y3,qw];omega
 refine ZxB I.eZ pj c.Aa4 c.po n.BN c.hd wi hz λh' O' sb=>h _ ?_;have hd:∃o,h'.get? dx=O o:=let⟨o,_,_,e',_⟩:=O'.ns;⟨o,e'⟩;refine I.write (x:=a) (e:=dx) (by rw[e];exact True.intro) (.inr ho) (λb q hb z=>(sb.2 b hb).trans z) hd ?_;refine⟨by rwa[eF pj.ne],?_,pj.ne,O'.obj,_,O'.ns,λg=>?_,λg hg=>?_⟩
 .have:=Sj f y fs;omega
 .show kh ((jM f y fs).lookup g) (if g=f then O u else mA g);rw[Si];by_cases q:g=f
  .rwa[f_ q,f_ q]
  .rw[i6 q,i6 q];exact r g
 .by_cases q:g=f
  .rw[q];exact(Xb f y fs).1
  .refine(Xb f y fs).2 g (wi g λz=>hg ?_);show(if g=f then O u else mA g)=Yj;rwa[i6 q]
def c9.made(I:c9 X c6 σ H s):c9 X c6 σ (k4 (k4 H (d4 s)<|.own<|d4 s+1) (d4 s+1)<|.ins C (d4 s) [])
  {s with heap:=(s.heap.push vd).push<|xK C<|d4 s}:=by
 have e1:(s.heap.push vd).get? (d4 s)=O vd:=Y6 s.heap aaD;have e2:((s.heap.push vd).push<|xK C<|d4 s).get? (d4 s+1)=O (xK C<|d4 s):=by
  have:=Y6 (s.heap.push vd) (o:=xK C<|d4 s) aaD
  rwa[xV]at this
 have e3:(s.heap.push vd).Ns (d4 s) (λ_=>Yj):=⟨vd,#[],_,e1,rfl,(λe he=>oz he j0),λ_=>rfl⟩;have I1:=I.laid (a:=d4 s) (o:=.own<|d4 s+1) (h':=s.heap.push vd) (t':=s.toks) (λb u q=>Yl _ q) (Yn _) ⟨_,e1⟩;refine I1.laid (a:=d4 s+1) (o:=.ins C (d4 s) []) (t':=s.toks) (λb u q=>Yl _ q) (xX<|xV _ _) ?_;have ne:d4 s≠d4 s+1:=eE<|Ef _;refine⟨by rw[eF ne,pH],dY _,ne,e2,λ_=>Yj,(Heap.Ns1.of_empty e3).at λo q=>Yl _ q,λ_=>True.intro,λy hy=>oz aaD hy⟩
def ZxY{prog:Y8}{w:aX}{env:dJ}{e:Expr}{f:ak}{pos:aZ}{s:Yi}(hb:rE e f env (aU e env)=aU e env)(h:Y5 (aq prog w) A (aU e env) (λo s₁=>Y5 (aq prog w) A (getAttr o f true) Q E s₁) E s):Y5 (aq prog w) A (aU (.Attribute e f pos) env) Q E s:=Attribute_any_ h (by rw[arm_eval_Attribute,hb])
end
def AeP(K:Yb)(ta:TE)(f:ak):TE:=λσ H Q=>ta σ H λx H1=>∃a C dx fs v,x= .ref a/\H1 a=O (.ins C dx fs)/\vW K C/\pJ K C f/\fs.lookup f=O v/\Q v H1
def AeQ(K:Yb)(ta tv:TE)(f:ak):TS:=λD σ H=>tv σ H λy H1=>ta σ H1 λx H2=>∃a C dx fs,x= .ref a/\H2 a=O (.ins C dx fs)/\vW K C/\pJ K C f/\fs.length<1000/\
 D.nx σ (k4 H2 a<|.ins C dx<|jM f y fs)
section
variable {X:Cx} {o e value:Expr} {f:ak} {pos ow w_:aZ} {ta tv:TE}
def Zz6(he:PE X e ta)(hb:rE e f X.env (aU e X.env)=aU e X.env):PE X (.Attribute e f pos) (AeP X.K ta f):=by intro c6 s σ H Q I h;refine ZxY hb<|aV (he c6 s σ H _ I h) λu s1 ao=>?_;let⟨x,H1,I1,rx,a,C,dx,fs,v,ex,ea,c,n,l,q⟩:=ao;subst ex;obtain rfl:u=Value.ref a:=rx;exact Zrb I1 ea c n l λu' s2 I2 ru=>⟨v,H1,I2,ru,q⟩
def Zy8(ha:PE X o ta)(hv:PE X value tv)(hs:pC value (O<|.Attribute o f ow) pos.line X.env=pure false):PS X (.Assign [.Attribute o f ow] value pos) (AeQ X.K ta tv f):=by intro c6 s σ H D I h;refine plainObj_wpAny_Assign_Attribute (aV (hv c6 s σ H _ I h) λu s1 ⟨y,H1,I1,ry,q⟩=>aV (ha c6 s1 σ H1 _ I1 q) λov s2 ao=>?_) hs;let⟨x,H2,I2,rx,a,C,dx,fs,ex,ea,c,n,l,q2⟩:=ao;subst ex;obtain rfl:ov=Value.ref a:=rx;exact Zq5 I2 ea c n l ry λs3 I3=>⟨σ,_,I3,q2⟩
end
section
variable {X:Cx} {c6:oy} {σ:St} {H:Hp} {s:Yi} {A:cC} {E:Yf->Yi->Prop} {Q:Yf->Yi->Prop} {c:Yf} {b:Bool}
inductive qF(K:Yb)(H:Hp):V->Yf->Prop where
 |Z:qF K H .Z (.type "NoneType")
 |bl (x:Bool):qF K H (.bl x) (.type "bool")
 |int (i:Int):qF K H (.int i) (.type "int")
 |str (x:ak):qF K H (.str x) (.type "str")
 |AF (x:UInt64):qF K H (.AF x) (.type "float")
 |L {a:Ys} {xs:k6} (e:H a=O (.L xs)):qF K H (.ref a) (.type "list")
 |fO {a:Ys} {o:aJ} {xs:k6} (e:H a=O (.fO o (.L xs))):qF K H (.ref a) (.type "list")
 |U {a:Ys} {xs:k6} (e:H a=O (.U xs)):qF K H (.ref a) (.type "tuple")
 |dK {a:Ys} {kvs:sv} (e:H a=O (.dK kvs)):qF K H (.ref a) (.type "dict")
 |dT {a:Ys} {kvs:List (tf×V)} (e:H a=O (.dT kvs)):qF K H (.ref a) (.type "dict")
 | ins {a C dx:Ys} {fs:uB} (e:H a=O (.ins C dx fs)) (cl:vW K C) (ha:gP K (.ref C) "__class__" =O (O (.builtin "object.__class__")))
   (hn:Vk K (.builtin "object.__class__") "__get__" =O (O<|.builtin "getset_descriptor.__get__")) (tN:Vm K (.builtin "object.__class__")=O true)
   (hm:zQ K C (.type "object")=O true):qF K H (.ref a) (.ref C)
def Eu{x:V}{u t:Yf}(I:c9 X c6 σ H s)(rx:i5 x u)(ty:qF X.K H x t)(e:LZ X.K t c=O b)(h:∀tk,Q (.bool b) {s with toks:=tk}):
  Y5 (aq X.prog X.w) A (call (.builtin "isinstance") [u,c]) Q E s:=by
 cases ty with
 |Z=>cases(show u=Value.none from rx);exact qp PySem.W.kitx_none I.eZ True.intro e nofun h|bl y=>cases(show u=Value.bool y from rx);exact qp PySem.W.kitx_bool I.eZ True.intro e nofun h|int i=>let⟨t,q⟩:=(show∃t,u=Value.int i t from rx);cases q;exact qp PySem.W.kitx_int I.eZ True.intro e nofun h|str y=>let⟨t,q⟩:=(show∃t,u=Value.str y t from rx);cases q;exact qp PySem.W.kitx_str I.eZ True.intro e nofun h
 |AF y=>let⟨t,q⟩:=(show∃t,u=Value.float y t from rx);cases q;exact qp PySem.W.kitx_float I.eZ True.intro e nofun h|@L a xs ea=>
  cases(show u=Value.ref a from rx)
  let⟨_,_,n,_,h1⟩:=(show gC X.prog X.w H s.heap a (.L xs)from I.kb a _ ea);exact qp LW I.eZ ⟨_,h1,rfl⟩ e nofun h
 | @fO a ob xs ea=>
  cases(show u=Value.ref a from rx)
  let⟨_,_,_,n,_,h1⟩:=(show gC X.prog X.w H s.heap a (.fO ob<|.L xs)from I.kb a _ ea);exact qp LW I.eZ ⟨_,h1,rfl⟩ e nofun h
 | @U a xs ea=>
  cases(show u=Value.ref a from rx)
  let⟨_,_,_,p⟩:=(show gC X.prog X.w H s.heap a (.U xs)from I.kb a _ ea);let⟨o,h1,h2,_⟩:=p;exact qp LV I.eZ ⟨o,h1,h2.1⟩ e nofun h
 | @dK a kvs ea=>
  cases(show u=Value.ref a from rx)
  let⟨_,_,vs,_,p⟩:=(show gC X.prog X.w H s.heap a (.dK kvs)from I.kb a _ ea);let⟨o,es,ep,h1,h2,_⟩:=p;exact qp LX I.eZ ⟨o,h1,h2.1⟩ e nofun h
 | @dT a kvs ea=>
  cases(show u=Value.ref a from rx)
  let⟨_,_,xs,_,o,es,ep,h1,h2,_⟩:=(show gC X.prog X.w H s.heap a (.dT kvs)from I.kb a _ ea);exact qp LX I.eZ ⟨o,h1,h2.1⟩ e nofun h
 | @ins a C dx fs ea cl ha hn tN hm=>
  cases(show u=Value.ref a from rx)
  let⟨mA,pj,_⟩:=Ql I.kb ea;let⟨od,J,_⟩:=pj.look;exact qp (PySem.W.kitx_own (cl.get _) cl.hd ha hn tN hm) I.eZ J e nofun h
end
end L2
namespace L2
open PySem PySem.Spec PyProof.Rows
structure dN(k:Nat)(A:cC):Prop where
 hd:A.handled=Yj
 dp:A.depth+3*k+5<recursionLimit
 un:A.units+16*k+200<fH
 gd:A.guards=O []
variable{A:cC}
def dN.mono{j k:Nat}(r:dN k A)(h:j<=k):dN j A:=⟨r.hd,by have:=r.dp;omega,by have:=r.un;omega,r.gd⟩
def dN.deeper{k:Nat}(r:dN (k+1) A)(env:dJ):dN k (A.deeper env):=⟨r.hd,by have:=r.dp;show A.depth+1+3*k+5<_;omega,by have:=r.un;show A.units+3+16*k+200<_;omega,r.gd⟩
def dN.in1{k:Nat}(r:dN (k+1) A):dN k A.in1:=⟨r.hd,by have:=r.dp;show A.depth+3*k+5<_;omega,by have:=r.un;show A.units+1+16*k+200<_;omega,r.gd⟩
variable{us:l5}
def Zrm{C:Ys}{kw:yz}:(A.under<|.builtin "type.__call__" ⟨.ref C::us,kw⟩).depth=A.depth+1:=by first|rfl|simp[PQ,Code.weight,Code.isCreation,Code.isGuard,Code.isCaller,Code.frames,WW,guardIds]
def Zri{C:Ys}{kw:yz}:(A.under<|.builtin "type.__call__" ⟨.ref C::us,kw⟩).units=A.units+1:=by first|rfl|simp[PQ,Code.cUnits,Code.frames,WW]
def dN.make{k:Nat}(r:dN (k+1) A)(C:Ys)(us:l5)(kw:yz):dN k (A.under<|.builtin "type.__call__" ⟨.ref C::us,kw⟩):=⟨r.hd,by have:=r.dp;rw[Zrm];omega,by have:=r.un;rw[Zri];omega,by have:=r.gd;first|exact this|simpa[PQ,Code.isGuard,guardIds]using this⟩
def dN.depth{k:Nat}(r:dN k A):A.depth<recursionLimit:=by have:=r.dp;omega
def dN.units{k:Nat}(r:dN k A):A.units+64<fH:=by have:=r.un;omega
def AeR:TA:=λ_ H Q=>Q [] H
def AeS(ta:TE)(Zr3:TA):TA:=λσ H Q=>ta σ H λx H1=>Zr3 σ H1 λxs H2=>Q (x::xs) H2
section
variable {X:Cx} {e:Expr} {es:pw} {te:TE} {t:TA} {pos:aZ}
def Xc:PA X [] AeR:=λ_ _ _ _ H Q I h=>PB ⟨[],H,I,.nil,h⟩
def Qm(ha:PE X e te)(hr:PA X es t)(hs:Y1 (e::es) X.env=(false,aU e X.env)::Y1 es X.env:=by rfl):PA X (e::es) (AeS te t):=by intro pos c6 s σ H Q I h;rw[hs];show Y5 _ _ (spliced<|(false,aU e X.env)::fZ pos (Y1 es X.env)) _ _ s;refine Em<|aV (ha c6 s σ H _ I h) λu s1 ao=>?_;let⟨x,H1,I1,r1,q1⟩:=ao;exact aV (hr pos c6 s1 σ H1 _ I1 q1) λus s2 ⟨xs,H2,I2,r2,q2⟩=>⟨x::xs,H2,I2,.cons r1 r2,q2⟩
def AeT(t:TA):TE:=λσ H Q=>t σ H λxs H1=>b9 xs<=bI/\∀p,H1 p=Yj->Q (.ref p) (k4 H1 p<|.U xs)
def AeU(t:TA):TE:=λσ H Q=>t σ H λxs H1=>b9 xs<=bI/\∀p,H1 p=Yj->Q (.ref p) (k4 H1 p<|.L xs)
def Zzf{x1}(h:PA X es t):PE X (.Tuple es x1 pos) (AeT t):=by intro c6 s σ H Q I hq;refine wpAny_Tuple_spliced (aV (h pos c6 s σ H _ I hq) λus s1 ⟨xs,H1,I1,r,z,q⟩=>⟨by rwa[<-r.length],?_⟩);have hf:H1 (d4 s1)=Yj:=I1.kb.fresh<|Yn _;refine⟨.ref<|d4 s1,k4 H1 (d4 s1)<|.U xs,I1.laid (t':=s1.toks) (λb u e=>Yl _ e) (Yn _) ?_,rfl,q _ hf⟩;exact⟨z,us,r,⟨_,Y6 _ aaD,⟨rfl,rfl⟩,_,rfl⟩⟩
def AeV(h:PA X es t):PE X (.List es pos) (AeU t):=by intro c6 s σ H Q I hq;refine wpAny_List_spliced (aV (h pos c6 s σ H _ I hq) λus s1 ⟨xs,H1,I1,r,z,q⟩=>⟨by rwa[<-r.length],?_⟩);have hf:H1 (d4 s1)=Yj:=I1.kb.fresh<|Yn _;refine⟨.ref<|d4 s1,k4 H1 (d4 s1)<|.L xs,I1.laid (t':=s1.toks) (λb u e=>Yl _ e) (Yn _) ?_,rfl,q _ hf⟩;exact⟨z,us,0,r,Y6 _ aaD⟩
end
abbrev Sp:=k6->Hp->VK->XK->Prop
abbrev qG:=rL->Hp->Yi->XK->Yf->Yi->Prop
structure uf(P:Y8)(w:aX)(K:Yb)(mg:ak->oo)(base:aF)(A:cC)(outer:rL)(s:Yi)(H:Hp):Prop where
 frames:A.frames=O outer
 mod:Mod K mg base
 bs:∀b o,base.get? b=O o->s.heap.get? b=O o/\H b=Yj
 pI:base.objs.size<=d4 s
 lU:s.heap.FunFrames base outer
 rN:∀b∈ti outer,H b=Yj
 kb:eY P w H s.heap
 bare:t8 s.gens
def CE(outer:rL)(P:Y8)(w:aX)(H:Hp)(s:Yi)(Q:VK)(u:Yf)(s':Yi):Prop:=∃v H',s'.os=s.os/\t8 s'.gens/\Un (ti outer) [] H H' s.heap s'.heap/\eY P w H' s'.heap/\i5 v u/\Q v H'
def Zyt(CX:qG)(outer:rL)(P:Y8)(w:aX)(H:Hp)(s:Yi)(Q:VK)(E:XK)(r:vC)(s':Yi):Prop:=
 match r with
 | .ok (.ret u)=>CE outer P w H s Q u s'|.ok _=>False|.error e=>CX outer H s E e s'
structure iM(P:Y8)(w:aX)(K:Yb)(mg:ak->oo)(base:aF)(CX:qG)(k:Nat)(f:Ys)(fd:mU)(ps:oB)(sp:Sp):Prop where
 len:∀vs H Q E,sp vs H Q E->b9 vs=ps.length
 run:∀(A:cC) (outer:rL) (s:Yi) (H:Hp) (args:Args) (us:l5) (vs:k6) (Q:VK) (E:XK),dN k A->uf P w K mg base A outer s H->DR s fd args (ps.zip us)->i3 vs us->sp vs H Q E ->
  mV (aq P w) A (.call (.ref f) args) (Zyt CX outer P w H s Q E) s
variable{P:Y8}{w:aX}{K:Yb}{mg:ak->oo}{ps:oB}{base:aF}
theorem iM.mono{CX:qG}{j k:Nat}{f:Ys}{fd:mU}{sp:Sp}(F:iM P w K mg base CX j f fd ps sp)(h:j<=k):
  iM P w K mg base CX k f fd ps sp:=⟨F.len,λA outer s H args us vs Q E hr=>F.run A outer s H args us vs Q E<|hr.mono h⟩
variable{s:Yi}{H:Hp}{outer:rL}
def uf.make(e:uf P w K mg base A outer s H)(C:Ys)(us:l5)(kw:yz):
  uf P w K mg base (A.under<|.builtin "type.__call__" ⟨.ref C::us,kw⟩) outer s H:=⟨by first|exact e.frames|(simpa[PQ,Code.envs,WW,pushEnvs]using e.frames),e.mod,e.bs,e.pI,e.lU,e.rN,e.kb,e.bare⟩
def uf.in1(e:uf P w K mg base A outer s H):
  uf P w K mg base A.in1 outer s H:=⟨e.frames,e.mod,e.bs,e.pI,e.lU,e.rN,e.kb,e.bare⟩
section
variable {X:Cx} {c6:oy} {σ:St} {H:Hp} {s s':Yi}
def c9.env0(I:c9 X c6 σ H s):uf X.prog X.w X.K X.mg X.base X.A X.stack s H:=⟨I.ok.frames,I.ok.mod,I.bs,Yx I.ok.pI I.sz,I.stack,I.UJ,I.kb,I.bare⟩
def c9.after{Q:VK}{u:Yf}(I:c9 X c6 σ H s)(h:CE X.stack X.prog X.w H s Q u s'):EP X c6 σ Q u s':=by let⟨v,H',os,bare,un,kb,r,q⟩:=h;let⟨hh,g,d,t,os'⟩:=s';obtain rfl:os'=s.os:=os;exact⟨v,H',I.call (h':=hh) (g':=g) (d':=d) (t':=t) (ch:=[]) un kb bare λb z=>oz z j0,r,q⟩
end
def AeW(sp:Sp)(mZ:k6)(E:XK)(t:TA):TE:=λσ H Q=>t σ H λvs H1=>sp (vs++mZ) H1 Q E
def AeX(C:Ys)(sp:Sp)(mZ:k6)(E:XK)(t:TA):TE:=λσ H Q=>t σ H λvs H1=>∀x dx,H1 x=Yj->H1 dx=Yj->dx≠x ->
 sp (.ref x::(vs++mZ)) (k4 (k4 H1 dx<|.own x) x<|.ins C dx []) (λv H2=>v= .Z/\Q (.ref x) H2) E
def Binds(K:Yb)(fd:mU)(ps:oB)(ds:l5):Prop:=∀(s:Yi) (us:l5),K.In s.heap->(us++ds).length=b9 ps->DR s fd ⟨us,[]⟩ (ps.zip<|us++ds)
def Binds.all{fd:mU}(h:∀us:l5,b9 us=b9 ps->bindArgs fd ⟨us,[]⟩=pure (ps.zip us)):Binds K fd ps []:=λs us _ hl=>by rw[gJ]at hl |-;exact .of_eq (h us hl)
def Jl(CX:qG)(X:Cx)(E:XK):Prop:=∀(c6:oy) (σ:St) (H:Hp) (s:Yi) (e:Yf) (s':Yi),c9 X c6 σ H s->CX X.stack H s E e s'->X.xe e s'
variable{vs:k6}
section
variable {X:Cx} {CX:qG} {k:Nat} {f C:Ys} {fd:mU} {ps:oB} {sp:Sp} {mZ:k6} {ds:l5} {E:XK} {x m:ak} {p pos n5:aZ} {e o:Expr} {es:pw} {ta:TE} {t:TA}
theorem AeY{c6:oy}{σ:St}{Q:VK}(F:iM X.prog X.w X.K X.mg X.base CX k f fd ps sp)(hr:dN k X.A)(hb:Binds X.K fd ps ds)(hd:i3 mZ ds)(hx:Jl CX X E)(I:c9 X c6 σ H s)(r:i3 vs us)(h:sp (vs++mZ) H Q E):Y5 (aq X.prog X.w) X.A (call (.ref f) us) (EP X c6 σ Q) X.xe s:=by
 have r2:i3 (vs++mZ) (us++ds):=r.append hd;have hl:(us++ds).length=b9 ps:=by rw[<-r2.length];exact F.len _ _ _ _ h
 refine VP<|DN (F.run X.A X.stack s H ⟨us,[]⟩ (us++ds) (vs++mZ) Q E hr I.env0 (hb s us I.eZ hl) r2 h) λr s' hq=>?_;cases r with
 |error e=>exact hx c6 σ H s e s' I hq|ok fl=>
  cases fl with
  |ret u=>exact I.after hq|next=>exact gM hq|brk=>exact gM hq|cont=>exact gM hq
def Zw6(F:iM X.prog X.w X.K X.mg X.base CX k f fd ps sp)(hr:dN k X.A)(hg:Gl X x)(hm:X.mg x=O (.ref f))(hk:rC X.K (.ref f)=true)(hb:Binds X.K fd ps ds)(hd:i3 mZ ds)(hx:Jl CX X E)(ha:PA X (e::es) t)(sg:(x==("__debug__":ak))=false:=by decide)(he:Y1 (e::es) X.env=(false,aU e X.env)::Y1 es X.env:=by rfl)(pv:(fZ pos<|Y1 es X.env).any (·.1)=false:=by rfl):
  PE X (.Call (.Name x p) (e::es) [] pos) (AeW sp mZ E t):=by
 intro c6 s σ H Q I h;refine Il<|Es I hg hm ?_ sg;refine N6 (h₀:=X.base) I.ok.mod.vR hk (aV (ha pos c6 s σ H _ I h) λus s1 ⟨vs,H1,I1,r,q⟩=>⟨I1.eZ,?_⟩) he pv;exact AeY F hr hb hd hx I1 r q
structure Mk(K:Yb)(C f:Ys):Prop where
 makes:N8 K C=true
 init:gP K (.ref C) "__init__" =O (O<|.ref f)
 fn:Dy K (.ref f)=true
 kp:rC K (.ref C)=true
theorem Zuh{c6:oy}{σ:St}{Q:VK}(M:Mk X.K C f)(F:iM X.prog X.w X.K X.mg X.base CX k f fd ps sp)(hr:dN (k+1) X.A)(hb:Binds X.K fd ps ds)(hd:i3 mZ ds)(hx:Jl CX X E)(I:c9 X c6 σ H s)(r:i3 vs us)(h:∀x dx,H x=Yj->H dx=Yj->dx≠x->sp (.ref x::(vs++mZ)) (k4 (k4 H dx<|.own x) x<|.ins C dx []) (λv H2=>v= .Z/\Q (.ref x) H2) E):
  Y5 (aq X.prog X.w) X.A (call (.ref C) us) (EP X c6 σ Q) X.xe s:=by
 have hq:=h (d4 s+1) (d4 s) (I.kb.fresh<|Wj _) (I.kb.fresh<|Yn _)<|eE<|Ef _;have I2:=c9.made (C:=C) I;have r2:i3 (V.ref (d4 s+1)::(vs++mZ)) (Value.ref (d4 s+1)::(us++ds)):=.cons aaD<|r.append hd;have hl:(Value.ref (d4 s+1)::us++ds).length=b9 ps:=by have e:=r2.length;rw[F.len _ _ _ _ hq]at e;exact e.symm
 refine VP (Zv4 (f:=f) I.eZ M.makes M.init (beq_iff_eq.mp M.fn) (DN (F.run _ X.stack _ _ ⟨Value.ref (d4 s+1)::us,[]⟩ (Value.ref (d4 s+1)::(us++ds)) _ _ E (hr.make C us [])
  (I2.env0.make C us []) (hb _ (Value.ref (d4 s+1)::us) I2.eZ hl) r2 hq) λr s' AJ=>?_))
 cases r with
 |error e=>exact hx c6 σ _ _ e s' I2 AJ|ok fl=>
  cases fl with
  |ret u=>let⟨v,H',I3,rv,ev,q3⟩:=I2.after AJ;subst ev;exact⟨rv,⟨V.ref<|d4 s+1,H',I3,rfl,q3⟩⟩|next=>exact gM AJ|brk=>exact gM AJ
  |cont=>exact gM AJ
def Zxo(M:Mk X.K C f)(F:iM X.prog X.w X.K X.mg X.base CX k f fd ps sp)(hr:dN (k+1) X.A)(hg:Gl X x)(hm:X.mg x=O (.ref C))(hb:Binds X.K fd ps ds)(hd:i3 mZ ds)(hx:Jl CX X E)(ha:PA X (e::es) t)(sg:(x==("__debug__":ak))=false:=by decide)(he:Y1 (e::es) X.env=(false,aU e X.env)::Y1 es X.env:=by rfl)(pv:(fZ pos<|Y1 es X.env).any (·.1)=false:=by rfl):
  PE X (.Call (.Name x p) (e::es) [] pos) (AeX C sp mZ E t):=by
 intro c6 s σ H Q I h;refine Il<|Es I hg hm ?_ sg;refine N6 (h₀:=X.base) I.ok.mod.vR M.kp (aV (ha pos c6 s σ H _ I h) λus s1 ⟨vs,H1,I1,r,q⟩=>⟨I1.eZ,?_⟩) he pv;exact Zuh M F hr hb hd hx I1 r q
end
structure bZ(N P:oB)(sc:Scope):Prop where
 kind:sc.kind= .function
 co:sc.isCoroutine=false
 gen:sc.isGenerator=false
 nd:N.Nodup
 pre:N.take (b9 P)=P
 par:∀x∈P,sc.names.lookup x=O .local\/sc.names.lookup x=O .cell
 Adz:∀y∈sc.names,y.2≠ .free
theorem Sk{ou:ak->Option NameKind}{x:ak}:∀{binds:yz} {m:ak->oo},(∀v,(x,v)∉binds)->xP ou binds m x=m x
 |[],_,_=>rfl|(n,v)::r,m,h=>by
  unfold xP;rw[Sk λw hw=>h w<|Yk _ hw];split
  .have:x≠n:=by rintro rfl;exact h v Yv
   simp[this]
  .rfl
theorem Sl{ou:ak->Option NameKind}{x:ak}:∀{binds:yz} {m:ak->oo},(∀v,(x,v)∉binds)->xQ ou binds m x=m x
 |[],_,_=>rfl|(n,v)::r,m,h=>by
  unfold xQ;rw[Sl λw hw=>h w<|Yk _ hw];split
  .rfl
  .have:x≠n:=by rintro rfl;exact h v Yv
   simp[this]
def Sn{ou:ak->Option NameKind}{x:ak}{v:Yf}:∀{P:oB} {vs:l5} {i:Nat} {m:ak->oo},P.Nodup->P[i]?=O x->vs[i]?=O v->ou x=O .local ->
  xP ou (P.zip vs) m x=O v
 |[],_,_,_,_,h,_,_=>by simp at h|_::_,[],_,_,_,_,h,_=>by simp at h|p::P,w::vs,0,m,nd,h1,h2,hk=>by simp at h1 h2;subst h1;subst h2;show xP ou ((p,w)::P.zip vs) m p=_;unfold xP;rw[Sk λv hv=>(lC.mp nd).1 (V9 hv).1,f_ hk];simp|p::P,w::vs,i+1,m,nd,h1,h2,hk=>by show xP ou ((p,w)::P.zip vs) m x=_;unfold xP;exact Sn (i:=i) (lC.mp nd).2 (by simpa using h1) (by simpa using h2) hk
def So{ou:ak->Option NameKind}{x:ak}{v:Yf}:∀{P:oB} {vs:l5} {i:Nat} {m:ak->oo},P.Nodup->P[i]?=O x->vs[i]?=O v->ou x≠O .local ->
  xQ ou (P.zip vs) m x=O v
 |[],_,_,_,_,h,_,_=>by simp at h|_::_,[],_,_,_,_,h,_=>by simp at h|p::P,w::vs,0,m,nd,h1,h2,hk=>by simp at h1 h2;subst h1;subst h2;show xQ ou ((p,w)::P.zip vs) m p=_;unfold xQ;rw[Sl λv hv=>(lC.mp nd).1 (V9 hv).1,i6 hk];simp|p::P,w::vs,i+1,m,nd,h1,h2,hk=>by show xQ ou ((p,w)::P.zip vs) m x=_;unfold xQ;exact So (i:=i) (lC.mp nd).2 (by simpa using h1) (by simpa using h2) hk
def start(N:oB)(vs:k6):St:=vs.map O++Yg (b9 N-b9 vs) Yj
def pK(CX:qG)(P:Y8)(w:aX)(K:Yb)(mg:ak->oo)(base:aF)(N:oB)(qual:ak)(scope:Scope)(f:Ys)(cd:Yf)(A:cC)(outer:rL)(s:Yi)(H:Hp)(E:XK):Cx where
 prog:=P
 w:=w
 K:=K
 mg:=mg
 base:=base
 A:=A.deeper<|mY qual scope (d4 s) f cd
 N:=N
 s₀:=s
 H₀:=H
 env:=mY qual scope (d4 s) f cd
 outer:=outer
 stack:=mY qual scope (d4 s) f cd::outer
 ex:=[]
 calm:=true
 fn:=λ_=>true
 pn:=[]
 xe:=λe s'=>Y5 (aq P w) (A.deeper<|mY qual scope (d4 s) f cd) (Ox (mY qual scope (d4 s) f cd) e) (λ_ zI=>CX outer H s E e zI) (λe' zI=>CX outer H s E e' zI) s'
def Sr{sc:Scope}{n:Nat}{x:ak}(h:sc.names.lookup x=O .cell):∃c,(V1 n sc.names []).lookup x=O c:=by have q:=LS sc.names n []<|.inl h;exact Vg.mp q
def Zti{CX:qG}{N:oB}{qual:ak}{scope:Scope}{f:Ys}{cd:Yf}{s1:Yi}{E:XK}(S:bZ N ps scope)(hd:A.handled=Yj)(e0:uf P w K mg base A outer s H)(hl:b9 vs=b9 ps)(r:i3 vs us)(x:InCallC s (d4 s) (xP (mY qual scope (d4 s) f cd).kindOf (ps.zip us) λ_=>Yj) (V1 (d4 s+1) scope.names []) (xQ (mY qual scope (d4 s) f cd).kindOf (ps.zip us) λ_=>Yj) s1):
  c9 (pK CX P w K mg base N qual scope f cd A outer s H E) [] (start N vs) H s1:=by
 have pv:b9 ps<=b9 N:=by have:=congrArg xU S.pre;rw[Ea]at this;omega
 let⟨h1,tk,rfl,hk⟩:=x.done;have Jm:∀b:Ys,b∉(pK CX P w K mg base N qual scope f cd A outer s H E).ex:=λb z=>oz (show b∈([]:l6)from z) j0;refine⟨⟨e0.mod,S.kind,rfl,rfl,Yn _,λy z c h1 h2=>?_,λy hy=>?_,λy c _ h=>?_,λ_=>hd,Around.frames_deeper e0.frames,.inr ⟨rfl,rfl⟩,λb z=>oz z<|Jm b,e0.bs,e0.pI,λb _ _=>Jm b,λb z=>oz z<|Jm b,e0.lU,e0.rN⟩,
  rfl,e0.bare,Un.kept hk,⟨_,x.toInCall.ns,λi y v h1 h2 h3=>?_⟩,λy c h=>⟨_,x.cell y c h⟩,e0.kb.fresh<|Yn _,λy c h=>?_,λp hp=>oz (show p∈([]:oy)from hp) j0,e0.kb.kept hk,?_⟩
 .exact name_of_addr x.apart (vo h1)<|vo h2
 .have hy:scope.names.lookup y=O .cell\/scope.names.lookup y=O .free:=hy;rcases hy with hy|hy
  .exact Sr hy
  .exact oz aaD<|S.Adz _<|vo hy
 .exact Eg<|x.above y c<|vo h
 .have hi:i<b9 vs:=by
   unfold start at h2;by_cases hi:i<vs.length
   .exact hi
   .rw[xR<|by simpa using hi]at h2;rw[OJ]at h2;split at h2<;>cases h2
  have ha:vs[i]?=O v:=by
   unfold start at h2;rw[Y4 (by simpa using hi),lB]at h2;cases e:vs[i]? with
   |none=>rw[e]at h2;cases h2|some a=>rw[e]at h2;cases h2;rfl
  let⟨u,hu,rv⟩:=r.get ha;have hp:ps[i]?=O y:=by rwa[<-S.pre,D_ c8]
  have Sz:ps.Nodup:=by rw[<-S.pre];exact S.nd.sublist<|V7 _ _
  refine⟨u,rv,?_⟩;rcases S.par y (rG hp)with k|k
  .exact .inl ⟨k,Sn Sz hp hu k⟩
  .let⟨c,e⟩:=Sr (n:=d4 s+1) k;refine .inr ⟨.inl k,c,e,?_⟩;have q:=x.cell y c e;rwa[So Sz hp hu (by show scope.names.lookup y≠_;rw[k];decide)]at q
 .exact e0.kb.fresh<|Eg<|x.above y c<|vo h
 .unfold start;show _=b9 N;rw[Ye,Y3,vI];omega
def SA{CX:qG}{k:Nat}{f:Ys}{name qual:ak}{params:Arguments}{body:rq}{scope:Scope}{dV kV doc pm oj ct oc:Yf}{an od:qA}{t9:Array oo}{N:oB}{sp:Sp}(lk:K.lookup f=O ⟨oc,od,.func<|qt name qual params body scope dV kV doc pm an oj ct,t9⟩)(vt:Dw K oj qual=true)(S:bZ N ps scope)(len:∀vs H Q E,sp vs H Q E->b9 vs=b9 ps)(xf:∀(A:cC) (outer:rL) (s:Yi) (H:Hp) (vs:k6) (Q:VK) (E:XK),dN k (A.deeper<|mY qual scope (d4 s) f oj)->sp vs H Q E ->
   ∃t,kj (pK CX P w K mg base N qual scope f oj A outer s H E) body t/\t {nx:=λ_ H'=>Q .Z H',rt:=Q} (start N vs) H):
  iM P w K mg base CX (k+1) f (qt name qual params body scope dV kV doc pm an oj ct) ps sp:=by
 refine⟨len,λA outer s H args us vs Q E hr e0 hb r u7=>?_⟩;have hl:=len _ _ _ _ u7;have KX:K.In s.heap:=e0.mod.vR.keeps λb o e=>(e0.bs b o e).1;have lim:s.heap.NoLimit:=e0.mod.nolimit.keeps λb o e=>(e0.bs b o e).1;have va:∀y∈ps.zip us,scope.names.lookup y.1=O .local\/(scope.names.lookup y.1=O .cell/\((V1 (d4 s+1) scope.names []).lookup y.1).isSome=true):=λ⟨n,v⟩ hy=>by
  rcases S.par n (V9 hy).1 with q|q
  .exact .inl q
  .exact .inr ⟨q,LS _ _ _<|.inl q⟩
 refine codeAny_call_function hr.depth (KX _ _ lk) aaD S.co S.gen aaD (PySem.W.codeRec_of KX vt)<|hb _ _ _ _ ?_;refine wpAny_newFunctionEnv_cells S.kind va λenv he s1 x=>?_;subst he;refine⟨lim.keeps x.toInCall.keep,codeAny_func ?_⟩;let⟨t,ht,hq⟩:=xf A outer s H vs Q E (hr.deeper _) u7;have I:c9 (pK CX P w K mg base N qual scope f oj A outer s H E) [] (start N vs) H s1:=Zti S hr.hd e0 hl r x;refine gq (ht [] s1 (start N vs) H _ I hq) (λfl s' hs=>?_) λe s' hs=>hs;have pV:∀{σ':St} {H':Hp} {v:V} {u:Yf},c9 (pK CX P w K mg base N qual scope f oj A outer s H E) [] σ' H' s'->i5 v u->Q v H'->CE outer P w H s Q u s':=λ{σ' H' v u} J rv q=>⟨v,H',J.os,J.bare,J.base,J.kb,rv,q⟩;cases fl with
 |ret u=>let⟨v,σ',H',J,rv,q⟩:=hs;exact pV J rv q|next=>let⟨σ',H',J,q⟩:=hs;exact pV (v:=V.Z) (u:=Value.none) J aaD q|brk=>let⟨_,_,_,q⟩:=hs;exact gM q|cont=>let⟨_,_,_,q⟩:=hs;exact gM q
end L2
namespace L2
open PySem PySem.Spec PyProof.Rows
section
variable {X:Cx} {x:ak} {p pos:aZ} {e:Expr} {es:pw} {t:TA} {id T:String} {r:k6->Hp->VK->Prop}
def Xd(r:k6->Hp->VK->Prop)(t:TA):TE:=λσ H Q=>t σ H λvs H1=>r vs H1 Q
def SD(hc:bY X (.builtin id) r)(hg:Gl X x)(hm:X.mg x=Yj)(hv:j_ x=O (.builtin id))(ha:PA X (e::es) t)(hn:x≠ "__name__":=by decide)(sg:(x==("__debug__":ak))=false:=by decide)(he:Y1 (e::es) X.env=(false,aU e X.env)::Y1 es X.env:=by rfl)(pv:(fZ pos<|Y1 es X.env).any (·.1)=false:=by rfl):PE X (.Call (.Name x p) (e::es) [] pos) (Xd r t):=by intro c6 s σ H Q I h;refine Il<|Am I hg hm hv ?_ hn sg;exact PyProof.Rows.callWith_builtin1 (aV (ha pos c6 s σ H _ I h) λus s1 ⟨vs,H1,I1,r1,q1⟩=>hc c6 s1 σ H1 vs us Q I1 r1 q1) he pv
def ZtF(hc:bY X (.type T) r)(hg:Gl X x)(hm:X.mg x=Yj)(hv:j_ x=O (.type T))(ha:PA X (e::es) t)(hn:x≠ "__name__":=by decide)(sg:(x==("__debug__":ak))=false:=by decide)(he:Y1 (e::es) X.env=(false,aU e X.env)::Y1 es X.env:=by rfl)(pv:(fZ pos<|Y1 es X.env).any (·.1)=false:=by rfl):PE X (.Call (.Name x p) (e::es) [] pos) (Xd r t):=by intro c6 s σ H Q I h;refine Il<|Am I hg hm hv ?_ hn sg;exact Jd (aV (ha pos c6 s σ H _ I h) λus s1 ⟨vs,H1,I1,r1,q1⟩=>hc c6 s1 σ H1 vs us Q I1 r1 q1) he pv
end
end L2
namespace HT
open PySem PyProof.Rows
section
variable {prog:Y8} {w:aX} {A:cC} {E:Yf->Yi->Prop} {s:Yi}
def Ado{t b:Ys}{vs ws:l5}{Q:Yf->Yi->Prop}(ht:IsTup s.heap t vs.toArray)(hb:IsTup s.heap b ws.toArray)(hv:vs≠[])(h1:ws=[]->Q (.ref t) s)(h2:ws≠[]->Q (.ref<|d4 s) {s with heap:=s.heap.push {cls:=.type "tuple",data:=.seq (vs++ws).toArray}})(hsz:b9 vs+b9 ws<=bI):Y5 (aq prog w) A (jh .Add (.ref t)<|.ref b) Q E s:=by
 let⟨⟨cls,dd,data,sl⟩,ho,hc,n,hd⟩:=id ht;let⟨⟨EN,yA,data2,DJ⟩,AK,zS,n2,hd2⟩:=id hb;simp only at hc hd zS hd2;subst hc hd zS hd2;have e:vs.toArray++ws.toArray=(vs++ws).toArray:=by simp
 by_cases hw:ws=[]
 .exact VD ⟨_,ho,rfl⟩ ⟨_,AK,rfl⟩ Vt Vz Wz Wy (Wx _ _)
   (tuple_addW1 t b vs.toArray ws.toArray n n2 dd yA sl DJ (by simpa using hv)<|by simp[hw]) ⟨ho,AK,h1 hw⟩
 .refine VD ⟨_,ho,rfl⟩ ⟨_,AK,rfl⟩ Vt Vz Wz Wy (Wx _ _)
   (tuple_addW2 t b vs.toArray ws.toArray n n2 dd yA sl DJ (by simpa using hv) (by simpa using hw)<|by rwa[Yq,Yq]) ⟨ho,AK,?_⟩
  rw[e];exact h2 hw
def aN(n d:Nat):pe->Nat
 |none=>d|some v=>if v<0 then(v+(n:Int)).toNat else jL v.toNat n
def Xe(n d:Nat):aN n d Yj=d:=rfl
def Xf(n d k:Nat):aN n d (O (k:Int))=jL k n:=by show(if(k:Int)<0 then((k:Int)+(n:Int)).toNat else jL (k:Int).toNat n)=jL k n;rw[i6<|Int.not_lt.2<|Wm _,t6]
def Qn(n d:Nat)(hd:d<=n)(o:pe):aN n d o<=n:=by
 cases o with
 |none=>exact hd|some v=>
  show(if v<0 then(v+(n:Int)).toNat else jL v.toNat n)<=n;by_cases hv:v<0
  .rw[f_ hv];omega
  .rw[i6 hv];exact NM _ _
def SE(v:Int)(n d:Nat):(if v<0 then gR (v+(n:Int)) 0 else jL v (n:Int))=((aN n d (O v):Nat):Int):=by
 show(if v<0 then gR (v+(n:Int)) 0 else jL v (n:Int))=(((if v<0 then(v+(n:Int)).toNat else jL v.toNat n):Nat):Int);by_cases hv:v<0
 .simp only[f_ hv];exact clA _
 .simp only[i6 hv];exact clB _ _ hv
def ZqC(lo hi:pe)(n:Nat):WD lo hi 1 (n:Int)=(((aN n 0 lo:Nat):Int),((aN n n hi:Nat):Int)):=by
 have h1:¬((1:Int)<0):=by decide
 unfold WD;simp only[h1,if_false];refine Prod.ext ?_ ?_
 .cases lo with
  |none=>rfl|some v=>exact SE v n 0
 .cases hi with
  |none=>rfl|some v=>exact SE v n n
def Zq2(i j:Nat):PJ (i:Int) (j:Int) 1=j-i:=by
 unfold PJ;have h1:(1:Int)>0:=by decide
 simp only[h1,if_true,Int.ediv_one];split <;>omega
def SF{v:Yf}{o:pe}{Q:pe->Yi->Prop}(p:IsPart v o)(h:Q o s):Y5 (aq prog w) A (Builtin.Slice.slicePartIndex v) Q E s:=by
 cases p with
 |none=>exact slicePart_none h|int i t=>exact slicePart_int h
def SG{sl:Ys}{vl vu:Yf}{lo hi:pe}{n:Nat}{Q:Int×Int×Nat->Yi->Prop}(hs:s.heap.IsSliceOf sl vl vu .none)(pl:IsPart vl lo)(pu:IsPart vu hi)(h:Q (((aN n 0 lo:Nat):Int),1,aN n n hi-aN n 0 lo) s):Y5 (aq prog w) A (Pc (.ref sl)<|pure (n:Int)) Q E s:=by let⟨os,AL,AM,BO⟩:=id hs;unfold Pc Builtin.Slice.sliceFields;refine Yc<|Yc<|gQ AL BO (x:=vl) aaD<|Yc<|gQ AL BO (x:=vu) aaD<|Yc<|gQ AL BO (x:=.none) aaD<|Yo ?_;refine Yc<|slicePart_none ?_;show Y5 _ _ (if((1:Int)==0)=true then _ else _) _ _ s;rw[i6 aaE];refine Yc<|SF pl<|Yc<|SF pu<|Yc<|Yo ?_;show Y5 _ _ (match WD lo hi 1 (n:Int)with|(lo,hi)=>pure (lo,(1:Int),PJ lo hi 1)) _ _ s;rw[ZqC lo hi n];show Y5 _ _ (pure (((aN n 0 lo:Nat):Int),(1:Int),PJ ((aN n 0 lo:Nat):Int) ((aN n n hi:Nat):Int) 1)) _ _ s;rw[Zq2];exact Yo h
def Zvp(xs:qB)(i k:Nat):((fM k).filterMap λ(m:Nat)=>xs[((i:Int)+(m:Int)*1).toNat]?).toArray=((xs.toList.drop i).take k).toArray:=by
 have e:(λ(m:Nat)=>xs[((i:Int)+(m:Int)*1).toNat]?)=λm=>xs[i+m]?:=by
  funext m;have:((i:Int)+(m:Int)*1).toNat=i+m:=by omega
  rw[this]
 rw[e];have:=pick_run xs i k;rw[List.filterMap_map]at this;have e2:((λx=>xs[x]?) ∘ λx=>i+x)=λm=>xs[i+m]?:=rfl;rw[e2]at this;rw[this]
def Abo{t sl:Ys}{items:qB}{vl vu:Yf}{lo hi:pe}{Q:Yf->Yi->Prop}(ht:IsTup s.heap t items)(hs:s.heap.IsSliceOf sl vl vu .none)(pl:IsPart vl lo)(pu:IsPart vu hi)(hw:¬(aN items.size 0 lo=0/\aN items.size items.size hi=items.size))(h:Q (.ref<|d4 s) {s with heap:=s.heap.push {cls:=.type "tuple",data:=.seq ((items.toList.drop<|aN items.size 0 lo).take<|aN items.size items.size hi-aN items.size 0 lo).toArray}})(hsz:items.size<=bI):Y5 (aq prog w) A (tR (.ref t)<|.ref sl) Q E s:=by
 have NK:sizeOk (.seq ((items.toList.drop<|aN items.size 0 lo).take<|aN items.size items.size hi-aN items.size 0 lo).toArray):=by show((items.toList.drop<|aN items.size 0 lo).take<|aN items.size items.size hi-aN items.size 0 lo).toArray.size<=bI;rw[Yq,Ea,ND,Pb];omega
 have hj:aN items.size items.size hi<=items.size:=Qn _ _ (Yn _) hi;let⟨os,AL,AM,BO⟩:=id hs;have EO:s.TypeIs (.ref sl) "slice":=⟨os,AL,AM⟩;unfold tR
 try with_reducible refine pB ?_
 first|refine Yc (Yo ?_)|skip
 refine Yc<|Mn ht.typeIs aaE ?_;refine Yc (vh (name:=n_ "__getitem__") ht.typeIs Pa
  (vz Pa ht.typeIs N9 ?_<|Oy _ _))
 show Y5 _ _ (Pd (.ref t)>>=_) _ _ s;refine Yc<|tupleItemsOf_ ht ?_;refine Yc<|zW EO ?_;rw[f_ aaE];refine Yc<|SG hs pl pu ?_;have hno:¬((((aN items.size 0 lo:Nat):Int)==0&&(1:Int)==1&&(aN items.size items.size hi-aN items.size 0 lo)==items.size)=true):=by intro q;rw[j5,j5]at q;have q1:((aN items.size 0 lo:Nat):Int)=0:=eq_of_beq q.1.1;have q2:aN items.size items.size hi-aN items.size 0 lo=items.size:=eq_of_beq q.2;exact hw ⟨c8,c8⟩
 show Y5 _ _ (if(((aN items.size 0 lo:Nat):Int)==0&&(1:Int)==1&&(aN items.size items.size hi-aN items.size 0 lo)==items.size)=true then _ else _) _ _ s;rw[i6 hno,Zvp]
 first
  |exact Yc (m:=PK _) (vp (Yo ⟨_,rfl,Yo h⟩) NK)
  |exact Yc (m:=PK _) (vp (Yc (Yo (Yo ⟨_,rfl,Yo h⟩))) NK)
  |exact Yc (Yc (m:=PK _) (vp (Yo (Yo ⟨_,rfl,Yo h⟩)) NK))
  |exact Yc (Yc (m:=PK _) (vp (Yo ⟨_,rfl,Yo h⟩) NK))
end
end HT
namespace L2
open PySem PySem.Spec PyProof.Rows
abbrev TO:=St->Hp->(pe->Hp->Prop)->Prop
def PO(X:Cx)(e:Option Expr)(t:TO):Prop:=
 ∀(c6:oy) (s:Yi) (σ:St) (H:Hp) (Q:pe->Hp->Prop),c9 X c6 σ H s->t σ H Q ->
  Y5 (aq X.prog X.w) X.A (evalPart e X.env) (λu s'=>∃o H',c9 X c6 σ H' s'/\IsPart u o/\Q o H') X.xe s
def ZxU:TO:=λ_ H Q=>Q Yj H
def AeZ(t:TE):TO:=λσ H Q=>t σ H λx H1=>∃i,x= .int i/\Q (O i) H1
section
variable {X:Cx} {e:Expr} {te:TE} {lo hi:Option Expr} {tl th:TO} {pos p2:aZ}
def Zxg:PO X Yj ZxU:=by intro c6 s σ H Q I h;rw[evalPart_none];exact Yo ⟨Yj,H,I,.none,h⟩
def Zxz(h:PE X e te):PO X (O e) (AeZ te):=by intro c6 s σ H Q I hw;rw[evalPart_some];refine aV (h c6 s σ H _ I hw) λu s1 ao=>?_;let⟨x,H1,I1,r1,q1⟩:=ao;let⟨i,rfl,q⟩:=q1;let⟨t,rfl⟩:=r1;exact⟨O i,H1,I1,.int i t,q⟩
def kI(X:Cx)(r:V->pe->pe->Hp->VK->Prop):Prop:=
 ∀(c6:oy) (s:Yi) (σ:St) (H:Hp) (x:V) (v vl vu:Yf) (lo hi:pe) (sl:Ys) (Q:VK),c9 X c6 σ H s->i5 x v->s.heap.IsSliceOf sl vl vu .none->IsPart vl lo->IsPart vu hi->r x lo hi H Q ->
  ∃T id,DP (.type T) "__getitem__" =pure (O<|.builtin id)/\s.TypeIs v T/\Y5 (aq X.prog X.w) X.A (tR v<|.ref sl) (EP X c6 σ Q) X.xe s
def kI.or{r r':V->pe->pe->Hp->VK->Prop}(h:kI X r)(h':kI X r'):kI X (λx lo hi H Q=>r x lo hi H Q\/r' x lo hi H Q):=by
 intro c6 s σ H x v vl vu lo hi sl Q I rx hs pl pu q;rcases q with q|q
 .exact h c6 s σ H x v vl vu lo hi sl Q I rx hs pl pu q
 .exact h' c6 s σ H x v vl vu lo hi sl Q I rx hs pl pu q
def tSl(r:V->pe->pe->Hp->VK->Prop)(te:TE)(tl th:TO):TE:=λσ H Q=>te σ H λx H1=>tl σ H1 λl H2=>th σ H2 λu H3=>r x l u H3 Q
def Zu8{r:V->pe->pe->Hp->VK->Prop}(hr:kI X r)(he:PE X e te)(hl:PO X lo tl)(hu:PO X hi th):PE X (.Subscript e (.Slice lo hi Yj p2) pos) (tSl r te tl th):=by intro c6 s σ H Q I h;refine Wv<|aV (he c6 s σ H _ I h) λv s1 ao=>?_;let⟨x,H1,I1,r1,q1⟩:=ao;refine wpAny_Slice<|aV (hl c6 s1 σ H1 _ I1 q1) λvl s2 ⟨l,H2,I2,pl,q2⟩=>aV (hu c6 s2 σ H2 _ I2 q2) λvu s3 ao=>?_;let⟨u,H3,I3,pu,q3⟩:=ao;rw[evalPart_none];refine Yo ?_;have I4:c9 X c6 σ H3 {s3 with heap:=s3.heap.push {cls:=.type "slice",data:=.fields #[vl,vu,.none]}}:=I3.kept (t':=s3.toks) λb ob q=>Yl _ q;let⟨T,id,hT,ht,hg⟩:=hr c6 {s3 with heap:=s3.heap.push {cls:=.type "slice",data:=.fields #[vl,vu,.none]}} σ H3 x v vl vu l u (d4 s3) Q I4 r1 (Heap.IsSliceOf.new ..) pl pu q3;show Y5 (aq X.prog X.w) X.A (Wu e (.Slice lo hi Yj p2) v<|.ref<|d4 s3) (EP X c6 σ Q) X.xe {s3 with heap:=s3.heap.push {cls:=.type "slice",data:=.fields #[vl,vu,.none]}};exact tail_any (ops:=[.ref<|d4 s3,v]) ht hT hg (by with_unfolding_all rfl)
def yj(xs:k6)(lo hi:pe):k6:=(xs.drop<|HT.aN (b9 xs) 0 lo).take<|HT.aN (b9 xs) (b9 xs) hi-HT.aN (b9 xs) 0 lo
def SH(xs:k6)(lo hi:pe):(yj xs lo hi).length<=b9 xs:=by unfold yj;rw[Ea,ND];exact Yx (NM _ _)<|Wk _ _
def Ae0(K:Yb):V->pe->pe->Hp->VK->Prop:=λx lo hi H Q=>∃a xs,x= .ref a/\dD K H a xs/\
 ¬(HT.aN (b9 xs) 0 lo=0/\HT.aN (b9 xs) (b9 xs) hi=b9 xs)/\∀p,H p=Yj->Q (.ref p) (k4 H p<|.U<|yj xs lo hi)
def ZzA:kI X (Ae0 X.K):=by
 intro c6 s σ H x v vl vu lo hi sl Q I rx hs pl pu h;let⟨a,xs,rfl,hx,hw,q⟩:=h;cases rx;let⟨c_,r,ht,hz⟩:=I.tuple hx;have i7:c_.toArray.size=b9 xs:=by rw[Yq];exact r.length.symm
 refine⟨"tuple",_,PyProof.Rows.slot_tuple_getitem.lookup,ht.typeIs,?_⟩;refine HT.Abo ht hs pl pu (by rwa[i7]) ?_ (by rwa[i7]);rw[i7];refine⟨.ref<|d4 s,_,I.laid (t':=s.toks) (o:=.U<|yj xs lo hi) (λb ob q=>Yl _ q) (Yn _) ?_,rfl,q _<|I.kb.fresh<|Yn _⟩;exact⟨Yx (SH xs lo hi) hz,_,(r.drop<|HT.aN (b9 xs) 0 lo).take<|HT.aN (b9 xs) (b9 xs) hi-HT.aN (b9 xs) 0 lo,qD.new _ _⟩
def Ae1(K:Yb):R2:=λx y H Q=>∃a b xs ys,x= .ref a/\y= .ref b/\dD K H a xs/\dD K H b ys/\xs≠[]/\xs.length+b9 ys<=bI/\
 (ys=[]->Q (.ref a) H)/\(ys≠[]->∀p,H p=Yj->Q (.ref p) (k4 H p<|.U<|xs++ys))
def i3.UL{xs:k6}{us:l5}(r:i3 xs us):us=[]↔xs=[]:=by
 cases r with
 |nil=>simp|cons _ _=>simp
def Zxc:aY X (jh .Add) (Ae1 X.K):=by intro c6 s σ H x y v u Q I rx ry h;let⟨a,b,xs,ys,rfl,rfl,ha,hb,hx,hz,q1,q2⟩:=h;cases rx;cases ry;let⟨c_,r1,p1,_⟩:=I.tuple ha;let⟨oQ,r2,p2,_⟩:=I.tuple hb;refine HT.Ado p1 p2 (λz=>hx<|r1.UL.mp z) (λz=>⟨.ref a,H,I,rfl,q1<|r2.UL.mp z⟩) (λz=>?_) (by rwa[<-r1.length,<-r2.length]);refine⟨.ref<|d4 s,_,I.laid (t':=s.toks) (o:=.U<|xs++ys) (λb ob q=>Yl _ q) (Yn _) ?_,rfl,q2 (λw=>z<|r2.UL.mpr w) _<|I.kb.fresh<|Yn _⟩;exact⟨by rwa[Ye],_,r1.append r2,qD.new _ _⟩
end
end L2
namespace L2
open PySem PySem.Spec PyProof.Rows
def Jo(n:Nat)(i:Int):Option Nat:=if 0<=i then(if i<n then O i.toNat else Yj)else if -(n:Int)<=i then O (i+n).toNat else Yj
def Aq{α:Type}(xs:List α)(i:Int):Option α:=(Jo (b9 xs) i).bind λj=>xs[j]?
def SI{n:Nat}{i:Int}{j:Nat}(h:Jo n i=O j):V2 i n=O j/\j<n/\ -(n:Int)<=i/\i<n:=by
 unfold Jo at h;by_cases h0:0<=i
 .rw[f_ h0]at h;by_cases h1:i<n
  .rw[f_ h1]at h;have e:i.toNat=j:=Y9 h;exact⟨by rw[seqIndex_of h0 h1,e],c8,c8,h1⟩
  .rw[i6 h1]at h;cases h
 .rw[i6 h0]at h;by_cases h1:-(n:Int)<=i
  .rw[f_ h1]at h;have e:(i+n).toNat=j:=Y9 h;exact⟨by rw[seqIndex_neg (by exact Ws.1 h0) h1,e],c8,h1,c8⟩
  .rw[i6 h1]at h;cases h
def Xg{α:Type}{xs:List α}{i:Int}{v:α}(h:Aq xs i=O v):∃j,V2 i (b9 xs)=O j/\xs[j]?=O v/\j<b9 xs/\ -(b9 xs:Int)<=i/\i<b9 xs:=by
 unfold Aq at h;cases e:Jo (b9 xs) i with
 |none=>rw[e]at h;cases h|some j=>rw[e]at h;let⟨h1,h2,h3,h4⟩:=SI e;exact⟨j,h1,h,h2,h3,h4⟩
def SK(b:Expr):Prop:=∀o i,Oo b false o i=operate [o,i] (tR o i)
def m_(X:Cx)(r:R2):Prop:=
 ∀(value slice:Expr) (c6:oy) (s:Yi) (σ:St) (H:Hp) (x y:V) (v u:Yf) (Q:VK),c9 X c6 σ H s->i5 x v->i5 y u->r x y H Q ->
  Oo slice false v u=operate [v,u] (tR v u)->Y5 (aq X.prog X.w) X.A (Wu value slice v u) (EP X c6 σ Q) X.xe s
def pM(X:Cx)(id:String)(r:V->k6->Hp->VK->Prop):Prop:=
 ∀(c6:oy) (s:Yi) (σ:St) (H:Hp) (x:V) (xs:k6) (v:Yf) (us:l5) (Q:VK),c9 X c6 σ H s->i5 x v->i3 xs us->r x xs H Q ->
  Y5 (aq X.prog X.w) X.A (call (.builtin id)<|v::us) (EP X c6 σ Q) X.xe s
section
variable {X:Cx} {a b:Expr} {ta tb:TE} {pos:aZ}
def m_.or{r r':R2}(h:m_ X r)(h':m_ X r'):m_ X (λx y H Q=>r x y H Q\/r' x y H Q):=by
 intro value slice c6 s σ H x y v u Q I rx ry q hs;rcases q with q|q
 .exact h value slice c6 s σ H x y v u Q I rx ry q hs
 .exact h' value slice c6 s σ H x y v u Q I rx ry q hs
def Ae2{r:R2}(hr:m_ X r)(ha:PE X a ta)(hb:PE X b tb)(hs:SK b):PE X (.Subscript a b pos) (Jk r ta tb):=by intro c6 s σ H Q I h;exact Wv<|U9 ha hb I h λv u s2 x y H2 I2 rx ry q=>hr a b c6 s2 σ H2 x y v u Q I2 rx ry q<|hs _ _
def SO(K:Yb):R2:=λx y H Q=>∃p xs i v,x= .ref p/\y= .int i/\dm K H p xs/\Aq xs i=O v/\Q v H
def SS(K:Yb):R2:=λx y H Q=>∃p xs i v,x= .ref p/\y= .int i/\dD K H p xs/\Aq xs i=O v/\Q v H
def SU:R2:=λx y H Q=>∃z i c,x= .str z/\y= .int i/\z.length<=bI/\Aq z.cps.toList i=O c/\Q (.str ⟨#[c]⟩) H
def Zxi:m_ X (SO X.K):=by
 intro value slice c6 s σ H x y v u Q I rx ry h hs;let⟨p,xs,i,z,rfl,rfl,hq,he,q⟩:=h;cases rx;let⟨t,rfl⟩:=ry;let⟨c_,r,pl,hz⟩:=I.list hq;let⟨j,h1,h2,h3,h4,h5⟩:=Xg he;let⟨w,ew,jN⟩:=r.get h2;have hl:=r.length;have hn:=Qk;have pV:EP X c6 σ Q w s:=⟨z,H,I,jN,q⟩;by_cases h0:0<=i
 .have hj:i.toNat=j:=by
   rw[seqIndex_of h0 h5]at h1;exact Y9 h1
  exact item_listR pl.isList h0 c8 (by rw[hj];simpa using ew) pV hs
 .have hj:(i+(c_.toArray.size:Int)).toNat=j:=by
   rw[seqIndex_neg (by exact Ws.1 h0) h4]at h1;rw[Yq,<-hl];exact Y9 h1
  exact N3 (x:=w) pl.isList.typeIs slot_list_getitem.lookup
   (wpAny_getItem_list_neg (Q:=λr s'=>r=w/\EP X c6 σ Q r s') pl.isList (by exact Ws.1 h0) (by rw[Yq]<;>omega) c8 (by rw[hj];simpa using ew) ⟨rfl,pV⟩) hs
def Zz3:m_ X (SS X.K):=by
 intro value slice c6 s σ H x y v u Q I rx ry h hs;let⟨p,xs,i,z,rfl,rfl,hq,he,q⟩:=h;cases rx;let⟨t,rfl⟩:=ry;let⟨c_,r,pl,hz⟩:=I.tuple hq;let⟨j,h1,h2,h3,h4,h5⟩:=Xg he;let⟨w,ew,jN⟩:=r.get h2;have hl:=r.length;have hn:=Qk;have pV:EP X c6 σ Q w s:=⟨z,H,I,jN,q⟩;exact N3 (x:=w) pl.typeIs slot_tuple_getitem.lookup
  (getItem_tuple (j:=j) (Q:=λr s'=>r=w/\EP X c6 σ Q r s') pl c8 c8 (by rwa[Yq,<-hl]) (by simpa using ew) ⟨rfl,pV⟩) hs
def ZzS:m_ X SU:=by
 intro value slice c6 s σ H x y v u Q I rx ry h hs;let⟨z,i,c,rfl,rfl,hz,he,q⟩:=h;let⟨t,rfl⟩:=rx;let⟨t',rfl⟩:=ry;let⟨j,h1,h2,h3,h4,h5⟩:=Xg he;have hl:b9 z.cps.toList=z.length:=by simp[t7]
 rw[hl]at h1 h4 h5;have hn:=Qk;exact tail_any (VR s z t) slot_str_getitem.lookup (getItem_str (c:=c) (by have e1:decide (i< -(2^63:Int))=false:=pf c8;have e2:decide (i>=2^63)=false:=pf c8;rw[e1,e2,Wl]) (by rw[h1];simpa using h2) ⟨.str ⟨#[c]⟩,H,I.tok _,⟨_,rfl⟩,q⟩) hs
def rIx(K:Yb):R2:=λx y H Q=>SO K x y H Q\/SS K x y H Q\/SU x y H Q
def Ae3:m_ X (rIx X.K):=Zxi.or<|Zz3.or ZzS
def c9.L{c6:oy}{σ:St}{H:Hp}{s:Yi}{p:Ys}{xs:k6}(I:c9 X c6 σ H s)(h:H p=O (.L xs)):
  ∃(c_:l5) (n:Nat),i3 xs c_/\s.heap.get? p=O {cls:=.type "list",data:=.seq c_.toArray n}/\xs.length<=bI:=by
 let⟨z,c_,n,r,e⟩:=I.kb p _ h;exact⟨c_,n,r,e,z⟩
def Zn4(lo hi:pe)(n:Nat):(zX lo hi Yj n).1=((HT.aN n 0 lo:Nat):Int)/\(zX lo hi Yj n).2.1=((HT.aN n n hi:Nat):Int)/\(zX lo hi Yj n).2.2=1:=by
 refine⟨?_,?_,rfl⟩
 .cases lo with
  |none=>simp[zX,HT.aN]|some i=>
   simp only[zX,HT.aN,LN,show(1:Int)>0 by decide,if_true];by_cases h:i<0
   .simp only[h,if_true]<;>exact WY _ _ h
   .simp only[h,if_false]<;>exact W0 _ _ h
 .cases hi with
  |none=>simp[zX,HT.aN]|some i=>
   simp only[zX,HT.aN,LN,show(1:Int)>0 by decide,if_true];by_cases h:i<0
   .simp only[h,if_true]<;>exact WY _ _ h
   .simp only[h,if_false]<;>exact W0 _ _ h
def Zmq(c_:l5)(lo hi:pe):slicePick c_.toArray lo hi Yj=((c_.drop<|HT.aN (b9 c_) 0 lo).take<|HT.aN (b9 c_) (b9 c_) hi-HT.aN (b9 c_) 0 lo).toArray:=by let⟨h1,h2,h3⟩:=Zn4 lo hi c_.toArray.size;unfold slicePick;rw[h1,h2,h3];simp only[sliceRange_one,pick_run,Yq]<;>rfl
def Ae4(K:Yb):V->pe->pe->Hp->VK->Prop:=λx lo hi H Q=>∃a xs,x= .ref a/\dm K H a xs/\∀p,H p=Yj->Q (.ref p) (k4 H p<|.L<|yj xs lo hi)
def ZwM:kI X (Ae4 X.K):=by intro c6 s σ H x v vl vu lo hi sl Q I rx hs pl pu h;let⟨a,xs,rfl,hx,q⟩:=h;cases rx;let⟨c_,r,ht,hz⟩:=I.list hx;have i7:=r.length;refine⟨"list",_,slot_list_getitem.lookup,ht.isList.typeIs,?_⟩;refine wpAny_getItem_list_slice ht.isList hs pl pu .none j0 ?_ (by rw[Yq]<;>omega);rw[Zmq,<-i7];refine⟨.ref<|d4 s,_,I.laid (t':=s.toks) (o:=.L<|yj xs lo hi) (λb ob q=>Yl _ q) (Yn _) ?_,rfl,q _<|I.kb.fresh<|Yn _⟩;exact⟨Yx (SH xs lo hi) hz,_,0,(r.drop<|HT.aN (b9 xs) 0 lo).take<|HT.aN (b9 xs) (b9 xs) hi-HT.aN (b9 xs) 0 lo,Y6 _ aaD⟩
def ug:V->Bool
 | .Z=>true|.bl _=>true|.int _=>true|.str _=>true
 |_=>false
def vX:V->V->Bool
 | .Z,.Z=>true|.bl a,.bl b=>a==b|.bl a,.int b=>(if a then 1 else 0)==b|.int a,.bl b=>a==(if b then 1 else 0)
 | .int a,.int b=>a==b|.str a,.str b=>a==b|_,_=>false
def ZzN{A:cC}{s:Yi}{y x:V}{u v:Yf}(ry:i5 y u)(rx:i5 x v)(fy:ug y=true)(fx:ug x=true):oA A s u v (vX y x):=by
 cases y with
 |Z=>
  cases ry
  cases x with
  |Z=>cases rx;exact WM _|bl b=>cases rx;exact Pp b|int b=>let⟨t,rfl⟩:=rx;exact PC b t|str b=>let⟨t,rfl⟩:=rx;exact PD b t
  |_=>exact oz (show false=true from fx) lZ
 |bl a=>
  cases ry
  cases x with
  |Z=>cases rx;exact Pt a|bl b=>cases rx;exact Pw a b|int b=>let⟨t,rfl⟩:=rx;exact PF a b t|str b=>let⟨t,rfl⟩:=rx;exact PH a b t
  |_=>exact oz (show false=true from fx) lZ
 |int a=>
  let⟨t',rfl⟩:=ry;cases x with
  |Z=>cases rx;exact PM a t'|bl b=>cases rx;exact PR a t' b|int b=>let⟨t,rfl⟩:=rx;exact WL a t' b t|str b=>let⟨t,rfl⟩:=rx;exact WK a t' b t
  |_=>exact oz (show false=true from fx) lZ
 |str a=>
  let⟨t',rfl⟩:=ry;cases x with
  |Z=>cases rx;exact PU a t'|bl b=>cases rx;exact PV a t' b|int b=>let⟨t,rfl⟩:=rx;exact PX a t' b t|str b=>let⟨t,rfl⟩:=rx;exact PY a t' b t
  |_=>exact oz (show false=true from fx) lZ
 |_=>exact oz (show false=true from fy) lZ
def nj(x:V)(u:Yf):Bool:=match u with
 | .none=>vX .Z x|.bool b=>vX (.bl b) x|.int i _=>vX (.int i) x|.str z _=>vX (.str z) x
 |_=>false
def SV{x y:V}{u:Yf}(r:i5 y u)(f:ug y=true):nj x u=vX y x:=by
 cases y with
 |Z=>cases r;rfl|bl b=>cases r;rfl|int i=>let⟨t,rfl⟩:=r;rfl|str z=>let⟨t,rfl⟩:=r;rfl
 |_=>exact oz (show false=true from f) lZ
theorem Jp{x:V}:∀{xs:k6} {us:l5},i3 xs us->xs.all ug=true->us.any (nj x)=xs.any λy=>vX y x
 |_,_,.nil,_=>rfl|y::xs,u::us,.cons r t,f=>by rw[Ae,j5]at f;rw[nZ,nZ,SV r f.1,Jp t f.2]
theorem Jq{A:cC}{s:Yi}{x:V}{v:Yf}(rx:i5 x v)(fx:ug x=true):∀{xs:k6} {us:l5},i3 xs us->xs.all ug=true->∀u∈us,oA A s u v<|nj x u
 |_,_,.nil,_=>λu hu=>by cases hu|y::xs,u::us,.cons r t,f=>λu' hu=>by
  rw[Ae,j5]at f;rcases Yt.mp hu with rfl|hu
  .rw[SV r f.1];exact ZzN r rx f.1 fx
  .exact Jq rx fx t f.2 u' hu
def DL(x:V)(xs:k6):Bool:=xs.any λy=>vX y x
def Xh(K:Yb)(neg:Bool):R2:=λx y H Q=>∃p xs,y= .ref p/\(dm K H p xs\/dD K H p xs)/\ug x=true/\xs.all ug=true/\Q (.bl<|if neg then !DL x xs else DL x xs) H
def ZtJ:aY X (iB .In) (Xh X.K false):=by
 intro c6 s σ H x y v u Q I rx ry h;let⟨p,xs,rfl,hq,fx,fs,q⟩:=h;cases ry;rcases hq with hq|hq
 .let⟨c_,r,pl,hz⟩:=I.list hq;refine SeqAt.in_listAt (nj x) pl.isList (λw hw=>Jq rx fx r fs w<|by simpa using hw) ⟨.bl _,H,I,rfl,?_⟩;rwa[show c_.toArray.any (nj x)=c_.any (nj x)by simp,Jp r fs]
 .let⟨c_,r,pl,hz⟩:=I.tuple hq;refine SeqAt.in_tupleAt (nj x) pl (λw hw=>Jq rx fx r fs w<|by simpa using hw) ⟨.bl _,H,I,rfl,?_⟩;rwa[show c_.toArray.any (nj x)=c_.any (nj x)by simp,Jp r fs]
def ZnE:aY X (iB .NotIn) (Xh X.K true):=by
 intro c6 s σ H x y v u Q I rx ry h;let⟨p,xs,rfl,hq,fx,fs,q⟩:=h;cases ry;rcases hq with hq|hq
 .let⟨c_,r,pl,hz⟩:=I.list hq;refine OY (nj x) pl.isList (λw hw=>Jq rx fx r fs w<|by simpa using hw) ⟨.bl _,H,I,rfl,?_⟩;rwa[show c_.toArray.any (nj x)=c_.any (nj x)by simp,Jp r fs]
 .let⟨c_,r,pl,hz⟩:=I.tuple hq;refine SeqAt.notIn_tupleAt (nj x) pl (λw hw=>Jq rx fx r fs w<|by simpa using hw) ⟨.bl _,H,I,rfl,?_⟩;rwa[show c_.toArray.any (nj x)=c_.any (nj x)by simp,Jp r fs]
def bY.or{f:Yf}{r r':k6->Hp->VK->Prop}(h:bY X f r)(h':bY X f r'):bY X f (λxs H Q=>r xs H Q\/r' xs H Q):=by
 intro c6 s σ H xs us Q I rs q;rcases q with q|q
 .exact h c6 s σ H xs us Q I rs q
 .exact h' c6 s σ H xs us Q I rs q
def Zop:bY X (.type "list") (λxs H Q=>∃p ys,xs=[.ref p]/\(dm X.K H p ys\/dD X.K H p ys)/\∀l,H l=Yj->Q (.ref l) (k4 H l<|.L ys)):=by
 intro c6 s σ H xs us Q I r h;let⟨p,ys,rfl,hq,q⟩:=h;let⟨u,rfl,rx⟩:=vals1 r;cases rx;have pV:∀(c_:l5),i3 ys c_->b9 ys<=bI->∀(h':aF) (c':Nat),(∀b o',s.heap.get? b=O o'->h'.get? b=O o') ->
   h'.get? (d4 s)=O {cls:=.type "list",dict:=Yj,data:=.seq c_.toArray c',slots:=#[]}->EP X c6 σ Q (.ref<|d4 s) {s with heap:=h'}:=λc_ r' hz h' c' kp e=>
  ⟨.ref<|d4 s,_,I.laid (t':=s.toks) kp (Yn _) (show gC X.prog X.w _ h' _ (.L ys)from⟨hz,c_,c',r',e⟩),rfl,q _<|I.kb.fresh<|Yn _⟩
 rcases hq with hq|hq
 .let⟨c_,r',pl,hz⟩:=I.list hq;have i7:=r'.length;let⟨o,ho,hc,n,hd⟩:=pl.isList;exact call_list_seq p (.inl aaD) ho hc hd (λh' c' kp e=>pV c_ r' hz h' c' kp e) (by simp only[Yq]<;>omega)
 .let⟨c_,r',pl,hz⟩:=I.tuple hq;have i7:=r'.length;let⟨o,ho,hc,n,hd⟩:=pl;exact call_list_seq p (.inr aaD) ho hc hd (λh' c' kp e=>pV c_ r' hz h' c' kp e) (by simp only[Yq]<;>omega)
def ZmH:bY X (.type "tuple") (λxs H Q=>∃p ys,xs=[.ref p]/\((dm X.K H p ys/\∀l,H l=Yj->Q (.ref l) (k4 H l<|.U ys))\/(dD X.K H p ys/\Q (.ref p) H))):=by
 intro c6 s σ H xs us Q I r h;let⟨p,ys,rfl,h⟩:=h;let⟨u,rfl,rx⟩:=vals1 r;cases rx;rcases h with⟨hq,q⟩|⟨hq,q⟩
 .let⟨c_,r',pl,hz⟩:=I.list hq;have i7:=r'.length;refine call_tuple_list pl.isList (λh' kp=>?_) (by simp only[Yq]<;>omega);have I1:c9 X c6 σ H {s with heap:=h'}:=I.kept (t':=s.toks) kp;have I2:c9 X c6 σ (k4 H h'.objs.size<|.U ys) {s with heap:=h'.push {cls:=.type "tuple",data:=.seq c_.toArray}}:=
   I1.laid (t':=s.toks) (λb o e=>Yl _ e) (Yn _) (show gC X.prog X.w _ _ _ (.U ys)from⟨hz,c_,r',qD.new _ _⟩)
  exact⟨.ref h'.objs.size,_,I2,rfl,q _<|I1.kb.fresh<|Yn _⟩
 .let⟨c_,r',pl,hz⟩:=I.tuple hq;exact call_tuple_same pl ⟨.ref p,H,I,rfl,q⟩
def Ew(K:Yb)(T:String)(x:V)(H:Hp):Prop:=match x with
 | .str _=>T= "str"|.int _=>T= "int"|.ref p=>(T= "list" /\∃xs,dm K H p xs)\/(T= "tuple" /\∃o,K.lookup p=O o/\o.cls= .type "tuple" /\o.dict=Yj)\/
   (T= "dict" /\((∃kvs,H p=O (.dK kvs))\/∃kvs,H p=O (.dT kvs)))\/(T= "set" /\∃S n,H p=O (.set S n))
 |_=>False
def SW{c6:oy}{σ:St}{H:Hp}{s:Yi}{T:String}{x:V}{v:Yf}(I:c9 X c6 σ H s)(r:i5 x v)(ty:Ew X.K T x H):
  s.TypeIs v T/\∀a,v= .ref a->∃ob,s.heap.get? a=O ob/\ob.dict=Yj:=by
 cases x with
 |str z=>let⟨t,rfl⟩:=r;cases(show T= "str" from ty);exact⟨VR s z t,nofun⟩|int i=>let⟨t,rfl⟩:=r;cases(show T= "int" from ty);exact⟨Iu s i t,nofun⟩|ref p=>
  cases r
  rcases ty with⟨rfl,xs,hq⟩|⟨rfl,o,hk,hc,hd⟩|⟨rfl,hk⟩|⟨rfl,S,n,hk⟩
  .let⟨c_,_,pl,_⟩:=I.list hq;refine⟨pl.isList.typeIs,λa e=>?_⟩;cases e;let⟨o,n,e,c,hd,_⟩:=pl;exact⟨o,e,hd⟩
  .refine⟨⟨o,I.eZ p o hk,hc⟩,λa e=>?_⟩;cases e;exact⟨o,I.eZ _ o hk,hd⟩
  .have z:∃o,s.heap.get? p=O o/\o.ExactDict:=by
    rcases hk with⟨kvs,hk⟩|⟨kvs,hk⟩
    .let⟨_,_,_,_,o,_,_,e,ex,_⟩:=I.kb p _ hk;exact⟨o,e,ex⟩
    .let⟨_,_,_,_,o,_,_,e,ex,_⟩:=I.kb p _ hk;exact⟨o,e,ex⟩
   let⟨o,e,ex⟩:=z;refine⟨⟨o,e,ex.1⟩,λa e2=>?_⟩;cases e2;exact⟨o,e,ex.2.1⟩
  .let⟨o,_,_,_,e,ex,_⟩:=I.kb p _ hk;refine⟨⟨o,e,ex.1⟩,λa e2=>?_⟩;cases e2;exact⟨o,e,ex.2.1⟩
 |_=>exact gM ty
def SY(K:Yb)(T:String)(r:V->k6->Hp->VK->Prop)(to:TE):TE:=λσ H Q=>to σ H λx H1=>Ew K T x H1/\r x [] H1 Q
def S0(K:Yb)(T:String)(r:V->k6->Hp->VK->Prop)(to:TE)(t:TA):TE:=λσ H Q=>to σ H λx H1=>Ew K T x H1/\t σ H1 λxs H2=>r x xs H2 Q
variable {o e:Expr} {es:pw} {to:TE} {t:TA} {name:ak} {n5 i9:aZ} {T id:String} {r:V->k6->Hp->VK->Prop}
def Zzs(pa:PlainAttrs T)(slot:Slot T name id)(xh:typeOf (.builtin id)=pure (.type "method_descriptor"))(hm:pM X id r)(ho:PE X o to)(qk:rE o name X.env (aU o X.env)=aU o X.env:=by rfl)(qo:(n5.endLine==i9.line)=true:=by rfl):PE X (.Call (.Attribute o name n5) [] [] i9) (SY X.K T r to):=by intro c6 s σ H Q I h;refine wpAny_Call_method0_late qk qo<|aV (ho c6 s σ H _ I h) λv s1 ao=>?_;let⟨x,H1,I1,r1,ty,q1⟩:=ao;let⟨h1,h2⟩:=SW I1 r1 ty;exact⟨T,id,pa,slot,xh,h1,h2,Py aaD<|PySem.evalArgs_none<|hm c6 s1 σ H1 x [] v [] Q I1 r1 .nil q1⟩
def Xi(pa:PlainAttrs T)(slot:Slot T name id)(xh:typeOf (.builtin id)=pure (.type "method_descriptor"))(hm:pM X id r)(ho:PE X o to)(ha:PA X (e::es) t)(qk:rE o name X.env (aU o X.env)=aU o X.env:=by rfl)(ue:((fZ i9<|Y1 (e::es) X.env).all (λx=>!x.1)&&(z7 i9<|zY [] X.env).all (λx=>x.1.isSome)
   &&decide ((e::es).length+([]:List Keyword).length+(if([]:List Keyword).isEmpty then 0 else 1)<30))=true:=by rfl)(qo:(n5.endLine==i9.line)=true:=by rfl)(hs:Y1 (e::es) X.env=(false,aU e X.env)::Y1 es X.env:=by rfl)(qS:(fZ i9<|Y1 es X.env).any (·.1)=false:=by rfl):
  PE X (.Call (.Attribute o name n5) (e::es) [] i9) (S0 X.K T r to t):=by
 intro c6 s σ H Q I h;refine wpAny_Call_method_late qk ue qo aaD<|aV (ho c6 s σ H _ I h) λv s1 ao=>?_;let⟨x,H1,I1,r1,ty,q1⟩:=ao;let⟨h1,h2⟩:=SW I1 r1 ty;refine⟨T,id,pa,slot,xh,h1,h2,?_⟩;have hA:=ha i9 c6 s1 σ H1 _ I1 q1;rw[hs]at hA |-;refine Py (by show(false|| (fZ i9 (Y1 es X.env)).any (·.1))=false;rw[qS]<;>rfl) (Pz ?_);exact aV hA λus s2 ⟨vs,H2,I2,r2,q2⟩=>hm c6 s2 σ H2 x vs v us Q I2 r1 r2 q2
end
end L2
namespace L2
open PySem PySem.Spec PyProof.Rows
def Qo(X:Cx)(id:String)(r:V->k6->Hp->VK->Prop):Prop:=
 ∀(c6:oy) (s:Yi) (σ:St) (H:Hp) (x:V) (xs:k6) (v:Yf) (us:l5) (Q:VK),c9 X c6 σ H s->i5 x v->i3 xs us->r x xs H Q ->
  Y5 (aq X.prog X.w) X.A (call (.builtin id)<|v::us) (EP X c6 σ Q) X.xe s
variable{us:l5}
def i3.one{x:V}(h:i3 [x] us):∃u,us=[u]/\i5 x u:=by
 cases h with
 |cons r h=>cases h;exact⟨_,rfl,r⟩
def i3.zero:∀{us:l5},i3 [] us->us=[]
 |_,.nil=>rfl
variable{xs:k6}
def i3.dropLast(h:i3 xs us):i3 xs.dropLast us.dropLast:=by
 induction h with
 |nil=>exact .nil|cons r t ih=>
  cases t with
  |nil=>exact .nil|cons q t'=>exact .cons r ih
theorem i3.eraseIdx:∀{xs:k6} {us:l5} (i:Nat),i3 xs us->i3 (xs.eraseIdx i) (us.eraseIdx i)
 |_,_,_,.nil=>.nil|_,_,0,.cons _ t=>t|_,_,i+1,.cons r t=>.cons r<|i3.eraseIdx i t
def i3.reverse(h:i3 xs us):i3 xs.reverse us.reverse:=by
 induction h with
 |nil=>exact .nil|cons r t ih=>rw[Nn,Nn];exact i3.append ih<|.cons r .nil
theorem i3.rep(h:i3 xs us):∀k:Nat,i3 (Yg k xs).flatten (Yg k us).flatten
 |0=>.nil|k+1=>by rw[lA,lA,tU,tU];exact i3.append h<|i3.rep h k
def Zqs{α:Type}(l:List α):l.eraseIdx (b9 l-1)=l.dropLast:=by
 induction l with
 |nil=>rfl|cons a r ih=>
  cases r with
  |nil=>rfl|cons b r=>
   have e:(a::b::r).length-1=((b::r).length-1)+1:=by have h1:(a::b::r).length=r.length+2:=rfl;have h2:(b::r).length=r.length+1:=rfl;omega
   rw[e,List.eraseIdx_cons_succ,ih]
   all_goals rfl
theorem Ta{α:Type}:∀(l:List α) (i:Nat),(l.eraseIdx i).length<=l.length
 |[],_=>Yn _|_::_,0=>Wj _|_::r,i+1=>Ja<|Ta r i
def foldl_rep(c_:l5):∀(k:Nat) (acc:l5),
  Ag (λx1 x2=>x1++x2) acc.toArray (Yg k c_.toArray)=(acc++(Yg k c_).flatten).toArray
 |0,acc=>by simp|k+1,acc=>by
  have e:acc.toArray++c_.toArray=(acc++c_).toArray:=by simp
  have e2:(acc++c_)++(Yg k c_).flatten=acc++(Yg (k+1) c_).flatten:=by rw[lA,tU,Y7]
  rw[<-e2,<-foldl_rep c_ k (acc++c_),<-e,lA,qx]
section
variable {X:Cx} {c6:oy} {σ:St} {H:Hp} {s:Yi} {l b:Ys} {xs ys zs:k6}
def c9.HX{c_ its':l5}{n:Nat}{f:qB->qB}{t':Nat}(I:c9 X c6 σ H s)(hH:H l=O (.L xs))(e:s.heap.get? l=O {cls:=.type "list",data:=.seq c_.toArray n})(hf:f c_.toArray=its'.toArray)(hv:i3 ys its')(hz:b9 ys<=bI):
  c9 X c6 σ (k4 H l<|.L ys) {s with heap:=s.heap.update l<|Pu f,toks:=t'}:=by
 have q:=PySem.IsL.update e f;rw[hf]at q;refine I.write (x:=l) (e:=l) (by rw[hH];exact trivial) (.inl aaD) (λb' u hb hu=>(Ed s.heap (Pu f)<|cF hb).trans hu) ⟨_,q⟩ ?_;exact⟨hz,its',_,hv,q⟩
def c9.Tb{c_:l5}{t':Nat}(I:c9 X c6 σ H s)(hv:i3 ys c_)(hz:b9 ys<=bI):
  c9 X c6 σ (k4 H (d4 s)<|.L ys) {s with heap:=s.heap.push {cls:=.type "list",data:=.seq c_.toArray},toks:=t'}:=
 I.laid (λ_ _ q=>Yl _ q) (Yn _) ⟨hz,c_,0,hv,Y6 _ aaD⟩
def c9.fresh(I:c9 X c6 σ H s):H (d4 s)=Yj:=I.kb.fresh<|Yn _
def c9.u_(I:c9 X c6 σ H s)(hH:H l=O (.L xs)):b9 xs<=bI/\∃(c_:l5) (n:Nat),i3 xs c_/\xs.length=b9 c_/\s.heap.get? l=O {cls:=.type "list",data:=.seq c_.toArray n}:=by let⟨z,c_,n,r,e⟩:=I.kb l _ hH;exact⟨z,c_,n,r,r.length,e⟩
def Xj{n:Nat}(h:n<=bI):Ej n=false:=by unfold Ej;exact pf c8
end
section
variable {X:Cx}
def To:V->k6->Hp->VK->Prop:=λx vs H Q=>∃l xs y,x= .ref l/\vs=[y]/\H l=O (.L xs)/\xs.length<bI/\Q .Z (k4 H l<|.L<|xs++[y])
theorem Xk:Qo X "list.append" To:=by intro c6 s σ H x vs v us Q I rx rv h;let⟨l,xs,y,rfl,rfl,hH,hz,q⟩:=h;cases rx;let⟨u,rfl,ru⟩:=rv.one;let⟨z,c_,n,r,hl,e⟩:=I.u_ hH;refine rF F.slot_list_append ⟨_,e,rfl⟩ F.entry_list_append (F.args_list_append_2 _ _) (PySem.list_append l c_.toArray n u BH) ⟨e,?_⟩;refine⟨.Z,_,I.HX (its':=c_++[u]) hH e j0 (r.append<|.cons ru .nil) ?_,rfl,q⟩;rw[Ye,Ab];omega
def Ts:V->k6->Hp->VK->Prop:=λx vs H Q=>∃l b xs zs,x= .ref l/\vs=[.ref b]/\H l=O (.L xs)/\H b=O (.L zs)/\xs.length+b9 zs<=bI/\Q .Z (k4 H l<|.L<|xs++zs)
def Zs1:Qo X "list.extend" Ts:=by
 intro c6 s σ H x vs v us Q I rx rv h;let⟨l,b,xs,zs,rfl,rfl,hH,hB,hz,q⟩:=h;cases rx;let⟨u,rfl,ru⟩:=rv.one;cases ru;let⟨z,c_,n,r,hl,e⟩:=I.u_ hH;let⟨z2,oQ,n2,r2,sP,e2⟩:=I.u_ hB;have hsz:c_.toArray.size+oQ.toArray.size<=bI:=by rw[Yq,Yq];omega
 have HW:¬(!c_.toArray.isEmpty&&Ej (c_.toArray.size+oQ.toArray.size))=true:=by rw[Xj hsz,Eh];exact lZ
 refine rF OQ ⟨_,e,rfl⟩ OP (ON _ _)
  (AutoSeq1.list_extend_list_list_0 l c_.toArray n b oQ.toArray n2 HW BH c8) ⟨e,e2,?_⟩
 refine⟨.Z,_,I.HX (its':=c_++oQ) hH e j0 (r.append r2) ?_,rfl,q⟩;rwa[Ye]
def Tx:V->k6->Hp->VK->Prop:=λx vs H Q=>∃l xs y,x= .ref l/\vs=[]/\H l=O (.L xs)/\xs[b9 xs-1]?=O y/\Q y (k4 H l<|.L xs.dropLast)
theorem ZzJ:Qo X "list.pop" Tx:=by
 intro c6 s σ H x vs v us Q I rx rv h;let⟨l,xs,y,rfl,rfl,hH,hy,q⟩:=h;cases rx;have hus:=rv.zero;subst hus;let⟨z,c_,n,r,hl,e⟩:=I.u_ hH;let⟨u,hu,ru⟩:=r.get hy;have ER:c_.toArray[c_.toArray.size-1]?=O u:=by show c_.toArray[b9 c_-1]?=O u;rwa[<-Ww,<-hl]
 refine rF OV ⟨_,e,rfl⟩ OT (F.args_list_pop_1 _) (MeetsSeq.list_pop_last l c_.toArray n u ER BH) ⟨e,?_⟩;refine⟨y,_,I.HX (its':=c_.dropLast) hH e ?_ r.dropLast ?_,ru,q⟩
 .show c_.toArray.eraseIdxIfInBounds (c_.toArray.size-1)=c_.dropLast.toArray;rw[Yq,MM,Zqs]
 .rw[List.length_dropLast];exact Yx (Wk _ _) z
def TB:V->k6->Hp->VK->Prop:=λx vs H Q=>∃l xs i k y,x= .ref l/\vs=[.int i]/\H l=O (.L xs)/\ -(2^63)<=i/\i<2^63/\V2 i (b9 xs)=O k/\xs[k]?=O y/\Q y (k4 H l<|.L<|xs.eraseIdx k)
theorem ZuK:Qo X "list.pop" TB:=by
 intro c6 s σ H x vs v us Q I rx rv h;let⟨l,xs,i,k,y,rfl,rfl,hH,h1,h2,hk,hy,q⟩:=h;cases rx;let⟨u,rfl,ru⟩:=rv.one;let⟨t,rfl⟩:=ru;let⟨z,c_,n,r,hl,e⟩:=I.u_ hH;let⟨w,hw,jN⟩:=r.get hy;refine rF OV ⟨_,e,rfl⟩ OT (F.args_list_pop_2 _ _)
  (MeetsSeq.list_pop_at l c_.toArray n i t k w (fitsIndex_both h1 h2) (by rwa[Yq,<-hl]) (by rwa[<-Ww]) BH) ⟨e,?_⟩
 refine⟨y,_,I.HX (its':=c_.eraseIdx k) hH e ?_ (r.eraseIdx k) ?_,jN,q⟩
 .show c_.toArray.eraseIdxIfInBounds k=(c_.eraseIdx k).toArray;rw[MM]
 .have:=Ta xs k;exact Yx this z
def Ae5:R2:=λx y H Q=>∃l b xs zs,x= .ref l/\y= .ref b/\H l=O (.L xs)/\H b=O (.L zs)/\xs.length+b9 zs<=bI/\∀p,H p=Yj->Q (.ref p) (k4 H p<|.L<|xs++zs)
def ZzQ:aY X (jh .Add) Ae5:=by
 intro c6 s σ H x y v u Q I rx ry h;let⟨l,b,xs,zs,rfl,rfl,hH,hB,hz,q⟩:=h;cases rx;cases ry;let⟨z,c_,n,r,hl,e⟩:=I.u_ hH;let⟨z2,oQ,n2,r2,sP,e2⟩:=I.u_ hB;refine PySem.P.add_list e e2 ?_ (by rw[Yq,Yq];omega);have ea:c_.toArray++oQ.toArray=(c_++oQ).toArray:=by simp
 rw[ea];exact⟨.ref _,_,I.Tb (t':=s.toks) (r.append r2) (by rwa[Ye]),rfl,q _ I.fresh⟩
def Ae6:R2:=λx y H Q=>∃l k xs,x= .ref l/\y= .int k/\H l=O (.L xs)/\ -(2^63)<=k/\k<2^63/\xs.length*k.toNat<=bI/\
 ∀p,H p=Yj->Q (.ref p) (k4 H p<|.L (Yg k.toNat xs).flatten)
def len_rep{α:Type}(xs:List α)(k:Nat):(Yg k xs).flatten.length=k*b9 xs:=by
 induction k with
 |zero=>simp|succ k ih=>rw[lA,tU,Ye,ih,Nat.succ_mul,Ai]
theorem Zzn:aY X (jh .Mult) Ae6:=by
 intro c6 s σ H x y v u Q I rx ry h;let⟨l,k,xs,rfl,rfl,hH,h1,h2,hz,q⟩:=h;cases rx;let⟨t,rfl⟩:=ry;let⟨z,c_,n,r,hl,e⟩:=I.u_ hH;have i7:c_.toArray.size*k.toNat<=bI:=by rwa[Yq,<-hl]
 have Ae7:¬c_.toArray.size*k.toNat>(2^63-1) / 8:=by
  have:(bI:Nat)<=(2^63-1) / 8:=by decide
  omega
 have yB:¬(!Builtin.List.listFitsIndex k)=true:=by rw[fitsIndex_both h1 h2];exact lZ
 have HW:¬Ej (c_.toArray.size*k.toNat)=true:=by rw[Xj i7];exact lZ
 have s_:Ag (λx1 x2=>x1++x2) #[] (Yg (if c_.toArray.isEmpty=true then 0 else k.toNat) c_.toArray)=(Yg k.toNat c_).flatten.toArray:=by
  have f0:∀m:Nat,Ag (λx1 x2=>x1++x2) #[] (Yg m c_.toArray)=(Yg m c_).flatten.toArray:=λm=>by have:=foldl_rep c_ m [];rwa[qy]at this
  rw[f0];cases c_ with
  |nil=>simp|cons a r'=>rw[i6 j0]
 refine L4 (T:="list") (U:="int") aaE ⟨_,e,rfl⟩ (λs'=>Iu s' k t) noFill_list_mul F.fills_int_mul OW repeat_list F.slot_int_index.lookup
  (rF OW (Iu s k t) F.entry_int_rmul (F.args_int_rmul_2 _ _) (int___rmul___int_list k t l c_.toArray n)
   ⟨e,rfl,⟨_,e,rfl⟩,rF F.slot_list_mul ⟨_,e,rfl⟩ F.entry_list_mul (F.args_list_mul_2 _ _) (AutoListH.list___mul___list_int_3 l c_.toArray n k t yB Ae7 HW) ⟨e,?_⟩⟩)
 rw[s_];exact⟨.ref _,_,I.Tb (t':=s.toks) (r.rep k.toNat) (by rwa[len_rep,Nat.mul_comm]),rfl,q _ I.fresh⟩
end
end L2
namespace TH
open PySem PySem.W PySem.Calls PyProof.Rows
def ZkW{P:Params}{h:aF}:∀(ns:l8) (vs:l5),WellAll P h vs (ns.map WData.int)->IntsAre vs ns:=by
 intro ns
 induction ns with
 |nil=>intro vs w;rw[rH]at w;cases w;exact .nil|cons n ns ih=>
  intro vs w;rw[Y2]at w;cases w with
  |cons a b=>
   cases a
   exact .cons _ _<|ih _ b
def ZtT{l:OpenLaw}{n:Nat}(hn:l.most=O n){P:Params}{h:aF}{args:List WData}{vals:l5}(ui:l.row.toRowW.claim.pre args=true)(ES:WellAll P h vals args):
  ∃a vs ns,vals=[Value.ref a]/\args=[WData.list<|ns.map WData.int]/\h.get? a=O {cls:=.type "list",data:=.seq vs.toArray}/\IntsAre vs ns/\ns.length<=n:=by
 have hsh:WShape.hasAll [] args [.list .int]=true:=(pre_splitW ui).1;have hc:l.pre.holds [] {args:=args}=true:=(pre_splitW ui).2;let⟨d,r,rfl,h1,h2⟩:=hasAllW_cons hsh;obtain rfl:=hasAllW_nil h2;let⟨xs,rfl,h3⟩:=hasW_list h1;let⟨ns,rfl⟩:=items_int h3;have i7:b9 ns<=n:=by
  unfold OpenLaw.pre at hc;have h4:(WTm.not<|.lt (.lit<|.int (n:Int))<|.len<|.arg 0).holds [] {args:=[.list<|ns.map .int]}=true:=by have h4:=(holds_andW hc).1;rwa[hn]at h4
  have h5:=condW_of h4<|w_not<|w_lt w_lit<|w_len_list<|w_arg aaD;rw[Y3]at h5;refine tY λq=>?_;have q':(n:Int)<((b9 ns:Nat):Int):=by exact Wq.2 q
  first
   |(rw[qc q']at h5;exact oz h5 aaE)
   |(simp at h5;omega)
 cases ES with
 |cons w1 w2=>
  cases w2
  cases w1 with
  |list ho uj=>exact⟨_,_,ns,rfl,rfl,ho,ZkW ns _ uj,i7⟩
def Ztq(l:OpenLaw)(args:List WData):l.row.toRowW.claim.post args (.bool true) args=true:=
 postW_of (r:=l.row.toRowW) (X:=(true==true))
  (show WShape.has [] (.bool true) .bool=true by first|rfl|decide|simp[WShape.has,WShape.arms,WShape.armsAll])
  (show(WTm.eq .res<|.lit<|.bool true).value [] {args:=args,res:=O<|.bool true,after:=args}=O (.bool<|true==true)from w_eq_bool (w_res aaD) w_lit) aaD
def Ack{l:OpenLaw}{n:Nat}{q:Y8}{loose:oB}{XP:(ak->oo)->aF->Prop}{YP:aX->aF->Prop}{d:DefRec}(hn:l.most=O n)(BQ:d.params.defaults=[])(call:∀(w:aX) (s₀ s₁:Yi) (mg mb:ak->oo) (fa:Ys) (o:aJ) (pm cd doc:Yf) (a:Ys) (vs:l5) (ns:l8),
   Ground q loose [] XP w s₀ mg mb s₁.heap->YP w s₁.heap ->
   s₁.heap.get? fa=O o->o.data= .func (docDef d.name d.params d.body d.scope pm cd doc)->s₁.heap.CodeRec cd d.name->mg d.name=O (.ref fa) ->
   s₁.heap.get? a=O {cls:=.type "list",data:=.seq vs.toArray}->IntsAre vs ns->b9 ns<=n->s₁.gens= #[] ->
   mV (aq l.prog w) xN (.call (.ref fa) ⟨[.ref a],[]⟩) (λr s'=>r= .ok (.ret<|.bool true)/\OldK s₁.heap s'.heap/\s'.os=s₁.os/\t8 s'.gens) s₁):
  WalkO q loose XP YP l.row.toRowW d [] (λf vs=>VV f vs):=by
 intro w s₀ s₁ mg mb G Y fa o pm cd doc dV kV ho hd vt hD BS hg args vals as ui hlay hrd ES hlo;obtain rfl:dV= .none:=Dflts.none hD BQ;obtain rfl:kV= .none:=Dflts.noKw hD;let⟨a,vs,ns,rfl,rfl,AN,hints,i7⟩:=ZtT hn ui ES;refine enter_call<|DN (call w s₀ s₁ mg mb fa o pm cd doc a vs ns G Y ho (fd_plain hd) vt BS AN hints i7 hg) λr s' hq=>?_;let⟨rfl,h2,h3,h4⟩:=hq;exact⟨.inl ⟨.bool true,.bool true,[],rfl,λ_=>rfl,.bool true,Ztq l _,λ_=>⟨List.Pairwise.nil,λ_ hm=>(nomatch hm)⟩⟩,h2,h3,h4⟩
end TH
namespace L2
open PySem PySem.Spec PyProof.Rows
theorem TK:∀{vs:l5} {ns:l8},IntsAre vs ns->i3 (ns.map V.int) vs
 |_,_,.nil=>.nil|_,_,.cons n t h=>.cons ⟨t,rfl⟩<|TK h
def AO(H:Hp):Prop:=∀b,H b=Yj\/∃o xs,H b=O (.fO o<|.L xs)
def Zvj{P:Y8}{w:aX}{K:Yb}{mg mb:ak->oo}{CX:qG}{k:Nat}{fa a:Ys}{fd:mU}{x:ak}{sp:Sp}{s₁:Yi}{vs:l5}{ns:l8}(KX:K.In s₁.heap)(yi:s₁.heap.Ns dI mg)(hb:s₁.heap.Ns VJ mb)(A7:∀x:ak,x≠ "__name__" ->mb x=j_ x)(vE:s₁.heap.NoLimit)(hg:s₁.gens= #[])(ha:s₁.heap.get? a=O {cls:=.type "list",data:=.seq vs.toArray})(hi:IntsAre vs ns)(hl:b9 ns<=bI)(hr:dN k xN)(F:∀base:aF,K.In base->base.Ns dI mg->iM P w K mg base CX k fa fd [x] sp)(BU:∀(s:Yi) (u:Yf),DR s fd ⟨[u],[]⟩ [(x,u)])(u7:∀H:Hp,AO H->dm K H a (ns.map V.int)->sp [.ref a] H (λv _=>v= .bl true) λ_ _ _=>False)(Xl:∀H e s',CX [] H s₁ (λ_ _ _=>False) e s'->False):
  mV (aq P w) xN (.call (.ref fa) ⟨[.ref a],[]⟩) (λr s'=>r= .ok (.ret<|.bool true)/\OldK s₁.heap s'.heap/\s'.os=s₁.os/\t8 s'.gens) s₁:=by
 have rv:=TK hi;have ET:=hi.length;have core:∀H:Hp,AO H->dm K H a (ns.map V.int)->eY P w H s₁.heap->(∀b,H b≠Yj->b=a)->(H a≠Yj->K.lookup a=Yj) ->
   mV (aq P w) xN (.call (.ref fa) ⟨[.ref a],[]⟩) (λr s'=>r= .ok (.ret<|.bool true)/\OldK s₁.heap s'.heap/\s'.os=s₁.os/\t8 s'.gens) s₁:=by
  intro H hO hS kb hA hK;have TL:∀{b:Ys} {o:aJ},s₁.heap.get? b=O o->H b=Yj->(vQ s₁.heap H).get? b=O o:=λe n=>Zu1 e n;have Jm:∀{b:Ys} {o:aJ} {es:Array DictEntry} {ep:Nat},s₁.heap.get? b=O o->o.data= .dict es ep->H b=Yj:=λ{b o es ep} e d=>by
   cases q:H b with
   |none=>rfl|some u=>have e':b=a:=hA b (by rw[q];simp);subst e';rw[ha]at e;cases e;have d':Data.seq vs.toArray _=Data.dict es ep:=d;cases d'
  have Qq:∀{b:Ys} {m:ak->oo},s₁.heap.Ns b m->(vQ s₁.heap H).Ns b m:=λ{b m} ⟨o,es,ep,e,d,r⟩=>⟨o,es,ep,TL e<|Jm e d,d,r⟩;have TM:K.In (vQ s₁.heap H):=λb o e=>TL (KX b o e) (by
   cases q:H b with
   |none=>rfl|some u=>have e':b=a:=hA b (by rw[q];simp);subst e';rw[hK (by rw[q];simp)]at e;cases e)
  have hM:Mod K mg (vQ s₁.heap H):=⟨TM,Qq yi,⟨mb,Qq hb,A7⟩,let⟨hb',h1,h2⟩:=vE;⟨hb',Qq h1,h2⟩⟩;have e0:uf P w K mg (vQ s₁.heap H) xN [] s₁ H:=⟨rfl,hM,λb o e=>Zyf e,xX<|ZsF _ _,trivial,λb hb=>oz (show b∈([]:l6)from hb) j0,kb,.of_eq hg⟩;refine DN ((F _ TM<|Qq yi).run xN [] s₁ H ⟨[.ref a],[]⟩ [.ref a] [.ref a] _ _ hr e0 (BU s₁<|.ref a) (.cons aaD .nil)<|u7 H hO hS) λr s' h=>?_;cases r with
  |error e=>exact(Xl H e s' h).elim|ok fl=>
   cases fl with
   |next=>exact gM h|brk=>exact gM h|cont=>exact gM h|ret u=>
    let⟨v,H',os,bare,un,EU,r',q⟩:=h;have q':v= .bl true:=q;subst q';obtain rfl:u=Value.bool true:=r';refine⟨rfl,OldK.of_keep λb o e=>?_,os,bare⟩;cases q:H b with
    |none=>exact un.keep b o e q (by intro z;exact oz (show b∈([]:l6)from z) j0) (by simp)|some u=>
     rcases hO b with z|⟨ob,xs,z⟩
     .rw[q]at z;cases z
     .have z2:=un.nR b ob _ z;let⟨e1,_⟩:=kb b _ z;let⟨e2,_⟩:=EU b _ z2;rw[e]at e1;cases e1;exact e2
 cases hk:K.lookup a with
 |some o=>have e:=KX a o hk;rw[ha]at e;cases e;refine core (λ_=>Yj) (λ_=>.inl aaD) (.inr ⟨_,vs.toArray,_,hk,rfl,rfl,rfl,by rwa[Yq,ET],by simpa using rv⟩) (λb u z=>by have z':(Yj:Option HO)=O u:=z;cases z') (λb z=>oz aaD z) λz=>oz aaD z|none=>
  refine core (λb=>if b=a then O (.fO {cls:=.type "list",data:=.seq vs.toArray}<|.L<|ns.map V.int)else Yj) (λb=>?_) (.inl<|.inr ⟨{cls:=.type "list",data:=.seq vs.toArray},f_ aaD⟩) (λb u z=>?_) (λb z=>?_) λ_=>hk
  .by_cases hb:b=a
   .exact .inr ⟨_,_,f_ hb⟩
   .exact .inl<|i6 hb
  .by_cases hb:b=a
   .have z':=(f_ hb).symm.trans z;cases z';subst hb;exact⟨ha,by rwa[Y3],vs,_,rv,ha⟩
   .have z':=(i6 hb).symm.trans z;cases z'
  .by_cases hb:b=a
   .exact hb
   .exact oz (i6 hb) z
end L2
namespace L2
open PySem PySem.Spec PyProof.Rows
def Zsu{l:PySem.W.OpenLaw}{n k:Nat}{q:Y8}{loose:oB}{XP:(ak->oo)->aF->Prop}{YP:aX->aF->Prop}{d:DefRec}{K:Params->Yb}{CX:aX->qG}{sp:aX->Sp}{x:ak}(hn:l.most=O n)(BM:n<=bI)(BQ:d.params.defaults=[])(hr:dN k xN)(hY:∀(w:aX) (h:aF),YP w h->(K w.params).In h)(F:∀(w:aX) (mg:ak->oo) (fa:Ys) (h:aF),(K w.params).In h->h.Ns dI mg->mg d.name=O (.ref fa) ->
   ∃fd:mU,(∀(s:Yi) (u:Yf),DR s fd ⟨[u],[]⟩ [(x,u)])/\
    ∀base:aF,(K w.params).In base->base.Ns dI mg->iM l.prog w (K w.params) mg base (CX w) k fa fd [x] (sp w))(u7:∀(w:aX) (H:Hp) (a:Ys) (ns:l8),b9 ns<=n->AO H->dm (K w.params) H a (ns.map V.int)->sp w [.ref a] H (λv _=>v= .bl true) λ_ _ _=>False)(Xl:∀(w:aX) (H:Hp) (s:Yi) (e:Yf) (s':Yi),CX w [] H s (λ_ _ _=>False) e s'->False):
  L0 q loose XP YP l.row.toRowW d [] (λf vs=>VV f vs):=by
 refine TH.Ack hn BQ λw s₀ s₁ mg mb fa o pm cd doc a vs ns G Y ho hd vt BS AN hints i7 hg=>?_;have KX:=hY w _ Y;let⟨fd,hb,hF⟩:=F w mg fa _ KX G.T.g BS;exact Zvj KX G.T.g G.T.b G.T.builtins G.T.nolimit hg AN hints (Yx i7 BM) hr hF hb (λH hO hS=>u7 w H a ns i7 hO hS) λH e s'=>Xl w H s₁ e s'
end L2
namespace L2
open PySem PySem.Spec PyProof.Rows
def nq(s:Ye1):Arguments:=match s with
 | .FunctionDef _ a _ _ _ _ _ _ _ _=>a|_=>{posonlyargs:=[],args:=[],vararg:=Yj,kwonlyargs:=[],kw_defaults:=[],kwarg:=Yj,defaults:=[]}
def jq(s:Ye1):rq:=match s with
 | .FunctionDef _ _ b _ _ _ _ _ _ _=>b|_=>[]
def Zq(s:Ye1):Scope:=match s with
 | .FunctionDef _ _ _ _ _ _ sc _ _ _=>sc|_=>{kind:=.function,names:=[],isGenerator:=false,isCoroutine:=false}
abbrev l_:qG:=λ_ _ _ _ _ _=>False
abbrev E0:XK:=λ_ _ _=>False
def TN{X:Cx}:Jl l_ X E0:=λ_ _ _ _ _ _ _ h=>h.elim
structure rP(K:Yb)(x qual:ak)(st:Ye1)(f:Ys)(fd:mU):Prop where
 ex:∃(oc:Yf) (od:qA) (dV kV doc pm:Yf) (an:qA) (oj ct:Yf) (t9:Array oo),
  fd=qt x qual (nq st) (jq st) (Zq st) dV kV doc pm an oj ct/\K.lookup f=O ⟨oc,od,.func fd,t9⟩/\Dw K oj qual=true
 kp:rC K (.ref f)=true
section
variable {P:Y8} {w:aX} {K:Yb} {mg:ak->oo} {base:aF}
theorem rP.ok{x qual:ak}{st:Ye1}{f:Ys}{fd:mU}{N ps:oB}{k:Nat}{sp:Sp}(F:rP K x qual st f fd)(S:bZ N ps (Zq st))(len:∀vs H Q E,sp vs H Q E->b9 vs=b9 ps)(xf:∀(oj:Yf) (A:cC) (outer:rL) (s:Yi) (H:Hp) (vs:k6) (Q:VK) (E:XK),dN k (A.deeper<|mY qual (Zq st) (d4 s) f oj)->sp vs H Q E ->
   ∃t,kj (pK l_ P w K mg base N qual (Zq st) f oj A outer s H E).iC (jq st) t/\t {nx:=λ_ H'=>Q .Z H',rt:=Q} (start N vs) H):iM P w K mg base l_ (k+1) f fd ps sp:=by
 let⟨oc,od,dV,kV,doc,pm,an,oj,ct,t9,rfl,lk,vt⟩:=F.ex;refine SA lk vt S len λA outer s H vs Q E hr u7=>?_;let⟨t,h,q⟩:=xf oj A outer s H vs Q E hr u7;exact⟨t,h.iC,q⟩
theorem rP.binds{x qual:ak}{st:Ye1}{f:Ys}{fd:mU}{ps:oB}(F:rP K x qual st f fd)(h:∀(dV kV doc pm:Yf) (an:qA) (oj ct:Yf) (us:l5),b9 us=b9 ps->bindArgs (qt x qual (nq st) (jq st) (Zq st) dV kV doc pm an oj ct) ⟨us,[]⟩=pure (ps.zip us)):Binds K fd ps []:=by let⟨oc,od,dV,kV,doc,pm,an,oj,ct,t9,rfl,lk,vt⟩:=F.ex;exact .all<|h dV kV doc pm an oj ct
def TR{x qual:ak}{st:Ye1}{f:Ys}{oc:Yf}{od an:qA}{t9:Array oo}{dV kV doc pm oj ct:Yf}(l:K.lookup f=O ⟨oc,od,.func<|qt x qual (nq st) (jq st) (Zq st) dV kV doc pm an oj ct,t9⟩)(c:Dw K oj qual=true)(k:rC K (.ref f)=true):rP K x qual st f (qt x qual (nq st) (jq st) (Zq st) dV kV doc pm an oj ct):=⟨⟨oc,od,dV,kV,doc,pm,an,oj,ct,t9,rfl,l,c⟩,k⟩
end
end L2
namespace L2
open PySem PySem.Spec PyProof.Rows
variable{o:Option V}{u:Yf}
section
variable {κ:Type} [DecidableEq κ]
def lE(kvs:List (κ×V))(k:κ):Option V:=(kvs.find? λkv=>decide<|kv.1=k).map (·.2)
def putK(kvs:List (κ×V))(k:κ)(v:V):List (κ×V):=if(kvs.any λkv=>decide<|kv.1=k)=true then kvs.map (λkv=>if kv.1=k then(kv.1,v)else kv)else kvs++[(k,v)]
def Zu0{k:κ}:lE ([]:List (κ×V)) k=Yj:=rfl
def Qs{p:κ×V}{r:List (κ×V)}{k:κ}(e:p.1=k):lE (p::r) k=O p.2:=by simp[lE,Ec,e]
def Qt{p:κ×V}{r:List (κ×V)}{k:κ}(e:¬p.1=k):lE (p::r) k=lE r k:=by simp[lE,Ec,e]
theorem TU(k:κ):∀kvs:List (κ×V),(kvs.any λkv=>decide<|kv.1=k)=(lE kvs k).isSome
 |[]=>rfl|p::r=>by
  rw[nZ];by_cases e:p.1=k
  .simp only[Qs e,qc e,Bool.true_or,LL]
  .rw[Qt e,pf e,O9];exact TU k r
def Xm(kvs:List (κ×V))(k:κ)(v:V):(putK kvs k v).length<=b9 kvs+1:=by
 unfold putK;split
 .rw[Y3];exact xW _ _
 .rw[Ye,Yh,gw];omega
def kh.AcW{u:oo}(r:kh o u):o.isSome=u.isSome:=by
 cases o with
 |none=>cases u with
  |none=>rfl|some _=>exact(show False from r).elim
 |some _=>cases u with
  |none=>exact(show False from r).elim|some _=>rfl
def kh.getD{u:oo}{d:V}{d':Yf}(r:kh o u)(rd:i5 d d'):i5 (o.getD d) (u.getD d'):=by
 cases o with
 |none=>cases u with
  |none=>exact rd|some _=>exact(show False from r).elim
 |some _=>cases u with
  |none=>exact(show False from r).elim|some _=>exact r
def KV.val{kvs:List (κ×V)}{vs:List (κ×Yf)}(r:KV kvs vs)(k:κ):kh (lE kvs k) (z9 vs k):=by
 unfold KV at r
 induction r with
 |nil=>exact True.intro|@cons p q ps qs h t ih=>
  let⟨h1,h2⟩:=h;by_cases e:p.1=k
  .have e':q.1=k:=h1.symm.trans e;have b:z9 (q::qs) k=O q.2:=by simp[z9,Ec,e']
   rwa[Qs e,b]
  .have e':¬q.1=k:=λz=>e<|h1.trans z;have b:z9 (q::qs) k=z9 qs k:=by simp[z9,Ec,e']
   rwa[Qt e,b]
def KV.any{kvs:List (κ×V)}{vs:List (κ×Yf)}(r:KV kvs vs)(k:κ):(kvs.any λkv=>decide<|kv.1=k)=vs.any λkv=>decide<|kv.1=k:=by
 unfold KV at r
 induction r with
 |nil=>rfl|cons h t ih=>rw[nZ,nZ,ih,h.1]
def KV.vF{kvs:List (κ×V)}{vs:List (κ×Yf)}(r:KV kvs vs)(k:κ){y:V}(ry:i5 y u):
  KV (kvs.map λkv=>if kv.1=k then(kv.1,y)else kv) (vs.map λkv=>if kv.1=k then(kv.1,u)else kv):=by
 unfold KV at r |-
 induction r with
 |nil=>exact .nil|@cons p q ps qs h t ih=>
  rw[Y2,Y2];refine .cons ?_ ih;let⟨h1,h2⟩:=h;by_cases e:p.1=k
  .rw[f_ e,f_<|h1.symm.trans e];exact⟨h1,ry⟩
  .rw[i6 e,i6 λz=>e<|h1.trans z];exact⟨h1,h2⟩
def KV.put{kvs:List (κ×V)}{vs:List (κ×Yf)}(r:KV kvs vs)(k:κ){y:V}(ry:i5 y u):KV (putK kvs k y) (vD vs k u):=by
 unfold putK vD;rw[r.any k];by_cases e:(vs.any λkv=>decide<|kv.1=k)=true
 .rw[f_ e,f_ e];exact r.vF k ry
 .rw[i6 e,i6 e];exact Paired.snoc r ⟨rfl,ry⟩
def KV.length{kvs:List (κ×V)}{vs:List (κ×Yf)}(r:KV kvs vs):b9 kvs=b9 vs:=WQ r
end
variable{w:aX}
def Ey{P:Y8}{k:Key}(r:i5 (kV k) u):(gj P w).is k u=true:=by
 cases k with
 |inl i=>let⟨t,e⟩:=(show∃t,u=Value.int i t from r);subst e;exact ZoF P w i t|inr x=>let⟨t,e⟩:=(show∃t,u=Value.str x t from r);subst e;exact Zo4 P w x t
theorem TZ{P:Y8}{w:aX}:∀{ks:tf} {us:l5},i3 (ks.map kV) us->ItemsAre (gj P w) ks us
 |[],_,r=>by rw[rH]at r;cases r;exact .nil|k::ks,_,r=>by
  rw[Y2]at r;cases r with
  |cons h t=>exact .cons (Ey h)<|TZ t
abbrev KT(H:Hp):List (tf×V)->List (tf×Ys×Yf)->Prop:=Paired λp q=>p.1=q.1/\H q.2.1=O (.U<|p.1.map kV)/\i5 p.2 q.2.2
variable{H:Hp}{xs:List (tf×Ys×Yf)}{kvs:List (tf×V)}
def KT.val(r:KT H kvs xs)(k:tf):kh (lE kvs k) ((vG xs k).map (·.2)):=by
 induction r with
 |nil=>exact True.intro|@cons p q ps qs h t ih=>
  let⟨h1,_,h2⟩:=h;by_cases e:p.1=k
  .have e':q.1=k:=h1.symm.trans e;have b:vG (q::qs) k=O q.2:=by simp[vG,Ec,e']
   rwa[Qs e,b]
  .have e':¬q.1=k:=λz=>e<|h1.trans z;have b:vG (q::qs) k=vG qs k:=by simp[vG,Ec,e']
   rwa[Qt e,b]
def KT.vF(r:KT H kvs xs)(k:tf){y:V}(ry:i5 y u):
  KT H (kvs.map λkv=>if kv.1=k then(kv.1,y)else kv) (xs.map<|putAt k u):=by
 induction r with
 |nil=>exact .nil|@cons p q ps qs h t ih=>
  rw[Y2,Y2];refine .cons ?_ ih;let⟨h1,h2,h3⟩:=h;unfold putAt;by_cases e:p.1=k
  .rw[f_ e,f_<|h1.symm.trans e];exact⟨h1,h2,ry⟩
  .rw[i6 e,i6 λz=>e<|h1.trans z];exact⟨h1,h2,h3⟩
def KT.put(r:KT H kvs xs)(k:tf){b:Ys}{y:V}(hb:H b=O (.U<|k.map kV))(ry:i5 y u):
  KT H (putK kvs k y) (storedH xs k b u):=by
 have e:(kvs.any λkv=>decide<|kv.1=k)=(vG xs k).isSome:=by rw[TU,(r.val k).AcW,Option.isSome_map]
 unfold putK storedH;rw[e];by_cases q:(vG xs k).isSome=true
 .rw[f_ q,f_ q];exact r.vF k ry
 .rw[i6 q,i6 q];exact Paired.snoc r ⟨rfl,hb,ry⟩
def KT.keeps{H':Hp}(r:KT H kvs xs)(ht:∀b ys,H b=O (.U ys)->H' b=O (.U ys)):KT H' kvs xs:=Paired.U8 r λ_ _ z=>⟨z.1,ht _ _ z.2.1,z.2.2⟩
section
variable {P:Y8} {w:aX} {H:Hp} {h:aF} {a:Ys}
def T2{u:HO}(ok:eY P w H h)(e:Rd H a u):gC P w H h a u:=e.ok ok
def Ez{kvs:sv}(ok:eY P w H h)(e:Rd H a (.dK kvs)):b9 kvs<=bI/\(a==tO)=false/\∃vs,KV kvs vs/\h.DictOf (gj P w) a vs:=show gC P w H h a (.dK kvs)from T2 ok e
def Ae8{kvs:sv}(ok:eY P w H h)(e:H a=O (.dK kvs)):b9 kvs<=bI/\(a==tO)=false/\∃vs,KV kvs vs/\h.DictOf (gj P w) a vs:=Ez ok<|.inl e
def Qu{ks:tf}(ok:eY P w H h)(e:H a=O (.U<|ks.map kV)):(DQ<|gj P w).is h ks a:=by let⟨_,c_,r,o,h1,h2,n,h3⟩:=(show gC P w H h a (.U<|ks.map kV)from ok a _ e);exact⟨o,c_.toArray,n,h1,h2.1,h3,by simpa using TZ r⟩
def Jr(ok:eY P w H h)(e:Rd H a (.dT kvs)):b9 kvs<=bI/\(a==tO)=false/\
  ∃xs,KT H kvs xs/\h.DictOfH (DQ<|gj P w) a xs:=by
 let⟨z,y,xs,r,o,es,ep,h1,h2,h3,h4,h5⟩:=(show gC P w H h a (.dT kvs)from T2 ok e);refine⟨z,y,xs,r,o,es,ep,h1,h2,h3,h4,λx hx=>?_,h5⟩;have all:∀{l:List (tf×V)} {m:List (tf×Ys×Yf)},KT H l m->∀x∈m,(DQ<|gj P w).is h x.1 x.2.1:=by
  intro l m q
  induction q with
  |nil=>intro x hx;exact nomatch hx|@cons p q ps qs hq t ih=>
   intro x hx;rcases Yt.mp hx with e|hx
   .subst e;exact Qu ok (by rw[<-hq.1];exact hq.2.1)
   .exact ih x hx
 exact all r x hx
def Ae9(ok:eY P w H h)(e:H a=O (.dT kvs)):b9 kvs<=bI/\(a==tO)=false/\
  ∃xs,KT H kvs xs/\h.DictOfH (DQ<|gj P w) a xs:=Jr ok<|.inl e
end
def vY(H:Hp)(a:Ys)(y:V)(r:Option V):Prop:=(∃kvs k,Rd H a (.dK kvs)/\y=kV k/\r=lE kvs k)\/∃kvs k b,Rd H a (.dT kvs)/\y= .ref b/\H b=O (.U<|k.map kV)/\r=lE kvs k
def yo(H:Hp)(a:Ys)(y v:V)(H':Hp):Prop:=
 (∃kvs k,H a=O (.dK kvs)/\y=kV k/\kvs.length<bI/\H'=k4 H a (.dK<|putK kvs k v))\/
 ∃kvs k b,H a=O (.dT kvs)/\y= .ref b/\H b=O (.U<|k.map kV)/\kvs.length<bI/\H'=k4 H a (.dT<|putK kvs k v)
def vY.k{H:Hp}{a:Ys}{kvs:sv}{k:Key}(e:H a=O (.dK kvs)):vY H a (kV k) (lE kvs k):=.inl ⟨kvs,k,.inl e,rfl,rfl⟩
def vY.t{a b:Ys}{k:tf}(e:H a=O (.dT kvs))(eb:H b=O (.U<|k.map kV)):vY H a (.ref b) (lE kvs k):=.inr ⟨kvs,k,b,.inl e,rfl,eb,rfl⟩
def yo.k{H:Hp}{a:Ys}{kvs:sv}{k:Key}{v:V}(e:H a=O (.dK kvs))(hl:b9 kvs<bI):yo H a (kV k) v (k4 H a<|.dK<|putK kvs k v):=.inl ⟨kvs,k,e,rfl,hl,rfl⟩
def yo.t{a b:Ys}{k:tf}{v:V}(e:H a=O (.dT kvs))(eb:H b=O (.U<|k.map kV))(hl:b9 kvs<bI):
  yo H a (.ref b) v (k4 H a<|.dT<|putK kvs k v):=.inr ⟨kvs,k,b,e,rfl,eb,hl,rfl⟩
variable{Q:Yf->Yi->Prop}
section
variable {X:Cx} {c6:oy} {σ:St} {H:Hp} {s:Yi} {a:Ys} {y v:V} {u r:Yf} {o:Option V} {A:cC} {E:Yf->Yi->Prop}
def c9.big(I:c9 X c6 σ H s):tO<d4 s:=by have h:dI<d4 s:=(I.mod.glob.keeps I.bk).lt;exact j4 aaE h
def Ztj(hu:A.units+1<fH)(I:c9 X c6 σ H s)(g:vY H a y (O v))(ry:i5 y u)(h:∀w' s',c9 X c6 σ H s'->i5 v w'->Q w' s'):
  Y5 (aq X.prog X.w) A (tR (.ref a) u) Q E s:=by
 rcases g with⟨kvs,k,e,ey,l⟩|⟨kvs,k,b,e,ey,eb,l⟩
 .subst ey;let⟨z,hd,vs,rel,dd⟩:=Ez I.kb e;let⟨w',hw,jN⟩:=kh.some_of (v:=v) (o:=z9 vs k) (by rw[l];exact rel.val k);exact wpAny_getItem_of (Ey ry) dd.mapOf hw<|h w' _ (I.tok _) jN
 .subst ey;cases(show u=Value.ref b from ry);let⟨z,hd,xs,rel,dd⟩:=Jr I.kb e;let⟨w',hw,jN⟩:=kh.some_of (v:=v) (o:=(vG xs k).map (·.2)) (by rw[l];exact rel.val k);let⟨p,hp,EV⟩:=LJ.mp hw;refine wpAny_getItem_heap (Vr hu) (Qu I.kb eb) dd hp ?_;rw[EV];exact h w' _ (I.tok _) jN
def Up{h':aF}{t':Nat}{ob:HO}(I:c9 X c6 σ H s)(mu:Jh (H a))(hs:Ah a s.heap h')(he:∃q,h'.get? a=O q)(new:gC X.prog X.w (k4 H a ob) h' a ob):
  c9 X c6 σ (k4 H a ob) {s with heap:=h',toks:=t'}:=
 I.write (x:=a) (e:=a) mu (.inl aaD) (λb q hb z=>(hs.2 b hb).trans z) he new
def Qv{P:Y8}{H':Hp}{h':aF}{kvs:sv}{vs:w8}(z:b9 kvs<=bI)(hd:(a==tO)=false)(rel:KV kvs vs)(dd:h'.DictOf (gj P w) a vs):
  gC P w H' h' a (.dK kvs):=⟨z,hd,vs,rel,dd⟩
def Zs3{H':Hp}{Q:Unit->Yi->Prop}(hu:A.units+1<fH)(I:c9 X c6 σ H s)(g:yo H a y v H')(ry:i5 y u)(rv:i5 v r)(h:∀s',c9 X c6 σ H' s'->Q () s'):
  Y5 (aq X.prog X.w) A (setItem (.ref a) u r) Q E s:=by
 rcases g with⟨kvs,k,e,ey,l,eH⟩|⟨kvs,k,b,e,ey,eb,l,eH⟩
 .subst ey eH;let⟨z,hd,vs,rel,dd⟩:=Ae8 I.kb e;have hz:b9 vs<=bI:=by rwa[<-rel.length]
  have hl:(putK kvs k v).length<=bI:=by have:=Xm kvs k v;omega
  refine wpAny_setItem_pairs (hsz:=hz) (Ey ry) dd λh' oF hs=>h _ ?_;have he:∃q,h'.get? a=O q:=let⟨q,_,_,hq,_⟩:=oF;⟨q,hq⟩;exact Up I (by rw[e];exact True.intro) hs he<|Qv hl hd (rel.put k rv) oF
 .subst ey eH;cases(show u=Value.ref b from ry);let⟨z,hd,xs,rel,dd⟩:=Ae9 I.kb e;have hz:b9 xs<=bI:=by rwa[<-WQ rel]
  have hl:(putK kvs k v).length<=bI:=by have:=Xm kvs k v;omega
  refine wpAny_setItem_heap (hsz:=hz) (Vr hu) (Qu I.kb eb) dd λh' oF hs=>h _ ?_;let⟨q,es,ep,hq,h2,h3,h4,_,h5⟩:=oF;refine Up I (by rw[e];exact True.intro) hs ⟨q,hq⟩ ⟨hl,hd,_,(rel.put k eb rv).keeps λc ys ec=>?_,q,es,ep,hq,h2,h3,h4,h5⟩;rwa[eF<|Ad8 ec e nofun]
end
def Xn(i:Expr):Prop:=∀ov iv,Oo i false ov iv=operate [ov,iv] (tR ov iv)
def Zx2{prog:Y8}{A:cC}{E:Yf->Yi->Prop}{s:Yi}{env:dJ}{value slice:Expr}{pos:aZ}{T id:String}(hl:DP (.type T) "__getitem__" =pure (O<|.builtin id))(hs:Xn slice)(h:Y5 (aq prog w) A (aU value env) (λo s₁=>Y5 (aq prog w) A (aU slice env) (λi s₂=>s₂.TypeIs o T/\Y5 (aq prog w) A (tR o i) Q E s₂) E s₁) E s):
  Y5 (aq prog w) A (aU (.Subscript value slice pos) env) Q E s:=by
 refine Wv<|gq h (λo s₁ h₁=>gq h₁ (λi s₂ h₂=>?_) λ_ _ x=>x) λ_ _ x=>x;let⟨hT,h₂⟩:=h₂;unfold Wu;refine Yc ?_;rw[getitemInPython_of_ne hT.not_modules];refine Yc<|wpAny_specialOf hT hl ?_;have pV:Y5 (aq prog w) A (Oo slice false o i) (λr s₃=>Y5 (aq prog w) A (letTemporaryGo value o r>>=λ_=>pure r) Q E s₃) E s₂:=by rw[hs o i];exact wpAny_operating<|gq h₂ (λr s₃ h₃=>Yc<|wpAny_letTemporaryGo<|Yo h₃) λ_ _ x=>x
 first
  |exact Yo (Yc pV)
  |exact Yc (Yo (Yc pV))
  |exact Yc pV
def Zpf{X:Cx}{c6:oy}{σ:St}{s:Yi}{a:Ys}{y:V}(I:c9 X c6 σ H s)(g:vY H a y o):s.TypeIs (.ref a) "dict":=by
 rcases g with⟨kvs,k,e,_,_⟩|⟨kvs,k,b,e,_,_,_⟩
 .let⟨_,_,vs,_,dd⟩:=Ez I.kb e;exact dd.typeIs
 .let⟨_,_,xs,_,dd⟩:=Jr I.kb e;exact dd.typeIs
def Afa(td ty:TE):TE:=λσ H Q=>td σ H λx H1=>ty σ H1 λy H2=>∃a v,x= .ref a/\vY H2 a y (O v)/\Q v H2
def Afb(td ty tv:TE):TS:=λD σ H=>tv σ H λv H1=>td σ H1 λx H2=>ty σ H2 λy H3=>∃a H4,x= .ref a/\yo H3 a y v H4/\D.nx σ H4
section
variable {X:Cx} {o i e value:Expr} {pos ow w_:aZ} {td ty tv:TE}
def ZwA(hu:X.A.units+1<fH)(ho:PE X o td)(hi:PE X i ty)(hs:Xn i):PE X (.Subscript o i pos) (Afa td ty):=by intro c6 s σ H Q I h;refine Zx2 PySem.F.slot_dict_getitem.lookup hs<|aV (ho c6 s σ H _ I h) λu s1 ⟨x,H1,I1,rx,q1⟩=>aV (hi c6 s1 σ H1 _ I1 q1) λiv s2 ao=>?_;let⟨y,H2,I2,ry,a,v,ex,g,q2⟩:=ao;subst ex;obtain rfl:u=Value.ref a:=rx;exact⟨Zpf I2 g,Ztj hu I2 g ry λw' s3 I3 jN=>⟨v,H2,I3,jN,q2⟩⟩
def UA(hu:X.A.units+1<fH)(ho:PE X o td)(hi:PE X i ty)(hv:PE X value tv)(hs:pC value (O<|.Subscript o i ow) pos.line X.env=pure false):
  PS X (.Assign [.Subscript o i ow] value pos) (Afb td ty tv):=by
 intro c6 s σ H D I h;refine wpAny_Assign_Subscript (aV (hv c6 s σ H _ I h) λr s1 ⟨v,H1,I1,rv,q1⟩=>aV (ho c6 s1 σ H1 _ I1 q1) λu s2 ⟨x,H2,I2,rx,q2⟩=>aV (hi c6 s2 σ H2 _ I2 q2) λiv s3 ao=>?_) hs;let⟨y,H3,I3,ry,a,H4,ex,g,q3⟩:=ao;subst ex;obtain rfl:u=Value.ref a:=rx;exact Zs3 hu I3 g ry rv λs4 I4=>⟨σ,H4,I4,q3⟩
end
def ZuN{P:Y8}(h:aF)(hb:tO<h.objs.size):gC P w H (h.push {cls:=.type "dict",data:=.dict #[]}) h.objs.size (.dK []):=⟨dY _,beq_eq_false_iff_ne.mpr<|cF<|eE hb,[],.nil,WN h⟩
def Afc:TE:=λ_ H Q=>∀p,H p=Yj->Q (.ref p) (k4 H p<|.dK [])
section
variable {X:Cx} {pos:aZ}
def ZuI:PE X (.Dict [] [] pos) Afc:=λc6 s σ H Q I h=>wpAny_Dict_empty ⟨.ref<|d4 s,_,I.laid (a:=d4 s) (o:=.dK []) (t':=s.toks) (λ_ _ q=>Yl _ q) (Yn _)<|ZuN s.heap I.big,rfl,h _<|I.kb.fresh<|Yn _⟩
end
def Ar(kvs more:sv):sv:=more.foldl (λacc kv=>putK acc kv.1 kv.2) kvs
def KV.merge:∀{more:sv} {rs:w8} {kvs:sv} {vs:w8},KV more rs->KV kvs vs->KV (Ar kvs more) (merged vs rs):=by
 intro more rs kvs vs r;unfold KV at r
 induction r generalizing kvs vs with
 |nil=>intro q;exact q|@cons p q ps qs h t ih=>
  intro r0;have e:KV (putK kvs p.1 p.2) (vD vs q.1 q.2):=by have:=r0.put p.1 h.2;rwa[<-h.1]
  exact ih e
theorem Xo:∀(more kvs:sv),(Ar kvs more).length<=b9 kvs+more.length
 |[],kvs=>by show b9 kvs<=b9 kvs+0;exact xW _ _|p::r,kvs=>by have h1:=Xo r<|putK kvs p.1 p.2;have h2:=Xm kvs p.1 p.2;show(Ar (putK kvs p.1 p.2) r).length<=_;rw[Yh];omega
structure M1(X:Cx)(o:Expr)(m:ak)(n5:aZ)(e:Expr)(i9:aZ):Prop where
 base:rE o m X.env (aU o X.env)=aU o X.env
 EW:((fZ i9<|Y1 [e] X.env).all (λx=>!x.1)&&(z7 i9<|zY [] X.env).all (λx=>x.1.isSome)
  &&decide (([e]:pw).length+([]:List Keyword).length+(if([]:List Keyword).isEmpty then 0 else 1)<30))=true
 line:(n5.endLine==i9.line)=true
 trees:fZ i9 (Y1 [e] X.env)=[(false,aU e X.env)]
structure M2(X:Cx)(o:Expr)(m:ak)(n5:aZ)(e f:Expr)(i9:aZ):Prop where
 base:rE o m X.env (aU o X.env)=aU o X.env
 EW:((fZ i9<|Y1 [e,f] X.env).all (λx=>!x.1)&&(z7 i9<|zY [] X.env).all (λx=>x.1.isSome)
  &&decide (([e,f]:pw).length+([]:List Keyword).length+(if([]:List Keyword).isEmpty then 0 else 1)<30))=true
 line:(n5.endLine==i9.line)=true
 trees:fZ i9 (Y1 [e,f] X.env)=[(false,aU e X.env),(false,aU f X.env)]
def Xp(H:Hp)(a:Ys):Prop:=(∃kvs,Rd H a<|.dK kvs)\/∃kvs,Rd H a<|.dT kvs
def Zz4{X:Cx}{c6:oy}{σ:St}{s:Yi}{a:Ys}(I:c9 X c6 σ H s)(d:Xp H a):
  s.TypeIs (.ref a) "dict" /\(∀b,Value.ref a= .ref b->∃ob,s.heap.get? b=O ob/\ob.dict=Yj)/\(a==tO)=false:=by
 rcases d with⟨kvs,e⟩|⟨kvs,e⟩
 .let⟨_,hd,vs,_,dd⟩:=Ez I.kb e;refine⟨dd.typeIs,λb q=>?_,hd⟩;cases q;let⟨ob,_,_,h1,h2,_⟩:=dd;exact⟨ob,h1,h2.2.1⟩
 .let⟨_,hd,xs,_,dd⟩:=Jr I.kb e;refine⟨dd.typeIs,λb q=>?_,hd⟩;cases q;let⟨ob,_,_,h1,h2,_⟩:=dd;exact⟨ob,h1,h2.2.1⟩
section
variable {X:Cx} {c6:oy} {σ:St} {H:Hp} {s:Yi} {a:Ys} {y d:V} {u r:Yf} {o:Option V} {A:cC} {E:Yf->Yi->Prop}
def Zzh(hu:A.units+1<fH)(I:c9 X c6 σ H s)(g:vY H a y o)(ry:i5 y u)(rd:i5 d r)(h:∀w' s',c9 X c6 σ H s'->i5 (o.getD d) w'->Q w' s'):
  Y5 (aq X.prog X.w) A (call (.builtin "dict.get") [.ref a,u,r]) Q E s:=by
 rcases g with⟨kvs,k,e,ey,l⟩|⟨kvs,k,b,e,ey,eb,l⟩
 .subst ey;let⟨z,hd,vs,rel,dd⟩:=Ez I.kb e;refine Om El dd.typeIs Pk (Ph _ _ _) (meets_dict_get_default (gj X.prog X.w) a (Ey ry) hd r) ⟨_,dd.mapOf,h _ _ (I.tok _) ?_⟩;rw[l];exact(rel.val k).getD rd
 .subst ey;cases(show u=Value.ref b from ry);let⟨z,hd,xs,rel,dd⟩:=Jr I.kb e;refine Om El dd.typeIs Pk (Ph _ _ _) (meetsH_dict_get_default (DQ<|gj X.prog X.w) a b hd r) ⟨Vr hu,k,xs,Qu I.kb eb,dd,h _ _ (I.tok _) ?_⟩;rw[l];exact(rel.val k).getD rd
end
def Afd(td ty tx:TE):TE:=λσ H Q=>td σ H λx H1=>∃a,x= .ref a/\Xp H1 a/\ty σ H1 λy H2=>tx σ H2 λz H3=>∃o,vY H3 a y o/\Q (o.getD z) H3
section
variable {X:Cx} {o e f:Expr} {n5 i9:aZ} {td ty tx:TE}
def ZuL(hu:X.A.units+1<fH)(ho:PE X o td)(he:PE X e ty)(hf:PE X f tx)(m:M2 X o "get" n5 e f i9):PE X (.Call (.Attribute o "get" n5) [e,f] [] i9) (Afd td ty tx):=by intro c6 s σ H Q I h;refine Mo m.base m.EW m.line OI El OK<|aV (ho c6 s σ H _ I h) λu s1 ao=>?_;let⟨x,H1,I1,rx,a,ex,d,q1⟩:=ao;subst ex;obtain rfl:u=Value.ref a:=rx;let⟨t1,t2,_⟩:=Zz4 I1 d;refine⟨t1,t2,?_⟩;rw[m.trees];refine Py aaD<|Pz<|Em<|aV (he c6 s1 σ H1 _ I1 q1) λiv s2 ⟨y,H2,I2,ry,q2⟩=>Em<|aV (hf c6 s2 σ H2 _ I2 q2) λfv s3 ⟨z,H3,I3,rz,ov,g,q3⟩=>PB ?_;exact Zzh hu I3 g ry rz λw' s4 I4 jN=>⟨_,H3,I4,jN,q3⟩
end
section
variable {X:Cx} {c6:oy} {σ:St} {H:Hp} {s:Yi} {a:Ys} {kvs:sv} {A:cC} {E:Yf->Yi->Prop}
def Zwb(I:c9 X c6 σ H s)(e:Rd H a (.dK kvs))(h:∀p s',H p=Yj->c9 X c6 σ (k4 H p<|.dK kvs) s'->Q (.ref p) s'):Y5 (aq X.prog X.w) A (call (.type "dict") [.ref a]) Q E s:=by let⟨z,hd,vs,rel,dd⟩:=Ez I.kb e;refine kt_call_dict hd dd (by rwa[<-rel.length]) λh' oF hs=>?_;refine h _ _ (I.kb.fresh<|Yn _)<|I.laid (a:=d4 s) (o:=.dK kvs) (t':=s.toks) (λb q hq=>?_) (Yn _)<|Qv z (beq_eq_false_iff_ne.mpr<|cF<|eE I.big) rel oF;exact(hs.2 b<|eE<|Yw hq).trans (Yl _ hq)
end
end L2
namespace L3
open PySem
variable{env:Zz}{hi lo:pe}{M:c5}{T:uh}{it:iD}
noncomputable section
inductive D where
 |Z|bl (b:Bool)|int (i:Int)|str (x:List Nat)|U (ds:List D)|cI (ds:List D)|ref (n:Nat)
 deriving Inhabited
abbrev _root_.oS:=Option D
abbrev aH:=Sum Int<|List Nat
abbrev _root_.l9:=List<|aH×D
inductive MO where
 |L (xs:List D)|j3 (kvs:l9)|dW (kvs:l9)|ins (c:List Nat) (fs:List (List Nat×D))
 deriving Inhabited
abbrev _root_.h8:=List D
abbrev _root_.i4:=List Nat
abbrev _root_.xi:=List<|i4×D
abbrev _root_.rk:=List<|List D
abbrev _root_.k9:=List<|List Nat
abbrev c5:=List MO
structure X3 where
 cls:i4
 arg:D
inductive R3(α:Type)where
 |ok (a:α) (M:c5)|exc (x:X3) (M:c5)|bad
@[simp] def R3.bind{α β:Type}(r:R3 α)(k:α->c5->R3 β):R3 β:=match r with
 | .ok a M=>k a M|.exc x M=>.exc x M|.bad=>.bad
def R3.rm{α β:Type}(a:α)(M:c5)(k:α->c5->R3 β):(R3.ok a M).bind k=k a M:=rfl
def ft{C:Prop}(h:false=true):C:=Bool.noConfusion h
def e_{α:Type}{C:Prop}{k:α}(h:Yj=O k):C:=by cases h
def cP:Nat->D->Bool
 |_,.Z=>true|_,.bl _=>true|_,.int _=>true|_,.str _=>true
 |n+1,.U ds=>ds.all (cP n)|_,_=>false
abbrev pz:Nat:=60
mutual
def eU:D->D->Bool
 | .Z,.Z=>true|.bl a,.bl b=>a==b|.int a,.int b=>a==b|.str a,.str b=>a==b
 | .U a,.U b=>gY a b|.bl a,.int b=>(if a then 1 else 0)==b|.int a,.bl b=>a==(if b then 1 else 0)|_,_=>false
def gY:h8->h8->Bool
 |[],[]=>true|a::x,b::y=>eU a b&&gY x y|_,_=>false
end
def Qw(a b:i4):eU (.str a) (.str b)=(a==b):=rfl
def UB(a b:h8):eU (.U a) (.U b)=gY a b:=rfl
def Zzg:gY [] []=true:=rfl
def Xq(a b:D)(x y:h8):gY (a::x) (b::y)=(eU a b&&gY x y):=rfl
def UC(n:Nat):cP n .Z=true:=by cases n<;>rfl
def UD(n:Nat)(b:Bool):cP n (.bl b)=true:=by cases n<;>rfl
def UE(n:Nat)(i:Int):cP n (.int i)=true:=by cases n<;>rfl
def UH(n:Nat)(x:i4):cP n (.str x)=true:=by cases n<;>rfl
def UI(n:Nat)(ds:h8):cP (n+1) (.U ds)=ds.all (cP n):=rfl
mutual
def below(n:Nat):D->Bool
 | .U ds=>cu n ds|.cI ds=>cu n ds|.ref k=>k<n|.Z=>true| .bl _=>true| .int _=>true| .str _=>true
def cu(n:Nat):h8->Bool
 |[]=>true|d::ds=>below n d&&cu n ds
end
mutual
def same:D->D->Bool
 | .Z,.Z=>true|.bl a,.bl b=>a==b|.int a,.int b=>a==b|.str a,.str b=>a==b
 | .U a,.U b=>EY a b|.cI a,.cI b=>EY a b|.ref a,.ref b=>a==b|_,_=>false
def EY:h8->h8->Bool
 |[],[]=>true|a::x,b::y=>same a b&&EY x y|_,_=>false
end
mutual
theorem UK:∀{a b:D},same a b=true->a=b
 | .Z,b,h=>by cases b<;>first|exact rfl|exact ft h
 | .bl a,b,h=>by cases b<;>first|exact congrArg D.bl (beq_iff_eq.mp h)|exact ft h
 | .int a,b,h=>by cases b<;>first|exact congrArg D.int (beq_iff_eq.mp h)|exact ft h
 | .str a,b,h=>by cases b<;>first|exact congrArg D.str (beq_iff_eq.mp h)|exact ft h
 | .U a,b,h=>by cases b<;>first|exact congrArg D.U (Xr h)|exact ft h
 | .cI a,b,h=>by cases b<;>first|exact congrArg D.cI (Xr h)|exact ft h
 | .ref a,b,h=>by cases b<;>first|exact congrArg D.ref (beq_iff_eq.mp h)|exact ft h
theorem Xr:∀{x y:h8},EY x y=true->x=y
 |[],y,h=>by cases y<;>first|exact rfl|exact ft h
 |a::x,y,h=>by
  cases y with
  |nil=>exact ft h|cons b y=>exact have w:=Yba.mp (h:(same a b&&EY x y)=true);congr (congrArg _<|UK w.1) (Xr w.2)
end
mutual
theorem UM:∀(a:D),same a a=true
 | .Z=>rfl|.bl a=>beq_self_eq_true a|.int a=>beq_self_eq_true a|.str a=>beq_self_eq_true a
 | .U a=>Xu a|.cI a=>Xu a|.ref a=>beq_self_eq_true a
theorem Xu:∀(x:h8),EY x x=true
 |[]=>rfl|a::x=>Yba.mpr ⟨UM a,Xu x⟩
end
def same_iff{a b:D}:same a b=true↔a=b:=⟨UK,λh=>h▸UM a⟩
instance:DecidableEq D:=λa b=>decidable_of_iff (same a b=true) same_iff
instance:DecidableEq MO:=λa b=>match a,b with
 | .L x,.L y=>if h:x=y then isTrue (by rw[h])else isFalse (by intro e;cases e;exact h aaD)|.j3 x,.j3 y=>if h:x=y then isTrue (by rw[h])else isFalse (by intro e;cases e;exact h aaD)|.dW x,.dW y=>if h:x=y then isTrue (by rw[h])else isFalse (by intro e;cases e;exact h aaD)|.ins c x,.ins d y=>if h:c=d/\x=y then isTrue (by rw[h.1,h.2])else isFalse (by intro e;cases e;exact h ⟨rfl,rfl⟩)
 | .ins _ _,.L _=>isFalse wm|.ins _ _,.j3 _=>isFalse wm|.ins _ _,.dW _=>isFalse wm|.L _,.ins _ _=>isFalse wm
 | .j3 _,.ins _ _=>isFalse wm|.dW _,.ins _ _=>isFalse wm|.L _,.j3 _=>isFalse wm|.L _,.dW _=>isFalse wm
 | .j3 _,.L _=>isFalse wm|.j3 _,.dW _=>isFalse wm|.dW _,.L _=>isFalse wm|.dW _,.j3 _=>isFalse wm
@[simp] abbrev SZ:Nat:=1000000
abbrev Zz:=List oS
abbrev E3:=Zz->c5->R3 D
abbrev dg:=Zz->c5->R3 h8
abbrev F3:=h8->c5->R3 D
inductive O3 where
 |nx (env:Zz) (M:c5)|rt (d:D) (M:c5)|bk (env:Zz) (M:c5)|ct (env:Zz) (M:c5)|exc (x:X3) (M:c5)|bad
abbrev S3:=Zz->c5->O3
@[simp] def Zc(i:Nat):E3:=λenv M=>match env[i]? with
 |some (O d)=>.ok d M|_=>.bad
@[simp] def eC(d:D):E3:=λ_ M=>.ok d M
@[simp] def e1(op:D->c5->R3 D)(f:E3):E3:=λenv M=>(f env M).bind op
@[simp] def e2(op:D->D->c5->R3 D)(f g:E3):E3:=λenv M=>(f env M).bind λa M1=>(g env M1).bind λb M2=>op a b M2
@[simp] def Ze:dg:=λ_ M=>.ok [] M
@[simp] def Za(f:E3)(g:dg):dg:=λenv M=>(f env M).bind λa M1=>(g env M1).bind λb M2=>.ok (a::b) M2
@[simp] def alloc(o:MO)(M:c5):R3 D:=.ok (.ref<|b9 M)<|M++[o]
section
local instance (priority:=100000) Ahq (p:Prop):Decidable p:=Yz p
@[simp] def aR(g:dg):E3:=λenv M=>(g env M).bind λds M1=>if b9 ds<=SZ then .ok (.U ds) M1 else .bad
end
section
local instance (priority:=100000) Ahr (p:Prop):Decidable p:=Yz p
@[simp] def bh(g:dg):E3:=λenv M=>(g env M).bind λds M1=>if b9 ds<=SZ then alloc (.L ds) M1 else .bad
end
@[simp] def iV(f g:E3):E3:=λenv M=>(f env M).bind λa M1=>match a with
 | .bl true=>g env M1|.bl false=>.ok (.bl false) M1|_=>.bad
@[simp] def jO(f g:E3):E3:=λenv M=>(f env M).bind λa M1=>match a with
 | .bl false=>g env M1|.bl true=>.ok (.bl true) M1|_=>.bad
def jj(a:D)(M:c5):R3 D:=match a with
 | .bl b=>.ok (.bl<|!b) M|_=>.bad
@[simp] theorem Ahs:∀b,jj (.bl b) M= .ok (.bl<|!b) M:=λ_=>rfl
@[simp] def rQ(c f g:E3):E3:=λenv M=>(c env M).bind λa M1=>match a with
 | .bl true=>f env M1|.bl false=>g env M1|_=>.bad
@[simp] def Zr(F:F3)(g:dg):E3:=λenv M=>(g env M).bind λds M1=>F ds M1
section
local instance (priority:=100000) Aht (p:Prop):Decidable p:=Yz p
def Zy(a b:D)(M:c5):R3 D:=match a,b with
 | .int i,.int j=>.ok (.int<|i+j) M|.str x,.str y=>if x.length+y.length<=SZ then .ok (.str<|x++y) M else .bad|.U x,.U y=>if x.length+y.length<=SZ then .ok (.U<|x++y) M else .bad|.ref n,.ref m=>match M[n]?,M[m]? with
  |some (.L x),O (.L y)=>if x.length+y.length<=SZ then alloc (.L<|x++y) M else .bad|_,_=>.bad
 |_,_=>.bad
@[simp] theorem yp:∀i j,Zy (.int i) (.int j) M= .ok (.int<|i+j) M:=λ_ _=>rfl
@[simp] theorem Js:∀x y,Zy (.str x) (.str y) M=(if x.length+y.length<=SZ then .ok (.str<|x++y) M else .bad):=λ_ _=>rfl
@[simp] theorem yq:∀x y,Zy (.U x) (.U y) M=(if x.length+y.length<=SZ then .ok (.U<|x++y) M else .bad):=λ_ _=>rfl
@[simp] theorem Jt:∀n m,Zy (.ref n) (.ref m) M=(match M[n]?,M[m]? with
  |some (.L x),O (.L y)=>if x.length+y.length<=SZ then alloc (.L<|x++y) M else .bad|_,_=>.bad):=λ_ _=>rfl
end
def jD(a b:D)(M:c5):R3 D:=match a,b with
 | .int i,.int j=>.ok (.int<|i-j) M|_,_=>.bad
@[simp] theorem Xv:∀i j,jD (.int i) (.int j) M= .ok (.int<|i-j) M:=λ_ _=>rfl
section
local instance (priority:=100000) Ahu (p:Prop):Decidable p:=Yz p
def qH(i j:Int):Bool:=(decide (-(2^64)<i)&&decide (i<2^64))|| (decide (-(2^64)<j)&&decide (j<2^64))
end
section
local instance (priority:=100000) Ahv (p:Prop):Decidable p:=Yz p
def fP(a b:D)(M:c5):R3 D:=match a,b with
 | .int i,.int j=>if qH i j then .ok (.int<|i*j) M else .bad|.str x,.int k=>if x.length*k.toNat<=SZ/\k<1000000/\ -1000000<k then .ok (.str (Yg k.toNat x).flatten) M else .bad|.ref n,.int k=>match M[n]? with
  |some (.L x)=>if x.length*k.toNat<=SZ/\k<1000000/\ -1000000<k then alloc (.L (Yg k.toNat x).flatten) M else .bad|_=>.bad
 |_,_=>.bad
@[simp] theorem Av:∀i j,fP (.int i) (.int j) M=(if qH i j then .ok (.int<|i*j) M else .bad):=λ_ _=>rfl
@[simp] theorem ZuS:∀x k,fP (.str x) (.int k) M=(if x.length*k.toNat<=SZ/\k<1000000/\ -1000000<k then .ok (.str (Yg k.toNat x).flatten) M else .bad):=λ_ _=>rfl
@[simp] theorem Ahw:∀n k,fP (.ref n) (.int k) M=(match M[n]? with
  |some (.L x)=>if x.length*k.toNat<=SZ/\k<1000000/\ -1000000<k then alloc (.L (Yg k.toNat x).flatten) M else .bad|_=>.bad):=λ_ _=>rfl
end
def bH(a b:D)(M:c5):R3 D:=match a,b with
 | .int i,.int j=>if 0<j then .ok (.int<|i % j) M else .bad|_,_=>.bad
@[simp] theorem UN:∀i j,bH (.int i) (.int j) M=(if 0<j then .ok (.int<|i % j) M else .bad):=λ_ _=>rfl
section
local instance (priority:=100000) Ahx (p:Prop):Decidable p:=Yz p
def fJ(a b:D)(M:c5):R3 D:=match a,b with
 | .int i,.int j=>if 0<j/\j<1073741824 then .ok (.int<|i / j) M else .bad|_,_=>.bad
@[simp] theorem UO:∀i j,fJ (.int i) (.int j) M=(if 0<j/\j<1073741824 then .ok (.int<|i / j) M else .bad):=λ_ _=>rfl
end
def E_(a b:D)(M:c5):R3 D:=match a,b with
 | .int i,.int j=>if 0<=j/\j<=1000/\i.natAbs<1000 then .ok (.int<|i^j.toNat) M else .bad|_,_=>.bad
@[simp] theorem Zu2:∀i j,E_ (.int i) (.int j) M=(if 0<=j/\j<=1000/\i.natAbs<1000 then .ok (.int<|i^j.toNat) M else .bad):=λ_ _=>rfl
def fQ(a:D)(M:c5):R3 D:=match a with
 | .int i=>.ok (.int<|-i) M|_=>.bad
@[simp] theorem Qx:∀i,fQ (.int i) M= .ok (.int<|-i) M:=λ_=>rfl
def mq(a b:D)(M:c5):R3 D:=match a,b with
 | .int i,.int j=>.ok (.bl<|decide<|i<j) M|_,_=>.bad
@[simp] theorem yr:∀i j,mq (.int i) (.int j) M= .ok (.bl<|decide<|i<j) M:=λ_ _=>rfl
def Fb(a b:D)(M:c5):R3 D:=match a,b with
 | .int i,.int j=>.ok (.bl<|decide<|i<=j) M|_,_=>.bad
@[simp] theorem Ahy:∀i j,Fb (.int i) (.int j) M= .ok (.bl<|decide<|i<=j) M:=λ_ _=>rfl
def iQ(a b:D)(M:c5):R3 D:=match a,b with
 | .int i,.int j=>.ok (.bl<|decide<|j<i) M|_,_=>.bad
@[simp] theorem pN:∀i j,iQ (.int i) (.int j) M= .ok (.bl<|decide<|j<i) M:=λ_ _=>rfl
def Ju(a b:D)(M:c5):R3 D:=match a,b with
 | .int i,.int j=>.ok (.bl<|decide<|j<=i) M|_,_=>.bad
@[simp] theorem UP:∀i j,Ju (.int i) (.int j) M= .ok (.bl<|decide<|j<=i) M:=λ_ _=>rfl
def rR(a b:D)(M:c5):Option Bool:=match a,b with
 | .ref n,.ref m=>match M[n]?,M[m]? with
  |some (.L x),O (.L y)=>if x.all (cP pz)&&y.all (cP pz)then O (gY x y)else Yj|_,_=>Yj
 | .int i,.int j=>O (decide<|i=j)|.str x,.str y=>O (decide<|x=y)|.bl x,.bl y=>O (decide<|x=y)|.U x,.U y=>if x.all (cP pz)&&y.all (cP pz)then O (gY x y)else Yj
 |_,_=>Yj
@[simp] theorem Jv:∀n m,rR (.ref n) (.ref m) M=(match M[n]?,M[m]? with
  |some (.L x),O (.L y)=>if x.all (cP pz)&&y.all (cP pz)then O (gY x y)else Yj|_,_=>Yj):=λ_ _=>rfl
@[simp] theorem Jw:∀i j,rR (.int i) (.int j) M=O (decide<|i=j):=λ_ _=>rfl
@[simp] theorem Aw:∀x y,rR (.str x) (.str y) M=O (decide<|x=y):=λ_ _=>rfl
@[simp] theorem Jx:∀x y,rR (.bl x) (.bl y) M=O (decide<|x=y):=λ_ _=>rfl
@[simp] theorem Jy:∀x y,rR (.U x) (.U y) M=(if x.all (cP pz)&&y.all (cP pz)then O (gY x y)else Yj):=λ_ _=>rfl
@[simp] def bJ(a b:D)(M:c5):R3 D:=match rR a b M with
 |some r=>.ok (.bl r) M|none=>.bad
@[simp] def nu(a b:D)(M:c5):R3 D:=match rR a b M with
 |some r=>.ok (.bl<|!r) M|none=>.bad
def Fd(a b:D)(M:c5):R3 D:=match b with
 | .Z=>.ok (.bl<|decide<|a= .Z) M|_=>.bad
@[simp] theorem UQ{a:D}:Fd a (.Z) M= .ok (.bl<|decide<|a= .Z) M:=rfl
def fc:D->Bool
 | .Z=>true| .bl _=>true| .int _=>true| .str _=>true|_=>false
def Xw(a:D)(y:i4):Option Bool:=match a with
 | .str [c]=>O (decide<|c∈y)|_=>Yj
@[simp] theorem Ahz{y:i4}:∀c,Xw (.str [c]) y=O (decide<|c∈y):=λ_=>rfl
def inD(a b:D):Option Bool:=match b with
 | .str y=>Xw a y|.U ys=>if fc a&&ys.all fc then O (ys.any λy=>eU y a)else Yj|_=>Yj
@[simp] theorem AhA{a:D}:∀y,inD a (.str y)=Xw a y:=λ_=>rfl
@[simp] theorem Afe{a:D}:∀ys,inD a (.U ys)=(if fc a&&ys.all fc then O (ys.any λy=>eU y a)else Yj):=λ_=>rfl
@[simp] def Fe(a b:D)(M:c5):R3 D:=match inD a b with
 |some r=>.ok (.bl r) M|none=>.bad
@[simp] def Jz(a b:D)(M:c5):R3 D:=match inD a b with
 |some r=>.ok (.bl<|!r) M|none=>.bad
def pO(n:Nat)(i:Int):Option Nat:=if 0<=i then(if i<n then O i.toNat else Yj)else if -(n:Int)<=i then O (i+n).toNat else Yj
def fK{α:Type}(xs:List α)(i:Int):Option α:=(pO (b9 xs) i).bind λj=>xs[j]?
def gZ:D->Option aH
 | .int i=>O (.inl i)|.str x=>O (.inr x)|_=>Yj
@[simp] theorem AhB:gZ .Z=Yj:=rfl
@[simp] theorem AhC(b:Bool):gZ (.bl b)=Yj:=rfl
@[simp] theorem AhD(x:h8):gZ (.U x)=Yj:=rfl
@[simp] theorem AhE(x:h8):gZ (.cI x)=Yj:=rfl
@[simp] theorem AhF(n:Nat):gZ (.ref n)=Yj:=rfl
@[simp] theorem ZxQ:∀i,gZ (.int i)=O (.inl i):=λ_=>rfl
@[simp] theorem Zyc:∀x,gZ (.str x)=O (.inr x):=λ_=>rfl
def cD:l9->aH->oS
 |[],_=>Yj|(k,v)::r,x=>if k=x then O v else cD r x
section
local instance (priority:=100000) AhG (p:Prop):Decidable p:=Yz p
def Zj(a b:D)(M:c5):R3 D:=match a,b with
 | .U ds,.int i=>match fK ds i with
  |some d=>.ok d M|none=>.bad
 | .cI ds,.int i=>match fK ds i with
  |some d=>.ok d M|none=>.bad
 | .str x,.int i=>match fK x i with
  |some c=>if x.length<=SZ then .ok (.str [c]) M else .bad|none=>.bad
 | .ref n,.int i=>match M[n]? with
  |some (.L ds)=>match fK ds i with
   |some d=>.ok d M|none=>.bad
  |_=>.bad
 |_,_=>.bad
@[simp] theorem Qy:∀ds i,Zj (.U ds) (.int i) M=(match fK ds i with
  |some d=>.ok d M|none=>.bad):=λ_ _=>rfl
@[simp] theorem JB:∀ds i,Zj (.cI ds) (.int i) M=(match fK ds i with
  |some d=>.ok d M|none=>.bad):=λ_ _=>rfl
@[simp] theorem JC:∀x i,Zj (.str x) (.int i) M=(match fK x i with
  |some c=>if x.length<=SZ then .ok (.str [c]) M else .bad|none=>.bad):=λ_ _=>rfl
@[simp] theorem Qz:∀n i,Zj (.ref n) (.int i) M=(match M[n]? with
  |some (.L ds)=>match fK ds i with
   |some d=>.ok d M|none=>.bad
  |_=>.bad):=λ_ _=>rfl
end
def jr:Option MO->Option l9
 |some (.j3 kvs)=>O kvs|some (.dW kvs)=>O kvs|_=>Yj
@[simp] theorem AhH:jr Yj=Yj:=rfl
@[simp] theorem AhI(x:h8):jr (O<|.L x)=Yj:=rfl
@[simp] theorem AhJ(c:i4)(f:xi):jr (O<|.ins c f)=Yj:=rfl
@[simp] theorem Zt7:∀kvs,jr (O<|.j3 kvs)=O kvs:=λ_=>rfl
@[simp] theorem Zub:∀kvs,jr (O<|.dW kvs)=O kvs:=λ_=>rfl
def JD(a b:D)(M:c5):R3 D:=match a with
 | .ref n=>match jr M[n]?,gZ b with
  |some kvs,O x=>match cD kvs x with
   |some d=>.ok d M|none=>.bad
  |_,_=>.bad
 |_=>.bad
@[simp] theorem UR{b:D}:∀n,JD (.ref n) b M=(match jr M[n]?,gZ b with
  |some kvs,O x=>match cD kvs x with
   |some d=>.ok d M|none=>.bad
  |_,_=>.bad):=λ_=>rfl
def aN(n d:Nat):pe->Nat
 |none=>d|some v=>if v<0 then(v+(n:Int)).toNat else jL v.toNat n
def oC{α:Type}(xs:List α)(lo hi:pe):List α:=(xs.drop<|aN (b9 xs) 0 lo).take<|aN (b9 xs) (b9 xs) hi-aN (b9 xs) 0 lo
abbrev Ff:=Zz->c5->R3 pe
@[simp] def jP:Ff:=λ_ M=>.ok Yj M
@[simp] def jQ(f:E3):Ff:=λenv M=>(f env M).bind λa M1=>match a with
 | .int i=>.ok (O i) M1|_=>.bad
section
local instance (priority:=100000) AhK (p:Prop):Decidable p:=Yz p
def Fg(a:D)(lo hi:pe)(M:c5):R3 D:=match a with
 | .U ds=>.ok (.U<|oC ds lo hi) M|.cI ds=>alloc (.L<|oC ds lo hi) M|.str x=>if x.length<=SZ then .ok (.str<|oC x lo hi) M else .bad|.ref n=>match M[n]? with
  |some (.L ds)=>alloc (.L<|oC ds lo hi) M|_=>.bad
 |_=>.bad
@[simp] theorem Zip:∀ds,Fg (.U ds) lo hi M= .ok (.U<|oC ds lo hi) M:=λ_=>rfl
@[simp] theorem Fi:∀ds,Fg (.cI ds) lo hi M=alloc (.L<|oC ds lo hi) M:=λ_=>rfl
@[simp] theorem Fj:∀x,Fg (.str x) lo hi M=(if x.length<=SZ then .ok (.str<|oC x lo hi) M else .bad):=λ_=>rfl
@[simp] theorem Ax:∀n,Fg (.ref n) lo hi M=(match M[n]? with
  |some (.L ds)=>alloc (.L<|oC ds lo hi) M|_=>.bad):=λ_=>rfl
end
@[simp] def jR(f:E3)(lo hi:Ff):E3:=λenv M=>(f env M).bind λa M1=>(lo env M1).bind λl M2=>(hi env M2).bind λh M3=>Fg a l h M3
section
local instance (priority:=100000) AhL (p:Prop):Decidable p:=Yz p
def a_(ds:h8)(M:c5):R3 D:=match ds with
 |[.U x]=>.ok (.int x.length) M|[.cI x]=>.ok (.int x.length) M|[.str x]=>if x.length<=SZ then .ok (.int x.length) M else .bad|[.ref n]=>match M[n]? with
  |some (.L x)=>.ok (.int x.length) M|_=>.bad
 |_=>.bad
@[simp] theorem Ay:∀x,a_ ([.U x]) M= .ok (.int x.length) M:=λ_=>rfl
@[simp] theorem QB:∀x,a_ ([.cI x]) M= .ok (.int x.length) M:=λ_=>rfl
@[simp] theorem Xx:∀x,a_ ([.str x]) M=(if x.length<=SZ then .ok (.int x.length) M else .bad):=λ_=>rfl
@[simp] theorem Az:∀n,a_ ([.ref n]) M=(match M[n]? with
  |some (.L x)=>.ok (.int x.length) M|_=>.bad):=λ_=>rfl
end
def jT(ds:h8)(M:c5):R3 D:=match ds with
 |[.U x]=>.ok (.U x) M|[.cI x]=>.ok (.U x) M|[.ref n]=>match M[n]? with
  |some (.L x)=>.ok (.U x) M|_=>.bad
 |_=>.bad
@[simp] theorem US:∀x,jT ([.U x]) M= .ok (.U x) M:=λ_=>rfl
@[simp] theorem UU:∀x,jT ([.cI x]) M= .ok (.U x) M:=λ_=>rfl
@[simp] theorem Fl:∀n,jT ([.ref n]) M=(match M[n]? with
  |some (.L x)=>.ok (.U x) M|_=>.bad):=λ_=>rfl
def JF(ds:h8)(M:c5):R3 D:=match ds with
 |[.U x]=>alloc (.L x) M|[.cI x]=>alloc (.L x) M|[.ref n]=>match M[n]? with
  |some (.L x)=>alloc (.L x) M|_=>.bad
 |_=>.bad
@[simp] theorem UX:∀x,JF ([.U x]) M=alloc (.L x) M:=λ_=>rfl
@[simp] theorem Zuw:∀x,JF ([.cI x]) M=alloc (.L x) M:=λ_=>rfl
@[simp] theorem JG:∀n,JF ([.ref n]) M=(match M[n]? with
  |some (.L x)=>alloc (.L x) M|_=>.bad):=λ_=>rfl
inductive uh where
 |int|bool|str|list|tuple
 deriving DecidableEq
def rT(T:uh)(d:D)(M:c5):Option Bool:=match d with
 | .Z=>O false|.bl _=>O (T== .bool|| T== .int)|.int _=>O (T== .int)|.str _=>O<|T== .str
 | .U _=>O (T== .tuple)|.cI _=>Yj|.ref n=>match M[n]? with
  |some (.L _)=>O (T== .list)|some (.j3 _)=>O false|some (.dW _)=>Yj|some (.ins _ _)=>Yj
  |none=>Yj
@[simp] theorem AhM:rT T (.Z) M=O false:=rfl
@[simp] theorem AhN:∀w0,rT T (.bl w0) M=O (T== .bool|| T== .int):=λ_=>rfl
@[simp] theorem AhO:∀w0,rT T (.int w0) M=O (T== .int):=λ_=>rfl
@[simp] theorem AhP:∀w0,rT T (.str w0) M=O (T== .str):=λ_=>rfl
@[simp] theorem AhQ:∀w0,rT T (.U w0) M=O (T== .tuple):=λ_=>rfl
@[simp] theorem AhR:∀w0,rT T (.cI w0) M=Yj:=λ_=>rfl
@[simp] theorem Zxb:∀n,rT T (.ref n) M=(match M[n]? with
  |some (.L _)=>O (T== .list)|some (.j3 _)=>O false|some (.dW _)=>Yj|some (.ins _ _)=>Yj
  |none=>Yj):=λ_=>rfl
@[simp] def jk(T:uh)(d:D)(M:c5):R3 D:=match rT T d M with
 |some b=>.ok (.bl b) M|none=>.bad
section
local instance (priority:=100000) Ahk (p:Prop):Decidable p:=Yz p
def cQ(o:D)(ds:h8)(M:c5):R3 D:=match o,ds with
 | .ref n,[d]=>match M[n]? with
  |some (.L x)=>if x.length<SZ then .ok .Z (M.set n<|.L<|x++[d])else .bad|_=>.bad
 |_,_=>.bad
@[simp] theorem QC:∀n d,cQ (.ref n) ([d]) M=(match M[n]? with
  |some (.L x)=>if x.length<SZ then .ok .Z (M.set n<|.L<|x++[d])else .bad|_=>.bad):=λ_ _=>rfl
end
section
local instance (priority:=100000) AhS (p:Prop):Decidable p:=Yz p
def vZ(o:D)(ds:h8)(M:c5):R3 D:=match o,ds with
 | .ref n,[.int i]=>match M[n]? with
  | some (.L x)=>if -1000000<=i/\i<=1000000 then match pO x.length i with
   |some k=>match x[k]? with
    |some d=>.ok d (M.set n<|.L<|x.eraseIdx k)|none=>.bad
   |none=>.bad
   else .bad
  |_=>.bad
 | .ref n,[]=>match M[n]? with
  |some (.L x)=>match x[x.length-1]? with
   |some d=>.ok d (M.set n<|.L x.dropLast)|none=>.bad
  |_=>.bad
 |_,_=>.bad
@[simp] theorem UY:∀n i,vZ (.ref n) ([.int i]) M=(match M[n]? with
  | some (.L x)=>if -1000000<=i/\i<=1000000 then match pO x.length i with
   |some k=>match x[k]? with
    |some d=>.ok d (M.set n<|.L<|x.eraseIdx k)|none=>.bad
   |none=>.bad
   else .bad
  |_=>.bad):=λ_ _=>rfl
@[simp] theorem Xy:∀n,vZ (.ref n) ([]) M=(match M[n]? with
  |some (.L x)=>match x[x.length-1]? with
   |some d=>.ok d (M.set n<|.L x.dropLast)|none=>.bad
  |_=>.bad):=λ_=>rfl
end
def bO(a:D)(M:c5):Bool:=match a with
 | .ref n=>match M[n]? with
  |some (.L _)=>true|_=>false
 |_=>false
@[simp] theorem A_:∀n,bO (.ref n) M=(match M[n]? with
  |some (.L _)=>true|_=>false):=λ_=>rfl
def Fo(a:D)(M:c5):Bool:=match a with
 | .ref n=>(jr M[n]?).isSome|_=>false
@[simp] theorem JH:∀n,Fo (.ref n) M=(jr M[n]?).isSome:=λ_=>rfl
@[simp] def bA(ty:D->c5->Bool)(m:D->h8->c5->R3 D)(o:E3)(g:dg):E3:=λenv M=>(o env M).bind λa M1=>if ty a M1 then(g env M1).bind λds M2=>m a ds M2 else .bad
@[simp] def aL(b:h8->c5->R3 D)(g:dg):E3:=λenv M=>(g env M).bind λds M1=>b ds M1
def oI(k:aH)(v:D)(kvs:l9):l9:=if(kvs.any λp=>decide<|p.1=k)=true then kvs.map (λp=>if p.1=k then(p.1,v)else p)else kvs++[(k,v)]
abbrev Xz:=Zz->c5->R3 l9
@[simp] def AhT(f g:E3)(r:Xz):Xz:=λenv M=>(f env M).bind λa M1=>(g env M1).bind λb M2=>match gZ a with
 |some k=>(r env M2).bind λl M3=>.ok ((k,b)::l) M3|none=>.bad
def dictOf(l:l9):l9:=l.foldl (λacc p=>oI p.1 p.2 acc) []
@[simp] def AhU(r:Xz):E3:=λenv M=>(r env<|M++[.j3 []]).bind λl M1=>match M1[b9 M]? with
 |some (.j3 [])=>if b9 l<=15 then .ok (.ref<|b9 M) (M1.set (b9 M)<|.j3<|dictOf l)else .bad|_=>.bad
@[simp] def XC:E3:=λ_ M=>alloc (.j3 []) M
@[simp] def e3(op:D->D->D->c5->R3 D)(f g h:E3):E3:=λenv M=>(f env M).bind λa M1=>(g env M1).bind λb M2=>(h env M2).bind λc M3=>op a b c M3
section
local instance (priority:=100000) Ahl (p:Prop):Decidable p:=Yz p
def JK(v a b:D)(M:c5):R3 D:=match a with
 | .ref n=>match M[n]?,gZ b with
  |some (.j3 kvs),O k=>if b9 kvs<SZ then .ok .Z (M.set n<|.j3<|oI k v kvs)else .bad|_,_=>.bad
 |_=>.bad
@[simp] theorem QD{v:D}{b:D}:∀n,JK v (.ref n) b M=(match M[n]?,gZ b with
  |some (.j3 kvs),O k=>if b9 kvs<SZ then .ok .Z (M.set n<|.j3<|oI k v kvs)else .bad|_,_=>.bad):=λ_=>rfl
end
def Ba(o:D)(ds:h8)(M:c5):R3 D:=match o,ds with
 | .ref n,[b]=>match jr M[n]?,gZ b with
  |some kvs,O k=>.ok ((cD kvs k).getD .Z) M|_,_=>.bad
 | .ref n,[b,d]=>match jr M[n]?,gZ b with
  |some kvs,O k=>.ok ((cD kvs k).getD d) M|_,_=>.bad
 |_,_=>.bad
@[simp] theorem UZ:∀n b,Ba (.ref n) ([b]) M=(match jr M[n]?,gZ b with
  |some kvs,O k=>.ok ((cD kvs k).getD .Z) M|_,_=>.bad):=λ_ _=>rfl
@[simp] theorem QF:∀n b d,Ba (.ref n) ([b,d]) M=(match jr M[n]?,gZ b with
  |some kvs,O k=>.ok ((cD kvs k).getD d) M|_,_=>.bad):=λ_ _ _=>rfl
def kJ:h8->Option l9
 |[]=>O []|.U [a,b]::r=>match gZ a with
  |some k=>(kJ r).map λl=>(k,b)::l|none=>Yj
 |_::_=>Yj
def ZuA(i:Int)(b:D)(r:h8):kJ (.U [.int i,b]::r)=(kJ r).map λl=>(.inl i,b)::l:=rfl
section
local instance (priority:=100000) Ahm (p:Prop):Decidable p:=Yz p
def Fp(ds:h8)(M:c5):R3 D:=match ds with
 |[.ref n]=>match jr M[n]? with
  |some kvs=>alloc (.j3 kvs) M|none=>.bad
 |[.U x]=>match kJ x with
  |some l=>if b9 l<=100000 then alloc (.j3<|dictOf l) M else .bad|none=>.bad
 |_=>.bad
@[simp] theorem QG:∀n,Fp ([.ref n]) M=(match jr M[n]? with
  |some kvs=>alloc (.j3 kvs) M|none=>.bad):=λ_=>rfl
@[simp] theorem XD:∀x,Fp ([.U x]) M=(match kJ x with
  |some l=>if b9 l<=100000 then alloc (.j3<|dictOf l) M else .bad|none=>.bad):=λ_=>rfl
end
def JL(ds:h8)(M:c5):R3 D:=match ds with
 |[.int i]=>.ok (.int i) M|[.bl b]=>.ok (.int<|if b then 1 else 0) M|_=>.bad
@[simp] theorem AhV:∀i,JL ([.int i]) M= .ok (.int i) M:=λ_=>rfl
@[simp] theorem Zxr:∀b,JL ([.bl b]) M= .ok (.int<|if b then 1 else 0) M:=λ_=>rfl
def qI:h8->Option l8
 |[]=>O []|.int i::r=>(qI r).map (i:: ·)|_::_=>Yj
def cG:S3:=λenv M=>.nx env M
def oG:S3:=λ_ _=>.bad
def Zx(f g:S3):S3:=λenv M=>match f env M with
 | .nx env' M'=>g env' M'|o=>o
def aQ(c:E3)(f g:S3):S3:=λenv M=>match c env M with
 | .ok (.bl true) M1=>f env M1|.ok (.bl false) M1=>g env M1|.exc x M1=>.exc x M1|_=>.bad
def aP(f:E3):S3:=λenv M=>match f env M with
 | .ok d M1=>.rt d M1|.exc x M1=>.exc x M1|.bad=>.bad
def aG(f:E3):S3:=λenv M=>match f env M with
 | .ok _ M1=>.nx env M1|.exc x M1=>.exc x M1|.bad=>.bad
def aD(i:Nat)(f:E3):S3:=λenv M=>match f env M with
 | .ok d M1=>.nx (env.set i<|O d) M1|.exc x M1=>.exc x M1|.bad=>.bad
def QH(o i f:E3):S3:=aG<|e3 JK f o i
abbrev G3:=D->Zz->Option Zz
@[simp] def bK(i:Nat):G3:=λd env=>O<|env.set i<|O d
def bindAll:i4->h8->Zz->Option Zz
 |[],[],env=>O env|i::is,d::ds,env=>bindAll is ds (env.set i<|O d)|_,_,_=>Yj
@[simp] theorem QJ:∀env,bindAll ([]) ([]) (env)=O env:=λ_=>rfl
@[simp] theorem QK:∀i is d ds env,bindAll (i::is) (d::ds) (env)=bindAll is ds (env.set i<|O d):=λ_ _ _ _ _=>rfl
@[simp] def pR(is:i4):G3:=λd env=>match d with
 | .U ds=>bindAll is ds env|_=>Yj
structure iD where
 items:h8
 lock:Option Nat
abbrev I3:=Zz->c5->R3 iD
section
local instance (priority:=100000) Ahn (p:Prop):Decidable p:=Yz p
@[simp] def g_(f:E3):I3:=λenv M=>(f env M).bind λa M1=>match a with
 | .U ds=>.ok ⟨ds,Yj⟩ M1|.cI ds=>.ok ⟨ds,Yj⟩ M1|.str x=>if x.length<=SZ then .ok ⟨x.map λc=>.str [c],Yj⟩ M1 else .bad|.ref n=>match M1[n]? with
  |some (.L ds)=>.ok ⟨ds,O n⟩ M1|_=>.bad
 |_=>.bad
end
def qJ(lo:Int)(n:Nat):h8:=(fM n).map λ(k:Nat)=>D.int<|lo+(k:Int)
section
local instance (priority:=100000) Aho (p:Prop):Decidable p:=Yz p
@[simp] def pU(f:E3):I3:=λenv M=>(f env M).bind λa M1=>match a with
 | .int j=>if j<=1000000/\ -1000000<=j then .ok ⟨qJ 0 j.toNat,Yj⟩ M1 else .bad|_=>.bad
end
def i8(it:iD)(M:c5):Bool:=match it.lock with
 |none=>true|some n=>decide<|M[n]?=O (.L it.items)
def dF(it:iD)(g:G3)(body:S3):h8->Zz->c5->O3
 |[],env,M=>if i8 it M then .nx env M else .bad|d::ds,env,M=>if i8 it M then match g d env with
  |none=>.bad|some cY=>match body cY M with
   | .nx e M'=>dF it g body ds e M'|.ct e M'=>dF it g body ds e M'|.bk e M'=>.nx e M'|o=>o
  else .bad
def pW{g:G3}{body:S3}:dF it g body [] env M=if i8 it M then .nx env M else .bad:=rfl
def oH{g:G3}{body:S3}{d:D}{ds:h8}:dF it g body (d::ds) env M=if i8 it M then match g d env with
  |none=>.bad|some cY=>match body cY M with
   | .nx e M'=>dF it g body ds e M'|.ct e M'=>dF it g body ds e M'|.bk e M'=>.nx e M'|o=>o
  else .bad:=rfl
def lF(i:I3)(g:G3)(body:S3):S3:=λenv M=>match i env M with
 | .ok it M1=>dF it g body it.items env M1|.exc x M1=>.exc x M1|.bad=>.bad
def jl(c:E3)(body:S3):Nat->Zz->c5->O3
 |0,_,_=>.bad|n+1,env,M=>match c env M with
  | .ok (.bl true) M1=>match body env M1 with
   | .nx e M'=>jl c body n e M'|.ct e M'=>jl c body n e M'|.bk e M'=>.nx e M'|o=>o
  | .ok (.bl false) M1=>.nx env M1|.exc x M1=>.exc x M1|_=>.bad
def oJ{c:E3}{body:S3}{n:Nat}:jl c body (n+1) env M=match c env M with
  | .ok (.bl true) M1=>match body env M1 with
   | .nx e M'=>jl c body n e M'|.ct e M'=>jl c body n e M'|.bk e M'=>.nx e M'|o=>o
  | .ok (.bl false) M1=>.nx env M1|.exc x M1=>.exc x M1|_=>.bad:=rfl
def Fq(c:E3)(body:S3):S3:=jl c body 1000000
def v4:List E3->Zz->c5->R3 Bool
 |[],_,M=>.ok true M|c::cs,env,M=>(c env M).bind λa M1=>match a with
  | .bl true=>v4 cs env M1|.bl false=>.ok false M1|_=>.bad
def Ft:v4 [] env M= .ok true M:=rfl
def QL{c:E3}{cs:List E3}:v4 (c::cs) env M=(c env M).bind λa M1=>match a with
  | .bl true=>v4 cs env M1|.bl false=>.ok false M1|_=>.bad:=rfl
section
local instance (priority:=100000) U1 (p:Prop):Decidable p:=Yz p
def eG(it:iD)(g:G3)(ifs:List E3)(elt:E3)(n:Nat):h8->Zz->c5->R3 D
 |[],_,M=>if i8 it M then .ok (.ref n) M else .bad|d::ds,env,M=>if i8 it M then match g d env with
  |none=>.bad|some cY=>(v4 ifs cY M).bind λb M1=>if b then(elt cY M1).bind λe M2=>match M2[n]? with
    |some (.L x)=>if x.length<SZ then eG it g ifs elt n ds cY (M2.set n<|.L<|x++[e])else .bad|_=>.bad
   else eG it g ifs elt n ds cY M1
  else .bad
def QM{g:G3}{ifs:List E3}{elt:E3}{n:Nat}:eG it g ifs elt n [] env M=if i8 it M then .ok (.ref n) M else .bad:=rfl
def Fv{g:G3}{ifs:List E3}{elt:E3}{n:Nat}{d:D}{ds:h8}:eG it g ifs elt n (d::ds) env M=if i8 it M then match g d env with
  |none=>.bad|some cY=>(v4 ifs cY M).bind λb M1=>if b then(elt cY M1).bind λe M2=>match M2[n]? with
    |some (.L x)=>if x.length<SZ then eG it g ifs elt n ds cY (M2.set n<|.L<|x++[e])else .bad|_=>.bad
   else eG it g ifs elt n ds cY M1
  else .bad:=rfl
end
def lG(i:I3)(own:Nat)(g:G3)(ifs:List E3)(elt:E3):E3:=λenv M=>(i env M).bind λit M1=>eG it g ifs elt (b9 M1) it.items (env++Yg own Yj)<|M1++[.L []]
def v5(n:Nat):MO->Bool
 | .L xs=>cu n xs|.j3 kvs=>cu n (kvs.map (·.2))|.dW kvs=>cu n (kvs.map (·.2))|.ins _ fs=>cu n<|fs.map (·.2)
def tidy(M:c5)(d:D)(M':c5):R3 D:=if below (b9 M) d&&(decide (M'.take (b9 M)=M)|| (M'.take<|b9 M).all (v5<|b9 M))then .ok d (M'.take<|b9 M)else .ok d M'
def aK(ps n:Nat)(body:S3):F3:=λds M=>if b9 ds=ps then match body (ds.map O++Yg (n-ps) Yj) M with
  | .nx _ M'=>tidy M .Z M'|.rt d M'=>tidy M d M'|.exc x M'=>.exc x M'|_=>.bad
 else .bad
end
end L3
namespace L3
variable{it:iD}{body:S3}
def U2{g:G3}{P:Nat->Zz->c5->Prop}:∀(ds:h8) (j:Nat) (env:Zz) (M:c5),P j env M->(∀j env M,P j env M->i8 it M=true) ->
  (∀(k:Nat) d,ds[k]?=O d->∀env M,P (j+k) env M->∃cY e' M',g d env=O cY/\body cY M= .nx e' M'/\P (j+k+1) e' M')->∃e' M',dF it g body ds env M= .nx e' M'/\P (j+b9 ds) e' M':=by
 intro ds
 induction ds with
 |nil=>intro j env M p hl _;exact⟨env,M,by simp only[pW,oH,hl j env M p,if_true],p⟩|cons d ds ih=>
  intro j env M p hl hs;let⟨cY,e',M',h1,h2,p'⟩:=hs 0 d aaD env M p;let⟨e2,M2,h3,p2⟩:=ih (j+1) e' M' p' hl λk d' sR env M p=>by have:=hs (k+1) d' (by simpa using sR) env M (by rwa[show j+(k+1)=j+1+k by exact iJ c8 c8]);rwa[show j+(k+1)+1=j+1+k+1 by exact iJ c8 c8]at this
  exact⟨e2,M2,by simp only[pW,oH,hl j env M p,if_true,h1,h2,h3],by rwa[Yh,show j+(b9 ds+1)=j+1+b9 ds by exact iJ c8 c8]⟩
variable{env env':Zz}{M M':c5}
def Zm{f g:S3}(h:f env M= .nx env' M'):Zx f g env M=g env' M':=by rw[Zx,h]
variable{d:D}
def oK{f g:S3}(h:f env M= .rt d M'):Zx f g env M= .rt d M':=by rw[Zx,h]
variable{c:E3}
def eN{f g:S3}(h:c env M= .ok (.bl true) M'):aQ c f g env M=f env M':=by rw[aQ,h]
def fU{f g:S3}(h:c env M= .ok (.bl false) M'):aQ c f g env M=g env M':=by rw[aQ,h]
variable{f:E3}
def dh(h:f env M= .ok d M'):aP f env M= .rt d M':=by rw[aP,h]
def bU{i:Nat}(h:f env M= .ok d M')(he:env.set i (O d)=env':=by first|(dsimp only[lW,lX]<;>exact rfl)|exact rfl):aD i f env M= .nx env' M':=by rw[aD,h];simp only[he]
def jt{f:S3}(h:c env M= .ok (.bl false) M'):aQ c f cG env M= .nx env M':=by rw[aQ,h];rfl
def jE(h:f env M= .ok d M'):aG f env M= .nx env M':=by rw[aG,h]
def Bb{i:I3}{g:G3}{u:S3}(h:i env M= .ok it M'):lF i g u env M=dF it g u it.items env M':=by rw[lF,h]
def XF{i:I3}{own:Nat}{g:G3}{ts:List E3}(h:i env M= .ok it M'):lG i own g ts f env M=eG it g ts f (b9 M') it.items (env++Yg own Yj) (M'++[.L []]):=by rw[lG,h];rfl
variable{n:Nat}{ds:h8}
def iR{ps:Nat}(h:body env M= .rt d M')(hl:b9 ds=ps:=by rfl)(he:ds.map O++Yg (n-ps) Yj=env:=by rfl):aK ps n body ds M=tidy M d M':=by rw[aK,f_ hl,he,h]
def yt{ps:Nat}(h:body env M= .nx env' M')(hl:b9 ds=ps:=by rfl)(he:ds.map O++Yg (n-ps) Yj=env:=by rfl):aK ps n body ds M=tidy M .Z M':=by rw[aK,f_ hl,he,h]
def yu{G:c5}(h:below (b9 M) d=true):tidy M d (M++G)= .ok d M:=by simp[tidy,h]
def QQ(h:below (b9 M) d=true):tidy M d M= .ok d M:=by simp[tidy,h]
variable{α:Type}
def cW(M:List α)(x:α)(xs:List α):(M++x::xs)[b9 M]?=O x:=by simp
def v6(M xs:List α)(k:Nat):(M++xs)[b9 M+k]?=xs[k]?:=by rw[xR<|xW _ _];congr 1;exact iJ c8 c8
def JM(M xs:List α)(k:Nat)(o:α):(M++xs).set (b9 M+k) o=M++xs.set k o:=by rw[List.set_append_right _ _<|xW _ _];congr 2;exact iJ c8 c8
def h_{M:List α}{o:α}(h:M[n]?=O o)(xs:List α):(M++xs)[n]?=O o:=by rw[Y4 (Yd.mp h).1,h]
def lH(xs:List α)(k:Nat):fK xs (k:Int)=xs[k]?:=by
 unfold fK pO;rw[f_<|Wm k];by_cases h:k<xs.length
 .rw[f_<|Wq.2 h];simp
 .rw[i6<|by exactλz=>by omega];simp at h |-;exact h
@[simp] theorem AhW(xs:List α)(k:Nat):fK xs (k:Int)=xs[k]?:=lH xs k
@[simp] theorem AhX(xs:List α)(n:Nat):fK xs (no_index (Jg n:Int))=xs[(Jg n:Nat)]?:=lH xs n
@[simp] theorem AhY(xs:List α):fK xs (-1)=xs.getLast?:=by
 unfold fK pO;rw[i6 aaE,List.getLast?_eq_getElem?];by_cases h:0<xs.length
 .rw[f_ c8];simp only[LO];congr 1;exact iJ c8 c8
 .have:xs=[]:=by simpa using h
  subst this;rfl
def VA(n k:Nat):pO n (k:Int)=if k<n then O k else Yj:=by
 unfold pO;rw[f_<|Wm k];by_cases h:k<n
 .rw[f_<|Wq.2 h,f_ h];simp
 .rw[i6 (by exactλz=>by omega),i6 h]
@[simp] theorem AhZ(n k:Nat):pO n (k:Int)=if k<n then O k else Yj:=VA n k
@[simp] theorem Ah0(m n:Nat):pO m (no_index (Jg n:Int))=if(Jg n:Nat)<m then O (Jg n:Nat)else Yj:=VA m n
def getD_last(xs:List α)(x:α):fK (xs++[x]) (-1)=O x:=by
 unfold fK pO;rw[i6 aaE,f_ oP];have:(-1+((xs++[x]).length:Int)).toNat=b9 xs:=by simp;exact iJ c8 c8
 simp only[LO,this];simp
def Zvg(xs:List α):oC xs Yj (O<|-1)=xs.dropLast:=by unfold oC aN;simp only[Wa];rw[f_ aaE,V4];congr 1;omega
inductive Row where
 |put (a:Nat) (n:Int)|add (a b c:Nat)|sub (a b c:Nat)|more (a b c:Nat)|get (a b:Nat)|set (a b:Nat)|pE (k:Nat)|qq (a k:Nat)|tell (a:Nat)|halt
 deriving Inhabited
def dO:Row->D
 | .put a n=>.U [.str [112,117,116],.int a,.int n]|.add a b c=>.U [.str [97,100,100],.int a,.int b,.int c]|.sub a b c=>.U [.str [115,117,98],.int a,.int b,.int c]|.more a b c=>.U [.str [109,111,114,101],.int a,.int b,.int c]
 | .get a b=>.U [.str [103,101,116],.int a,.int b]|.set a b=>.U [.str [115,101,116],.int a,.int b]|.pE k=>.U [.str [106,117,109,112],.int k]|.qq a k=>.U [.str [119,104,101,110],.int a,.int k]
 | .tell a=>.U [.str [116,101,108,108],.int a]|.halt=>.U [.str [104,97,108,116]]
def Row.ok(om:Nat):Row->Prop
 | .put a _=>a<8|.add a b c=>a<8/\b<8/\c<8|.sub a b c=>a<8/\b<8/\c<8|.more a b c=>a<8/\b<8/\c<8
 | .get a b=>a<8/\b<8|.set a b=>a<8/\b<8|.pE k=>k<om|.qq a k=>a<8/\k<om
 | .tell a=>a<8|.halt=>True
abbrev fV:=List Row
def cZ(r:fV):D:=.U<|r.map dO
structure yw(r:fV):Prop where
 rows:∀x∈r,x.ok r.length
 last:∃q x,r=q++[x]/\(x= .halt\/∃k,x= .pE k)
structure cj where
 place:Nat
 dj:l8
 cells:qv
 deriving Inhabited,DecidableEq
def bQ(bs:l8):D:=.U<|bs.map D.int
def j6(c:Int×Int):D:=.U [.int c.1,.int c.2]
def dZ(cs:qv):D:=.U<|cs.map j6
def Zu(s:cj):D:=.U [.int s.place,bQ s.dj,dZ s.cells]
def cj.ok(r:fV)(s:cj):Prop:=s.place<r.length/\s.dj.length=8
def Row.tells(bs:l8):Row->pe
 | .tell a=>bs[a]?|_=>Yj
def Row.lu:Row->Bool
 | .halt=>true|_=>false
variable{a:Nat}
@[simp] theorem Ah1{n:Int}{bs:l8}:(Row.put a n).tells bs=Yj:=rfl
@[simp] theorem Ah2{n:Int}:(Row.put a n).lu=false:=rfl
variable{b:Nat}
@[simp] theorem Ah3{c:Nat}{bs:l8}:(Row.add a b c).tells bs=Yj:=rfl
@[simp] theorem Ah4{c:Nat}:(Row.add a b c).lu=false:=rfl
@[simp] theorem Ah5{c:Nat}{bs:l8}:(Row.sub a b c).tells bs=Yj:=rfl
@[simp] theorem Ah6{c:Nat}:(Row.sub a b c).lu=false:=rfl
@[simp] theorem Zy0{c:Nat}{bs:l8}:(Row.more a b c).tells bs=Yj:=rfl
@[simp] theorem Zyh{c:Nat}:(Row.more a b c).lu=false:=rfl
@[simp] theorem Ah7{bs:l8}:(Row.get a b).tells bs=Yj:=rfl
@[simp] theorem Zzb:(Row.get a b).lu=false:=rfl
@[simp] theorem Ah8{bs:l8}:(Row.set a b).tells bs=Yj:=rfl
@[simp] theorem Ah9:(Row.set a b).lu=false:=rfl
@[simp] theorem Aia{k:Nat}{bs:l8}:(Row.pE k).tells bs=Yj:=rfl
@[simp] theorem ZyI{k:Nat}:(Row.pE k).lu=false:=rfl
@[simp] theorem Aib{k:Nat}{bs:l8}:(Row.qq a k).tells bs=Yj:=rfl
@[simp] theorem Zyr{k:Nat}:(Row.qq a k).lu=false:=rfl
@[simp] theorem Aic{bs:l8}:(Row.tell a).tells bs=bs[a]?:=rfl
@[simp] theorem ZyO:(Row.tell a).lu=false:=rfl
@[simp] theorem Zzd{bs:l8}:(Row.halt).tells bs=Yj:=rfl
@[simp] theorem Zys :(Row.halt).lu=true:=rfl
def XH(r:fV)(ss:List cj):l8:=ss.dropLast.filterMap λs=>(r[s.place]?).bind λx=>x.tells s.dj
def rW(r:fV)(s:cj):Bool:=match r[s.place]? with
 |some x=>x.lu|none=>false
def XJ(n:Nat)(i:Int):cP n (.int i)=true:=by cases n<;>rfl
def ZsP(n:Nat)(bs:l8):cP (n+1) (bQ bs)=true:=by simp[bQ,UC,UD,UE,UH,UI,XJ]
def Zqd(n:Nat)(cs:qv):cP (n+2) (dZ cs)=true:=by simp[dZ,j6,UC,UD,UE,UH,UI,XJ]
mutual
theorem ZtK:∀(n:Nat) (d:D),cP n d=true->eU d d=true
 |_,.Z,_=>rfl|_,.bl b,_=>beq_self_eq_true b|_,.int b,_=>beq_self_eq_true b|_,.str b,_=>beq_self_eq_true b
 |0,.U _,h=>ft h|n+1,.U ds,h=>QR n ds (nY.mp h)|n,.cI _,h=>by cases n<;>exact ft h|n,.ref _,h=>by cases n<;>exact ft h
theorem QR:∀(n:Nat) (ds:h8),(∀d∈ds,cP n d=true)->gY ds ds=true
 |_,[],_=>rfl|n,d::ds,h=>by simp only[Zzg,Xq,j5];exact⟨ZtK n d<|h d Yv,QR n ds λx hx=>h x<|Yk _ hx⟩
end
def Zs4(h:ds.all (cP pz)=true):gY ds ds=true:=QR pz ds (by simpa using h)
def Rt(o:O3)(d:D):Prop:=∃M',o= .rt d M'
def Rt.set{i:Nat}{g:S3}{d r:D}(h:f env M= .ok d M')(k:Rt (g env' M') r)(he:env.set i (O d)=env':=by first|(dsimp only[lW,lX]<;>exact rfl)|exact rfl):Rt (Zx (aD i f) g env M) r:=by rwa[Rt,Zm (bU h he)]
def Rt.skip{u g:S3}{r:D}(h:c env M= .ok (.bl false) M')(k:Rt (g env M') r):Rt (Zx (aQ c u cG) g env M) r:=by rwa[Rt,Zm<|jt h]
def Rt.loop{i:I3}{t:G3}{u g:S3}{M M' M1:c5}{r:D}(h:i env M= .ok it M1)(hl:dF it t u it.items env M1= .nx env' M')(k:Rt (g env' M') r):Rt (Zx (lF i t u) g env M) r:=by rwa[Rt,Zm<|(Bb h).trans hl]
def Rt.ret(h:f env M= .ok d M'):Rt (aP f env M) d:=⟨M',dh h⟩
def Rt.law{ps:Nat}{b:Bool}(h:Rt (body env []) (.bl b))(hl:b9 ds=ps:=by rfl)(he:ds.map O++Yg (n-ps) Yj=env:=by rfl):∃M',aK ps n body ds []= .ok (.bl b) M':=by let⟨M',h⟩:=h;exact⟨_,(iR h hl he).trans<|by rw[tidy,f_<|by simp[below]]⟩
def Rt.pure{ps:Nat}{G:c5}(h:body env M= .rt d (M++G))(hd:below (b9 M) d=true)(hl:b9 ds=ps:=by rfl)(he:ds.map O++Yg (n-ps) Yj=env:=by rfl):aK ps n body ds M= .ok d M:=(iR h hl he).trans<|yu hd
def Zw9{lo:Int}{j:Nat}(h:(qJ lo n)[j]?=O d):d= .int (lo+j)/\j<n:=by
 unfold qJ at h;rw[lB]at h;cases q:(fM n)[j]? with
 |none=>rw[q]at h;cases h|some k=>rw[q]at h;let⟨hi,e⟩:=Yd.mp q;rw[Nd]at e;subst e;simp at h hi;exact⟨h.symm,hi⟩
def Zut{j:Nat}(h:(qJ 0 n)[j]?=O d):d= .int (j:Int)/\j<n:=by let⟨e,l⟩:=Zw9 h;exact⟨by rw[e,Wr],l⟩
variable{xs:h8}
def ZtW{o arg:E3}{M M2:c5}{ys:h8}(ho:o env M= .ok (.ref n) M)(hM:M[n]?=O (.L xs))(ha:arg env M= .ok d M2)(XM:M2[n]?=O (.L ys))(hz:b9 ys<1000000):
  bA bO cQ o (Za arg Ze) env M= .ok .Z (M2.set n<|.L<|ys++[d]):=by
 simp[ho,hM,ha,XM,hz]
variable{g:E3}
def Zg{op:D->D->c5->R3 D}{M M1 M2 M3:c5}{a b:D}(h1:f env M= .ok a M1)(h2:g env M1= .ok b M2)(h3:op a b M2= .ok d M3):e2 op f g env M= .ok d M3:=by simp only[e2,h1,h2,h3,R3.bind]
theorem _root_.vb{p:Prop}(h:p:=by exact Zg aaD aaD aaD):p:=h
variable{F:F3}
def lJ{M M1 M2:c5}{a:D}(h1:f env M= .ok a M1)(h2:F [a] M1= .ok d M2):Zr F (Za f Ze) env M= .ok d M2:=by simp only[Zr,Za,Ze,h1,h2,R3.bind]
def jU{M M1 M2 M3:c5}{a b:D}(h1:f env M= .ok a M1)(h2:g env M1= .ok b M2)(h3:F [a,b] M2= .ok d M3):Zr F (Za f<|Za g Ze) env M= .ok d M3:=by simp only[Zr,Za,Ze,h1,h2,h3,R3.bind]
def nA{h:E3}{M M1 M2 M3 M4:c5}{a b c:D}(h1:f env M= .ok a M1)(h2:g env M1= .ok b M2)(h3:h env M2= .ok c M3)(h4:F [a,b,c] M3= .ok d M4):Zr F (Za f<|Za g<|Za h Ze) env M= .ok d M4:=by simp only[Zr,Za,Ze,h1,h2,h3,h4,R3.bind]
@[simp] theorem Aid(a b:uh):(a==b)=decide (a=b):=by cases a<;>cases b<;>rfl
def VC{f g h k:E3}{M M1 M2 M3 M4 M5:c5}{a b c e:D}(h1:f env M= .ok a M1)(h2:g env M1= .ok b M2)(h3:h env M2= .ok c M3)(h4:k env M3= .ok d M4)(h5:F [a,b,c,d] M4= .ok e M5):Zr F (Za f<|Za g<|Za h<|Za k Ze) env M= .ok e M5:=by simp only[Zr,Za,Ze,h1,h2,h3,h4,h5,R3.bind]
def eO{b:h8->c5->R3 D}{M M1 M2:c5}{a:D}(h1:f env M= .ok a M1)(h2:b [a] M1= .ok d M2):aL b (Za f Ze) env M= .ok d M2:=by simp only[aL,Za,Ze,h1,h2,R3.bind]
def di{op:D->c5->R3 D}{M M1 M2:c5}{a:D}(h1:f env M= .ok a M1)(h2:op a M1= .ok d M2):e1 op f env M= .ok d M2:=by simp only[e1,h1,h2,R3.bind]
def Zk{g:dg}{M M1 M2:c5}(h1:f env M= .ok d M1)(h2:g env M1= .ok ds M2):Za f g env M= .ok (d::ds) M2:=by simp only[Za,h1,h2,R3.bind]
theorem _root_.xk{p:Prop}(h:p:=by exact Zk aaD aaD):p:=h
def cR{g:dg}(h:g env M= .ok ds M')(hl:decide (b9 ds<=100)=true):aR g env M= .ok (.U ds) M':=by have:=of_decide_eq_true hl;simp only[aR,h,R3.bind];rw[f_<|Yx this aaE]
theorem _root_.xm{p:Prop}(h:p:=by exact cR aaD aaD):p:=h
theorem _root_.vc{p:Prop}(h:p:=by exact Zk (cR aaD aaD) aaD):p:=h
def kO(h:M[n]?=O (.L xs)):a_ [.ref n] M= .ok (.int (b9 xs:Int)) M:=by simp only[Ay,QB,Xx,Az,h]
def yx(h:M[n]?=O (.L xs)):jT [.ref n] M= .ok (.U xs) M:=by simp only[US,UU,Fl,h]
variable{i:Int}
def jF(h:M[n]?=O (.L xs))(hd:fK xs i=O d):Zj (.ref n) (.int i) M= .ok d M:=by simp only[Qy,JB,JC,Qz,h,hd]
def mz(hd:fK xs i=O d):Zj (.U xs) (.int i) M= .ok d M:=by simp only[Qy,JB,JC,Qz,hd]
def mC{a b:Int}(h:a=b):bJ (.int a) (.int b) M= .ok (.bl true) M:=by simp only[bJ,Jv,Jw,Aw,Jx,Jy,qc h]
def iW{a b:Int}(h:¬a=b):bJ (.int a) (.int b) M= .ok (.bl false) M:=by simp only[bJ,Jv,Jw,Aw,Jx,Jy,pf h]
def fj{j:Int}(h:0<j):bH (.int i) (.int j) M= .ok (.int<|i % j) M:=by simp only[UN,f_ h]
theorem _root_.A8{p:Prop}(h:p:=by exact Zg aaD aaD<|fj aaE):p:=h
def yC{M M1:c5}(h1:f env M= .ok (.bl false) M1):jO f g env M=g env M1:=by simp only[jO,h1,R3.bind]
def XQ{M M1:c5}(h1:f env M= .ok (.bl true) M1):jO f g env M= .ok (.bl true) M1:=by simp only[jO,h1,R3.bind]
def ul{M M1:c5}(h1:f env M= .ok (.bl true) M1):iV f g env M=g env M1:=by simp only[iV,h1,R3.bind]
def JN{M M1:c5}(h1:f env M= .ok (.bl false) M1):iV f g env M= .ok (.bl false) M1:=by simp only[iV,h1,R3.bind]
def QS{M M1:c5}(h1:c env M= .ok (.bl true) M1):rQ c f g env M=f env M1:=by simp only[rQ,h1,R3.bind]
def XR{M M1:c5}(h1:c env M= .ok (.bl false) M1):rQ c f g env M=g env M1:=by simp only[rQ,h1,R3.bind]
def qK(t:qv):l9:=t.map λp=>(.inl p.1,.int p.2)
def keysOk(t:qv):Prop:=(t.map (·.1)).Nodup
def iY:qv->Int->Int
 |[],_=>0|(k,v)::r,n=>if k=n then v else iY r n
def ZvG(t:qv)(n:Int):cD (qK t) (.inl n)=(if t.any (λp=>decide<|p.1=n)=true then O (D.int<|iY t n)else Yj):=by
 induction t with
 |nil=>rfl|cons p t ih=>
  let⟨k,v⟩:=p;show(if(Sum.inl k:aH)=Sum.inl n then O (D.int v)else cD (qK t) (.inl n))=_;by_cases e:k=n
  .simp[e,iY]
  .rw[i6 (by simp[e]),ih];simp only[nZ,iY,i6 e,pf e,O9]
def QT{t:qv}{n:Int}(h:¬t.any (λp=>decide<|p.1=n)=true):iY t n=0:=by
 induction t with
 |nil=>rfl|cons p t ih=>let⟨k,v⟩:=p;simp only[nZ,vM,decide_eq_true_eq,not_or]at h;simp only[iY,i6 h.1];exact ih (by simpa using h.2)
def Zv0(t:qv)(n:Int):(cD (qK t)<|.inl n).getD (.int 0)= .int (iY t n):=by
 rw[ZvG];by_cases c:(t.any λp=>decide<|p.1=n)=true
 .rw[f_ c];rfl
 .rw[i6 c,QT c];rfl
def XS{t:qv}(h:keysOk t){k v:Int}(hm:(k,v)∈t):iY t k=v:=by
 induction t with
 |nil=>simp at hm|cons p t ih=>
  let⟨a,b⟩:=p;unfold keysOk at h;simp only[Y2,lC]at h;rcases Yt.mp hm with e|e
  .cases e;simp[iY]
  .have:a≠k:=λz=>h.1<|rJ.mpr ⟨(k,v),e,z.symm⟩;simp only[iY,i6 this];exact ih h.2 e
def qL(cs:qv):Prop:=cs.Pairwise λa b=>a.1<b.1
variable{cs:qv}
def qL.keys(h:qL cs):keysOk cs:=by unfold keysOk qL at *;rw[vL,Nw];exact h.imp λh=>Int.ne_of_lt h
def iT(cs:qv)(n v:Int):qv:=cs.filter (λc=>decide<|c.1<n)++(if v≠0 then[(n,v)]else[])++cs.filter (λc=>decide<|n<c.1)
def QV{n v:Int}{q:Int×Int}:q∈iT cs n v↔(q=(n,v)/\v≠0)\/(q.1≠n/\q∈cs):=by
 unfold iT;simp only[Yr,Eb,decide_eq_true_eq];have hm:q∈(if v≠0 then[(n,v)]else[])↔(q=(n,v)/\v≠0):=by
  by_cases c:v≠0
  .rw[f_ c];simp[c]
  .rw[i6 c];simp[c]
 rw[hm];constructor
 .rintro((⟨h1,h2⟩|h)|⟨h1,h2⟩)
  .right;exact⟨(λz=>by omega),h1⟩
  .left;exact h
  .right;exact⟨(λz=>by omega),h1⟩
 .rintro(h|⟨h1,h2⟩)
  .left;right;exact h
  .rcases Int.lt_or_gt_of_ne h1 with c|c
   .left;left;exact⟨h2,c⟩
   .right;exact⟨h2,c⟩
def QW{n v:Int}(h:qL cs):qL (iT cs n v):=by
 unfold iT qL at *;have hm:∀q∈(if v≠0 then[(n,v)]else[]),q.1=n:=λq hq=>by
  by_cases c:v≠0
  .rw[f_ c]at hq;simp at hq;rw[hq]
  .rw[i6 c]at hq;simp at hq
 refine MX.mpr ⟨MX.mpr ⟨h.filter _,?_,λa ha b hb=>?_⟩,h.filter _,λa ha b hb=>?_⟩
 .by_cases c:v≠0
  .rw[f_ c];simp
  .rw[i6 c];simp
 .have h1:=(Eb.mp ha).2;rw[hm b hb];simpa using h1
 .have h2:n<b.1:=by simpa using(Eb.mp hb).2
  rcases Yr.mp ha with ha|ha
  .have:a.1<n:=by simpa using(Eb.mp ha).2
   exact Int.lt_trans this h2
  .rwa[hm a ha]
def Row.place(bs:l8)(p:Nat):Row->Nat
 | .pE k=>k|.qq a k=>if 0<bs.getD a 0 then k else p+1|_=>p+1
def Row.dj(bs:l8)(cs:qv):Row->l8
 | .put a n=>bs.set a n|.add a b c=>bs.set a (bs.getD b 0+bs.getD c 0)|.sub a b c=>bs.set a (bs.getD b 0-bs.getD c 0)|.more a b c=>bs.set a<|if bs.getD c 0<bs.getD b 0 then 1 else 0
 | .get a b=>bs.set a (iY cs<|bs.getD b 0)|_=>bs
def Row.cells(bs:l8)(cs:qv):Row->qv
 | .set a b=>iT cs (bs.getD a 0) (bs.getD b 0)|_=>cs
def Bc(s:cj)(r:Row):Option cj:=if r.lu then Yj else O ⟨r.place s.dj s.place,r.dj s.dj s.cells,r.cells s.dj s.cells⟩
def iZ(roll:fV)(s:cj):Option cj:=(roll[s.place]?).bind<|Bc s
def JP:Option cj->D
 |none=>.Z|some s=>Zu s
def Zqr(cs:qv):kJ (cs.map j6)=O (qK cs):=by
 induction cs with
 |nil=>rfl|cons p cs ih=>rw[Y2,j6,ZuA,ih];rfl
def XX(kvs:l9)(k j:aH)(v:D):cD (oI k v kvs) j=if j=k then O v else cD kvs j:=by
 have mp:∀l:l9,cD (l.map λp=>if p.1=k then(p.1,v)else p) j=if j=k then(if l.any (λp=>decide<|p.1=k)then O v else Yj)else cD l j:=by
  intro l
  induction l with
  |nil=>simp[cD]|cons p l ih=>
   let⟨a,b⟩:=p;rw[Y2];by_cases e:a=k
   .subst e;simp only[if_true,cD];by_cases ej:a=j
    .subst ej;simp
    .rw[i6 ej,ih,i6<|cF ej,i6<|cF ej,i6 ej]
   .simp only[i6 e,cD];by_cases ej:a=j
    .subst ej;simp[e]
    .rw[i6 ej,ih,i6 ej];simp only[nZ,pf e,O9]
 have ap:∀l:l9,¬l.any (λp=>decide<|p.1=k)=true->cD (l++[(k,v)]) j=if j=k then O v else cD l j:=by
  intro l
  induction l with
  |nil=>intro _;simp only[qy,cD];by_cases e:k=j<;>simp[e,cF,eq_comm]|cons p l ih=>
   intro h;let⟨a,b⟩:=p;simp only[nZ,vM,decide_eq_true_eq,not_or]at h;simp only[pF,cD];by_cases ej:a=j
   .subst ej;rw[f_ aaD,i6 h.1,f_ aaD]
   .rw[i6 ej,i6 ej];exact ih (by simpa using h.2)
 unfold oI;by_cases c:(kvs.any λp=>decide<|p.1=k)=true
 .rw[f_ c,mp,c];simp
 .rw[i6 c];exact ap kvs c
theorem X4:∀(l acc:l9) (j:aH),(l.map (·.1)).Nodup->cD (l.foldl (λa p=>oI p.1 p.2 a) acc) j=(match cD l j with|some v=>O v|none=>cD acc j)
 |[],acc,j,_=>rfl|p ::l,acc,j,h=>by
  let⟨k,v⟩:=p;simp only[Y2,lC]at h;rw[qx,X4 l _ j h.2,XX];simp only[cD];by_cases e:k=j
  .subst e;have:cD l k=Yj:=by
    have hn:=h.1;clear h
    induction l with
    |nil=>rfl|cons q l ih=>simp only[Y2,Yt,not_or]at hn;simp only[cD];rw[i6<|cF hn.1];exact ih hn.2
   rw[this];simp
  .rw[i6 e,i6<|cF e]
def Ztb{t:qv}(h:keysOk t):((qK t).map (·.1)).Nodup:=by unfold keysOk at h;simp only[qK,List.map_map];rw[vL,Nw]at *;exact h.imp λh e=>h (by simpa using e)
def ZtA{t:qv}(h:keysOk t)(n:Int):(cD (dictOf<|qK t)<|.inl n).getD (.int 0)= .int (iY t n):=by unfold dictOf;rw[X4 _ _ _<|Ztb h,<-Zv0];cases cD (qK t) (.inl n)<;>rfl
def ZnH{enc h:α->D}{p:α->Bool}{i:Nat}{elt:E3}{env0:Zz}:∀(as:List α) (acc:h8) (env:Zz) (M:c5),(∀d,env.set i (O d)=env0.set i (O d)) ->
  (∀a∈as,∀x,c (env0.set i<|O<|enc a) (M.set n<|.L x)= .ok (.bl<|p a) (M.set n<|.L x))->(∀a∈as,p a=true->∀x,elt (env0.set i<|O<|enc a) (M.set n<|.L x)= .ok (h a) (M.set n<|.L x)) ->
  (∀x,i8 it (M.set n<|.L x)=true)->M[n]?=O (.L acc)->b9 acc+b9 as<=SZ ->
  eG it (bK i) [c] elt n (as.map enc) env M= .ok (.ref n) (M.set n<|.L<|acc++(as.filter p).map h):=by
 intro as
 induction as with
 | nil=>
  intro acc env M _ _ _ hl hM _;have e:M.set n (.L acc)=M:=by
   apply O2;intro j;by_cases hj:j=n
   .subst hj;rw[Yu (Yd.mp hM).1,hM]
   .rw[Ym<|cF hj]
  have z5:=hl acc;rw[e]at z5;simp only[rH,QM,z5,if_true,List.filter_nil,gJ,e]
 | cons a as ih=>
  intro acc env M he hc hf hl hM hz;have hn:n<b9 M:=(Yd.mp hM).1;have e:M.set n (.L acc)=M:=by
   apply O2;intro j;by_cases hj:j=n
   .subst hj;rw[Yu hn,hM]
   .rw[Ym<|cF hj]
  have z5:=hl acc;rw[e]at z5;have r9:=hc a Yv acc;rw[e]at r9;rw[Y2];cases hp:p a with
  |false=>rw[hp]at r9;simp only[Fv,z5,if_true,bK,he<|enc a,Ft,QL,r9,R3.bind,Aj,if_false];rw[ih acc (env0.set i<|O<|enc a) M (λd'=>by rw[tW]) (λb hb x=>hc b (Yk _ hb) x) (λb hb=>hf b<|Yk _ hb) hl hM (by simp at hz |-;omega),List.filter_cons_of_neg (by simp[hp])]|true=>
   rw[hp]at r9;have VE:=hf a Yv hp acc;rw[e]at VE;have AQ:b9 acc<SZ:=by simp at hz |-;omega
   simp only[Fv,z5,if_true,bK,he<|enc a,Ft,QL,r9,R3.bind,VE,hM,AQ];rw[ih (acc++[h a]) (env0.set i<|O<|enc a) (M.set n<|.L<|acc++[h a]) (λd'=>by rw[tW]) (λb hb x=>by rw[tW];exact hc b (Yk _ hb) x) (λb hb hpb x=>by rw[tW];exact hf b (Yk _ hb) hpb x) (λx=>by rw[tW];exact hl x) (by rw[Yu hn]) (by simp at hz |-;omega),List.filter_cons_of_pos hp,tW];simp
def VI{enc h:α->D}{p:α->Bool}{own:Nat}{i:Nat}{it:I3}{elt:E3}{M M1:c5}{lock:Option Nat}{as:List α}(hi:it env M= .ok ⟨as.map enc,lock⟩ M1)(U5:∀n,lock=O n->M1[n]?=O (.L<|as.map enc))(hc:∀a∈as,∀M,c ((env++Yg own Yj).set i<|O<|enc a) M= .ok (.bl<|p a) M)(he:∀a∈as,p a=true->∀M,elt ((env++Yg own Yj).set i<|O<|enc a) M= .ok (h a) M)(hz:b9 as<=100000):
  lG it own (bK i) [c] elt env M= .ok (.ref<|b9 M1) (M1++[.L<|(as.filter p).map h]):=by
 rw [XF hi];have:=ZnH (it:=⟨as.map enc,lock⟩) (i:=i) (n:=b9 M1) (c:=c) (elt:=elt) (env0:=env++Yg own Yj) as [] (env++Yg own Yj) (M1++[.L []]) (λ_=>rfl) (λa ha x=>hc a ha _) (λa ha hp x=>he a ha hp _)
  (λx=>by
   cases lock with
   |none=>rfl|some n=>have hn:=U5 n aaD;have n9:=(Yd.mp hn).1;simp only[i8,decide_eq_true_eq];rw[Ym<|rK n9,Y4 n9,hn]) j0 oP
 refine this.trans ?_;simp
def Zq4(h:qL cs)(n v:Int):(iT cs n v).length<=b9 cs+1:=by
 unfold iT;have f:(cs.filter λc=>decide<|c.1<n).length+(cs.filter λc=>decide<|n<c.1).length<=b9 cs:=by
  clear h
  induction cs with
  |nil=>simp|cons c cs ih=>
   simp only[List.filter_cons];by_cases h1:c.1<n
   .have h2:¬n<c.1:=(λz=>by omega);simp only[h1,h2,decide_true,decide_false,if_true,Aj,if_false,Yh];omega
   .by_cases h2:n<c.1
    .simp only[h1,h2,decide_true,decide_false,if_true,Aj,if_false,Yh];omega
    .simp only[h1,h2,decide_false,Aj,if_false,Yh];omega
 rw[Ye,Ye];split <;>simp only[Yh,gw]<;>omega
def gk(roll:fV):Nat->cj->List cj
 |0,s=>[s]|k+1,s=>match iZ roll s with
  |none=>[s]|some s'=>s::gk roll k s'
variable{roll:fV}
def JQ{s s':cj}(k:Nat)(h:iZ roll s=O s'):gk roll (k+1) s=s::gk roll k s':=by show(match iZ roll s with|none=>[s]|some s'=>s::gk roll k s')=_;rw[h]
def JR{s:cj}(k:Nat)(h:iZ roll s=Yj):gk roll (k+1) s=[s]:=by show(match iZ roll s with|none=>[s]|some s'=>s::gk roll k s')=_;rw[h]
structure Good(roll:fV)(s:cj):Prop where
 pl:s.place<roll.length
 bx:b9 s.dj=8
 rs:qL s.cells
def JS{s:cj}(h:s.place<b9 roll):iZ roll s=Yj↔rW roll s=true:=by
 have hr:roll[s.place]?=O roll[s.place]:=by simp[h]
 unfold iZ rW;rw[hr];show Bc s roll[s.place]=Yj↔roll[s.place].lu=true;unfold Bc;split <;>simp_all
def Zty(r:Row)(bs:l8)(cs:qv):(r.dj bs cs).length=b9 bs:=by cases r<;>simp[Row.dj]
def X5(R:yw roll){s s':cj}(g:Good roll s)(h:iZ roll s=O s'):Good roll s'/\s'.cells.length<=b9 s.cells+1:=by
 let⟨hp,hb,hc⟩:=g;have hr:roll[s.place]?=O roll[s.place]:=by simp[hp]
 have ro:=R.rows _<|xT hp;unfold iZ at h;rw[hr]at h;have h':Bc s roll[s.place]=O s':=h;unfold Bc at h';split at h'
 .cases h'
 .rename_i nh;cases h';have nl:roll[s.place]≠ .halt->(∀k,roll[s.place]≠ .pE k)->s.place+1<b9 roll:=λn1 n2=>by
   let⟨q,x,e,hx⟩:=R.last;have hl:b9 roll=b9 q+1:=by rw[e];simp
   by_cases c:s.place=q.length
   .have:roll[s.place]=x:=by
     have:=hr;simp only[e,c]at this;simp at this;simp[c,e]
    rw[this]at n1 n2;rcases hx with hx|⟨k,hx⟩
    .exact oz hx n1
    .exact oz hx<|n2 k
   .omega
  have QX:roll[s.place]≠ .halt:=λz=>by rw[z]at nh;simp at nh
  refine⟨⟨?_,by rwa[Zty],?_⟩,?_⟩
  .generalize roll[s.place]=r at ro nl QX;cases r with
   |pE k=>exact ro|qq a k=>
    show(if 0<s.dj.getD a 0 then k else s.place+1)<_;split
    .exact ro.2
    .exact nl QX (λ_ z=>by cases z)
   |halt=>exact oz aaD QX|_=>exact nl QX (λ_ z=>by cases z)
  .generalize roll[s.place]=r;cases r with
   |set a b=>exact QW hc|_=>exact hc
  .generalize roll[s.place]=r;cases r with
   |set a b=>exact Zq4 hc _ _|_=>exact Wj _
theorem VM(roll:fV):∀k s,(gk roll k s).length<=k+1
 |0,s=>by simp[gk]|k+1,s=>by
  unfold gk;split
  .simp
  .have:=VM roll k ‹_›;simp;exact this
def Zxu(roll:fV)(k:Nat)(s:cj):gk roll k s≠[]:=by
 cases k with
 |zero=>simp[gk]|succ k=>unfold gk;split <;>simp
theorem VO{roll:fV}(R:yw roll):∀k s,Good roll s->∀x∈gk roll k s,Good roll x
 |0,s,g,x,hx=>by simp[gk]at hx;subst hx;exact g|k+1,s,g,x,hx=>by
  unfold gk at hx;split at hx
  .simp at hx;subst hx;exact g
  .rename_i s' h;rcases Yt.mp hx with e|e
   .subst e;exact g
   .exact VO R k s' (X5 R g h).1 x e
def VQ(i:Int):i4:=(PySem.Str.ofString<|toString i).cps.toList
noncomputable section
local instance (priority:=100000) Aie (p:Prop):Decidable p:=Yz p
def VS(ds:h8)(M:c5):R3 D:=match ds with
 |[.int i]=>if i.natAbs.log2<1920 then .ok (.str<|VQ i) M else .bad|[.str x]=>.ok (.str x) M|_=>.bad
@[simp] theorem Aif:∀i,VS ([.int i]) M=(if i.natAbs.log2<1920 then .ok (.str<|VQ i) M else .bad):=λ_=>rfl
@[simp] theorem Aig:∀x,VS ([.str x]) M= .ok (.str x) M:=λ_=>rfl
def Afg:h8->Option k9
 |[]=>O []|.str x::ds=>(Afg ds).map (x:: ·)|_=>Yj
def v7(ds:h8)(M:c5):R3 D:=match ds with
 |[.str x]=>match Vw ⟨pd x⟩with
  |some n=>if x.length<=640 then .ok (.int n) M else .bad|none=>.bad
 |ds=>JL ds M
@[simp] theorem Zvh:∀x,v7 ([.str x]) M=(match Vw ⟨pd x⟩with
  |some n=>if x.length<=640 then .ok (.int n) M else .bad|none=>.bad):=λ_=>rfl
@[simp] theorem Zul:∀i,v7 [.int i] M= .ok (.int i) M:=λ_=>rfl
@[simp] theorem Zvb:∀b,v7 [.bl b] M=JL [.bl b] M:=λ_=>rfl
end
noncomputable section
structure Be where
 items:h8
 lk:List (Nat×h8)
def kW(lk:List (Nat×h8))(M:c5):Bool:=lk.all λq=>decide<|M[q.1]?=O (.L q.2)
def ju(lk:List (Nat×h8))(g:G3)(body:S3):h8->Zz->c5->O3
 |[],env,M=>if kW lk M then .nx env M else .bad|d::ds,env,M=>if kW lk M then match g d env with
  |none=>.bad|some cY=>match body cY M with
   | .nx e M'=>ju lk g body ds e M'|.ct e M'=>ju lk g body ds e M'|.bk e M'=>.nx e M'|o=>o
  else .bad
def Fw{lk:List (Nat×h8)}{g:G3}:ju lk g body [] env M=if kW lk M then .nx env M else .bad:=rfl
def Fx{lk:List (Nat×h8)}{g:G3}:ju lk g body (d::ds) env M=if kW lk M then match g d env with
  |none=>.bad|some cY=>match body cY M with
   | .nx e M'=>ju lk g body ds e M'|.ct e M'=>ju lk g body ds e M'|.bk e M'=>.nx e M'|o=>o
  else .bad:=rfl
abbrev yD:=Zz->c5->R3 Be
def yE(i:yD)(g:G3)(body:S3):S3:=λenv M=>match i env M with
 | .ok it M1=>ju it.lk g body it.items env M1|.exc x M1=>.exc x M1|.bad=>.bad
def i_:Nat->h8->h8
 |_,[]=>[]|k,d::ds=>.U [.int k,d]::i_ (k+1) ds
@[simp] def Bf(f:E3):yD:=λenv M=>(f env M).bind λa M1=>match a with
 | .U ds=>.ok ⟨i_ 0 ds,[]⟩ M1|.ref n=>match M1[n]? with
  |some (.L ds)=>.ok ⟨i_ 0 ds,[(n,ds)]⟩ M1|_=>.bad
 |_=>.bad
def Afh(a b:D)(M:c5):R3 D:=match a,b with
 | .U [.int i,.int j],.U [.int k,.int l]=>.ok (.bl<|decide (i<k)|| (decide (i=k)&&decide (j<=l))) M|_,_=>.bad
@[simp] theorem Aih:∀i j k l,Afh (.U [.int i,.int j]) (.U [.int k,.int l]) M= .ok (.bl<|decide (i<k)|| (decide (i=k)&&decide (j<=l))) M:=λ_ _ _ _=>rfl
def Fy(ds:h8)(M:c5):R3 D:=match ds with
 |[.int i,.int j]=>.ok (.int<|if j>i then j else i) M|_=>.bad
@[simp] theorem Zve:∀i j,Fy ([.int i,.int j]) M= .ok (.int<|if j>i then j else i) M:=λ_ _=>rfl
theorem X6:∀(k:Nat) (ds:h8) (i:Nat),(i_ k ds)[i]?=(ds[i]?).map λd=>.U [.int ((k+i:Nat):Int),d]
 |_,[],_=>by simp[i_]|k,d::ds,0=>by simp[i_]|k,d::ds,i+1=>by simp only[i_,Iz,X6 (k+1) ds i];rw[show k+1+i=k+(i+1)by exact iJ c8 c8]
theorem X7:∀(k:Nat) (ds:h8),(i_ k ds).length=ds.length
 |_,[]=>rfl|k,d::ds=>by simp[i_,X7 (k+1) ds]
end
noncomputable section
def yF:h8->h8->h8
 |a::x,b::y=>.U [a,b]::yF x y|_,_=>[]
@[simp] def Aii(f g:E3):yD:=λenv M=>(f env M).bind λa M1=>(g env M1).bind λb M2=>match a,b with
 | .ref n,.ref m=>match M2[n]?,M2[m]? with
  |some (.L x),O (.L y)=>.ok ⟨yF x y,[(n,x),(m,y)]⟩ M2|_,_=>.bad
 |_,_=>.bad
section
local instance (priority:=100000) Aij (p:Prop):Decidable p:=Yz p
def VT(lk:List (Nat×h8))(g:G3)(ifs:List E3)(elt:E3)(n:Nat):h8->Zz->c5->R3 D
 |[],_,M=>if kW lk M then .ok (.ref n) M else .bad|d::ds,env,M=>if kW lk M then match g d env with
  |none=>.bad|some cY=>(v4 ifs cY M).bind λb M1=>if b then(elt cY M1).bind λv M2=>match M2[n]? with
    |some (.L xs)=>if b9 xs<SZ then VT lk g ifs elt n ds cY (M2.set n<|.L<|xs++[v])else .bad|_=>.bad
   else VT lk g ifs elt n ds cY M1
  else .bad
end
section
local instance (priority:=100000) Aik (p:Prop):Decidable p:=Yz p
def oM(o:D)(ds:h8)(M:c5):R3 D:=match o,ds with
 | .ref n,[.ref m]=>match M[n]?,M[m]? with
  |some (.L x),O (.L y)=>if n≠m/\x.length+y.length<=SZ then .ok .Z (M.set n<|.L<|x++y)else .bad|_,_=>.bad
 | .ref n,[.U y]=>match M[n]? with
  |some (.L x)=>if x.length+y.length<=SZ then .ok .Z (M.set n<|.L<|x++y)else .bad|_=>.bad
 |_,_=>.bad
@[simp] theorem Bg:∀n m,oM (.ref n) ([.ref m]) M=(match M[n]?,M[m]? with
  |some (.L x),O (.L y)=>if n≠m/\x.length+y.length<=SZ then .ok .Z (M.set n<|.L<|x++y)else .bad|_,_=>.bad):=λ_ _=>rfl
@[simp] theorem Fz:∀n y,oM (.ref n) ([.U y]) M=(match M[n]? with
  |some (.L x)=>if x.length+y.length<=SZ then .ok .Z (M.set n<|.L<|x++y)else .bad|_=>.bad):=λ_ _=>rfl
end
end
noncomputable section
end
def v8(f:i4)(d:D):xi->xi
 |[]=>[(f,d)]|(g,x)::r=>if g=f then(g,d)::r else(g,x)::v8 f d r
def lK(c f:i4)(a:D)(M:c5):R3 D:=match a with
 | .ref n=>match M[n]? with
  |some (.ins c' fs)=>if c'=c then(match fs.lookup f with
   |some d=>.ok d M|none=>.bad)else .bad
  |_=>.bad
 |_=>.bad
@[simp] theorem FJ{c:i4}{f:i4}:∀n,lK c f (.ref n) M=(match M[n]? with
  |some (.ins c' fs)=>if c'=c then(match fs.lookup f with
   |some d=>.ok d M|none=>.bad)else .bad
  |_=>.bad):=λ_=>rfl
def QZ(c f:i4)(v a:D)(M:c5):R3 D:=match a with
 | .ref n=>match M[n]? with
  |some (.ins c' fs)=>if c'=c/\fs.length<1000 then .ok .Z (M.set n<|.ins c<|v8 f v fs)else .bad|_=>.bad
 |_=>.bad
@[simp] theorem X8{c:i4}{f:i4}{v:D}:∀n,QZ c f v (.ref n) M=(match M[n]? with
  |some (.ins c' fs)=>if c'=c/\fs.length<1000 then .ok .Z (M.set n<|.ins c<|v8 f v fs)else .bad|_=>.bad):=λ_=>rfl
def Bh(c f:i4)(o v:E3):S3:=aG<|e2 (QZ c f) v o
def v9(c m:i4)(a:D)(M:c5):Bool:=match a with
 | .ref n=>match M[n]? with
  |some (.ins c' fs)=>decide (c'=c)&&(fs.lookup m).isNone|_=>false
 |_=>false
@[simp] theorem VU{c:i4}{m:i4}:∀n,v9 c m (.ref n) M=(match M[n]? with
  |some (.ins c' fs)=>decide (c'=c)&&(fs.lookup m).isNone|_=>false):=λ_=>rfl
@[simp] def cM(c m:i4)(F:F3)(o:E3)(g:dg):E3:=λenv M=>(o env M).bind λa M1=>if v9 c m a M1 then(g env M1).bind λds M2=>F (a::ds) M2 else .bad
@[simp] def JT(c:i4)(F:F3)(g:dg):E3:=λenv M=>(g env M).bind λds M1=>match F (.ref (b9 M1)::ds) (M1++[.ins c []])with
 | .ok .Z M2=>.ok (.ref<|b9 M1) M2|_=>.bad
noncomputable section
@[simp] def bR(f:E3):E3:=λenv M=>match f env M with
 | .exc _ _=>.bad|r=>r
@[simp] def cB(f:dg):dg:=λenv M=>match f env M with
 | .exc _ _=>.bad|r=>r
def jb(f:S3):S3:=λenv M=>match f env M with
 | .exc _ _=>.bad|o=>o
def FN(c:i4)(g:dg):S3:=λenv M=>match g env M with
 | .ok [_] M1=>.exc ⟨c,.ref<|b9 M1⟩ (M1++[.ins (0::c) []])|_=>.bad
end
noncomputable section
def JV(i:I3)(g:G3)(body:S3):S3:=λenv M=>match i env M with
 | .ok it M1=>dF it g body it.items env M1|_=>.bad
end
noncomputable section
abbrev Afi:=List<|i4×k9
def Ail(f:E3):yD:=λenv M=>(f env M).bind λa M1=>match a with
 | .ref n=>match M1[n]? with
  |some (.L ds)=>.ok ⟨i_ 1 ds,[(n,ds)]⟩ M1|_=>.bad
 |_=>.bad
def JW(M:c5):D->Option (h8×List (Nat×h8))
 | .U x=>O (x,[])|.ref n=>match M[n]? with
  |some (.L x)=>O (x,[(n,x)])|_=>Yj
 |_=>Yj
end
noncomputable section
abbrev v_:=List<|i4×Int
def um(x:i4):v_->pe
 |[]=>Yj|(k,v)::r=>if x=k then O v else um x r
def FP(t:v_)(d e:D)(M:c5):R3 D:=match d with
 | .str x=>match um x t with
  |some i=>.ok (.int i) M|none=>.ok e M
 | .int _=>.ok e M|_=>.bad
def Q0(x y:h8)(M:c5):R3 D:=match kJ (yF x y)with
 |some l=>if b9 l<=100000 then alloc (.j3<|dictOf l) M else .bad|none=>.bad
def JX(f g:E3):E3:=λenv M=>(f env M).bind λa M1=>(g env M1).bind λb M2=>match JW M2 a,JW M2 b with
 |some (x,_),O (y,_)=>Q0 x y M2|_,_=>.bad
def Aim(a:D)(M:c5):R3 D:=match a with
 | .U ds=>.ok (.U ds.reverse) M|_=>.bad
def yG:D->Option (Nat×Int)
 | .U [.ref n,.int i]=>O (n,i)|_=>Yj
def VW(h:yG d=O (n,i)):d= .U [.ref n,.int i]:=by
 unfold yG at h;split at h
 .cases h;rfl
 .cases h
def Afj(x y:h8)(r:Bool)(M:c5):R3 D:=if x.all (cP 50)=true/\y.all (cP 50)=true then .ok (.bl<|gY x y&&r) M else .bad
def Ain(a b:D)(M:c5):R3 D:=match yG a,yG b with
 |some (n,i),O (m,j)=>match M[n]?,M[m]? with
  |some (.L x),O (.L y)=>if n=m then .bad else Afj x y (i==j) M|_,_=>.bad
 |_,_=>.bad
def JZ(a b:D)(M:c5):R3 D:=match b with
 | .ref n=>match M[n]? with
  |some (.L ys)=>if fc a&&ys.all fc then .ok (.bl<|!ys.any λy=>eU y a) M else .bad|_=>.bad
 |_=>.bad
end
noncomputable section
@[simp] def VX(d:D):E3:=λ_ M=>.ok d M
def yH(o i f:E3):S3:=λenv M=>match f env M with
 | .ok d M1=>jb (QH o i<|VX d) env M1|.exc x M1=>.exc x M1|.bad=>.bad
def Bj(o f:E3):E3:=λenv M=>match bR o env M with
 | .ok a M1=>if bO a M1 then(match f env M1 with
  | .ok d M2=>bR (λ_ M=>cQ a [d] M) env M2|.exc x M2=>.exc x M2|.bad=>.bad)else .bad
 |_=>.bad
def yI(i:I3)(own:Nat)(g:G3)(elt:E3):E3:=λenv M=>match i env M with
 | .ok it M1=>eG it g [] elt (b9 M1) it.items (env++Yg own Yj) (M1++[.L []])|_=>.bad
def Bk(cs:k9)(b h:S3):S3:=λenv M=>match b env M with
 | .exc x M'=>if cs.contains x.cls then(match h env M' with
  | .nx e' M2=>.nx e' M2|_=>.bad)else .bad
 |o=>o
end
noncomputable section
local instance (priority:=100000) Aio (p:Prop):Decidable p:=Yz p
def J1(a b:D)(M:c5):R3 D:=match a with
 | .U ds=>match b with
  | .int k=>match ds with
   |[]=>.bad|x::r=>if r=[]/\2<=k/\k<=1000 then .ok (.U<|Yg k.toNat x) M else .bad
  |_=>.bad
 |_=>.bad
def Zs7:∀x k,J1 (.U [x]) (.int k) M=(if[]=([]:h8)/\2<=k/\k<=1000 then .ok (.U<|Yg k.toNat x) M else .bad):=λ_ _=>rfl
end
open PySem PySem.Spec PyProof.Rows L2
abbrev St:=L2.St
def kY:SZ<=bI:=by rw[qw];decide
def qM(K:Yb)(H:Hp)(a:Ys)(xs:k6):Prop:=
 (∃o,H a=O (.fO o<|.L xs))\/
  ∃(o:aJ) (c_:qB) (n:Nat),K.lookup a=O o/\o.cls= .type "list" /\o.dict=Yj/\o.data= .seq c_ n/\c_.size<=bI/\i3 xs c_.toList
variable{H:Hp}{K:Yb}
def qM.sq{a:Ys}{xs:k6}(h:qM K H a xs):dm K H a xs:=by
 rcases h with⟨o,h⟩|h
 .exact .inl<|.inr ⟨o,h⟩
 .exact .inr h
mutual
def i0(K:Yb)(H:Hp)(ι:l6):D->V->Prop
 | .Z,v=>v= .Z|.bl b,v=>v= .bl b|.int i,v=>v= .int i|.str x,v=>v= .str ⟨pd x⟩
 | .U ds,v=>∃a vs,v= .ref a/\dD K H a vs/\aB K H ι ds vs|.cI ds,v=>∃a vs,v= .ref a/\qM K H a vs/\aB K H ι ds vs|.ref n,v=>∃a,ι[n]?=O a/\v= .ref a
def aB(K:Yb)(H:Hp)(ι:l6):h8->k6->Prop
 |[],vs=>vs=[]|d::ds,vs=>∃v ws,vs=v::ws/\i0 K H ι d v/\aB K H ι ds ws
end
structure k7(K:Yb)(H:Hp)(ι:l6)(H':Hp)(ι':l6):Prop where
 U:∀a xs,dD K H a xs->dD K H' a xs
 cI:∀a xs,qM K H a xs->qM K H' a xs
 pre:∀(n:Nat) (a:Ys),ι[n]?=O a->ι'[n]?=O a
 fO:∀a o u,H a=O (.fO o u)->H' a=O (.fO o u)
variable{vs:k6}
section
variable {K:Yb} {H H' H1 H2:Hp} {ι ι' ι1 ι2:l6}
def k7.refl:k7 K H ι H ι:=⟨λ_ _ h=>h,λ_ _ h=>h,λ_ _ h=>h,λ_ _ _ h=>h⟩
def k7.trans(a:k7 K H ι H1 ι1)(b:k7 K H1 ι1 H2 ι2):k7 K H ι H2 ι2:=⟨λx xs h=>b.U x xs<|a.U x xs h,λx xs h=>b.cI x xs<|a.cI x xs h,λn x h=>b.pre n x<|a.pre n x h,λx o u h=>b.fO x o u<|a.fO x o u h⟩
mutual
theorem i0.mono(e:k7 K H ι H' ι'):∀{d:D} {v:V},i0 K H ι d v->i0 K H' ι' d v
 | .Z,_,h=>h|.bl _,_,h=>h|.int _,_,h=>h|.str _,_,h=>h
 | .U ds,_,h=>by let⟨a,vs,rfl,s,r⟩:=h;exact⟨a,vs,rfl,e.U _ _ s,aB.mono e (ds:=ds) r⟩|.cI ds,_,h=>by let⟨a,vs,rfl,s,r⟩:=h;exact⟨a,vs,rfl,e.cI _ _ s,aB.mono e (ds:=ds) r⟩|.ref n,_,h=>by let⟨a,s,rfl⟩:=h;exact⟨a,e.pre _ _ s,rfl⟩
theorem aB.mono(e:k7 K H ι H' ι'):∀{ds:h8} {vs:k6},aB K H ι ds vs->aB K H' ι' ds vs
 |[],_,h=>h|d::ds,_,h=>by let⟨v,ws,rfl,r,q⟩:=h;exact⟨v,ws,rfl,i0.mono e (d:=d) r,aB.mono e (ds:=ds) q⟩
end
mutual
theorem i0.keep(ht:∀a xs,dD K H a xs->dD K H' a xs)(hs:∀a xs,qM K H a xs->qM K H' a xs):∀{d:D} {v:V},i0 K H ι d v->i0 K H' ι d v
 | .Z,_,h=>h|.bl _,_,h=>h|.int _,_,h=>h|.str _,_,h=>h
 | .U ds,_,h=>by let⟨a,vs,rfl,s,r⟩:=h;exact⟨a,vs,rfl,ht _ _ s,aB.keep ht hs (ds:=ds) r⟩|.cI ds,_,h=>by let⟨a,vs,rfl,s,r⟩:=h;exact⟨a,vs,rfl,hs _ _ s,aB.keep ht hs (ds:=ds) r⟩|.ref n,_,h=>h
theorem aB.keep(ht:∀a xs,dD K H a xs->dD K H' a xs)(hs:∀a xs,qM K H a xs->qM K H' a xs):∀{ds:h8} {vs:k6},aB K H ι ds vs->aB K H' ι ds vs
 |[],_,h=>h|d::ds,_,h=>by let⟨v,ws,rfl,r,q⟩:=h;exact⟨v,ws,rfl,i0.keep ht hs (d:=d) r,aB.keep ht hs (ds:=ds) q⟩
end
def aB.nil:aB K H ι [] []:=rfl
def aB.cons{d:D}{ds:h8}{v:V}{vs:k6}(h:i0 K H ι d v)(t:aB K H ι ds vs):aB K H ι (d::ds) (v::vs):=⟨v,vs,rfl,h,t⟩
def aB.nil_inv(h:aB K H ι [] vs):vs=[]:=h
def aB.cons_inv(h:aB K H ι (d::ds) vs):∃v ws,vs=v::ws/\i0 K H ι d v/\aB K H ι ds ws:=h
theorem aB.length:∀{ds:h8} {vs:k6},aB K H ι ds vs->b9 vs=ds.length
 |[],_,h=>by rw[h.nil_inv];rfl|d::ds,_,h=>by let⟨v,ws,rfl,_,q⟩:=h.cons_inv;exact congrArg Nat.succ q.length
theorem aB.append:∀{ds es:h8} {vs ws:k6},aB K H ι ds vs->aB K H ι es ws->aB K H ι (ds++es) (vs++ws)
 |[],_,_,_,h,q=>by rwa[h.nil_inv]|d::ds,_,_,_,h,q=>by let⟨v,us,rfl,r,t⟩:=h.cons_inv;exact aB.cons r<|t.append q
theorem aB.drop:∀{ds:h8} {vs:k6} (n:Nat),aB K H ι ds vs->aB K H ι (ds.drop n) (vs.drop n)
 |_,_,0,h=>h|[],_,n+1,h=>by rw[h.nil_inv];exact aB.nil|d::ds,_,n+1,h=>by let⟨v,us,rfl,r,t⟩:=h.cons_inv;exact t.drop n
theorem aB.take:∀{ds:h8} {vs:k6} (n:Nat),aB K H ι ds vs->aB K H ι (ds.take n) (vs.take n)
 |_,_,0,h=>aB.nil|[],_,n+1,h=>by rw[h.nil_inv];exact aB.nil|d::ds,_,n+1,h=>by let⟨v,us,rfl,r,t⟩:=h.cons_inv;exact aB.cons r<|t.take n
theorem aB.get:∀{ds:h8} {vs:k6} {i:Nat} {d:D},aB K H ι ds vs->ds[i]?=O d->∃v,vs[i]?=O v/\i0 K H ι d v
 |[],_,_,_,_,e=>by simp at e|d::ds,_,0,_,h,e=>by let⟨v,us,rfl,r,t⟩:=h.cons_inv;simp at e;subst e;exact⟨v,rfl,r⟩
 |d::ds,_,i+1,_,h,e=>by let⟨v,us,rfl,r,t⟩:=h.cons_inv;let⟨w,q,z⟩:=t.get (i:=i) (by simpa using e);exact⟨w,by simpa using q,z⟩
theorem aB.ints:∀(ns:l8),aB K H ι (ns.map D.int)<|ns.map V.int
 |[]=>aB.nil|n::ns=>aB.cons aaD<|aB.ints ns
def i0.lq{v:V}(h:i0 K H ι .Z v):v= .Z:=h
def i0.iU{v:V}{b:Bool}(h:i0 K H ι (.bl b) v):v= .bl b:=h
def i0.int_inv{v:V}(h:i0 K H ι (.int i) v):v= .int i:=h
def i0.str_inv{v:V}{x:i4}(h:i0 K H ι (.str x) v):v= .str ⟨pd x⟩:=h
def i0.jf{v:V}(h:i0 K H ι (.U ds) v):∃a vs,v= .ref a/\dD K H a vs/\aB K H ι ds vs:=h
def i0.u5{v:V}(h:i0 K H ι (.cI ds) v):∃a vs,v= .ref a/\qM K H a vs/\aB K H ι ds vs:=h
def i0.fD{v:V}(h:i0 K H ι (.ref n) v):∃a,ι[n]?=O a/\v= .ref a:=h
def i0.Z:i0 K H ι .Z .Z:=rfl
def i0.bl{b:Bool}:i0 K H ι (.bl b) (.bl b):=rfl
def i0.int:i0 K H ι (.int i) (.int i):=rfl
def i0.str{x:i4}:i0 K H ι (.str x) (.str ⟨pd x⟩):=rfl
def i0.U{a:Ys}{vs:k6}{ds:h8}(s:dD K H a vs)(r:aB K H ι ds vs):i0 K H ι (.U ds) (.ref a):=⟨a,vs,rfl,s,r⟩
def i0.ref{a:Ys}(s:ι[n]?=O a):i0 K H ι (.ref n) (.ref a):=⟨a,s,rfl⟩
end
def Bl(e C:Ys)(dd:qA)(h:aF):Prop:=∃o vs,h.get? e=O o/\o.cls= .ref C/\o.data= .fields vs/\o.dict=dd
abbrev uo(e C:Ys)(dd:qA):HO:=.ext<|Bl e C dd
def dk:aH->Key
 | .inl i=>.inl i|.inr x=>.inr ⟨pd x⟩
def cJ(K:Yb)(H:Hp)(ι:l6)(kvs:l9)(ws:sv):Prop:=ws.map (·.1)=kvs.map (λp=>dk p.1)/\aB K H ι (kvs.map (·.2)) (ws.map (·.2))
def gU(K:Yb)(H:Hp)(ι:l6)(fs:xi)(gs:uB):Prop:=gs.map (·.1)=fs.map (λp=>(⟨pd p.1⟩:ak))/\aB K H ι (fs.map (·.2)) (gs.map (·.2))
def ClsAt(K:Yb)(c:i4)(C:Ys):Prop:=PySem.W.nsIn K dI ⟨pd c⟩=O (O<|.ref C)
def Q3(K:Yb)(H:Hp)(ι:l6)(fs:xi)(dd:qA):Prop:=fs=[]\/∃dx o gs,dd=O dx/\H dx=O (.fO o<|.xd gs)/\gU K H ι fs gs
variable{ι:l6}
def Q3.up{H':Hp}{ι':l6}{fs:xi}{dd:qA}(hf:∀b o gs,H b=O (.fO o<|.xd gs)->H' b=O (.fO o<|.xd gs))(hr:∀ds vs,aB K H ι ds vs->aB K H' ι' ds vs)(h:Q3 K H ι fs dd):Q3 K H' ι' fs dd:=h.imp id λz=>let⟨dx,o,gs,e,q,r1,r2⟩:=z;⟨dx,o,gs,e,hf _ _ _ q,r1,hr _ _ r2⟩
def nC(K:Yb)(H:Hp)(ι:l6):MO->Ys->Prop
 | .L xs,a=>∃vs,H a=O (.L vs)/\aB K H ι xs vs|.j3 kvs,a=>∃ws,H a=O (.dK ws)/\cJ K H ι kvs ws|.dW kvs,a=>∃ws,(∃o,H a=O (.fO o<|.dK ws))/\cJ K H ι kvs ws|.ins c fs,a=>(∃C dx gs,H a=O (.ins C dx gs)/\(ClsAt K c C/\c.head?≠O 0)/\gU K H ι fs gs)\/∃C dd,H a=O (uo a C dd)/\c.head?=O 0/\ClsAt K c.tail C/\Q3 K H ι fs dd
structure aC(K:Yb)(H:Hp)(ι:l6)(M:c5):Prop where
 len:b9 ι=M.length
 nd:ι.Nodup
 obj:∀(n:Nat) o a,M[n]?=O o->ι[n]?=O a->nC K H ι o a
def Loose(H:Hp)(p:Ys):Prop:=H p=Yj\/(∃vs,H p=O (.L vs))\/(∃ws,H p=O (.dK ws))\/∃C dx gs,H p=O (.ins C dx gs)
variable{m:MO}
section
variable {K:Yb} {H H':Hp} {ι ι':l6} {M:c5} {p:Ys} {o:HO}
def Loose.ne{a:Ys}{u:HO}(l:Loose H p)(h:H a=O u)(h1:∀vs,u≠ .L vs)(h2:∀ws,u≠ .dK ws)(h3:∀C dx gs,u≠ .ins C dx gs:=by exact nofun):a≠p:=by
 rintro rfl;rcases l with l|⟨vs,l⟩|⟨ws,l⟩|⟨C,dx,gs,l⟩
 .rw[h]at l;cases l
 .rw[h]at l;exact h1 vs<|Y9 l
 .rw[h]at l;exact h2 ws<|Y9 l
 .rw[h]at l;exact h3 C dx gs<|Y9 l
def Loose.U(l:Loose H p){a:Ys}{xs:k6}(h:dD K H a xs):dD K (k4 H p o) a xs:=by
 rcases h with(h|⟨ob,h⟩)|h
 exact .inl (.inl<|by rwa[eF<|l.ne h nofun nofun]);exact .inl (.inr ⟨ob,by rwa[eF<|l.ne h nofun nofun]⟩);exact .inr h
def Loose.cI(l:Loose H p){a:Ys}{xs:k6}(h:qM K H a xs):qM K (k4 H p o) a xs:=by
 rcases h with⟨ob,h⟩|h
 .exact .inl ⟨ob,by rwa[eF<|l.ne h nofun nofun]⟩
 .exact .inr h
def Loose.fO(l:Loose H p){a:Ys}{ob:aJ}{u:HO}(h:H a=O (.fO ob u)):k4 H p o a=O (.fO ob u):=by rwa[eF<|l.ne h nofun nofun]
def Loose.ext(l:Loose H p):k7 K H ι (k4 H p o) ι:=⟨λ_ _ h=>l.U h,λ_ _ h=>l.cI h,λ_ _ h=>h,λ_ _ _ h=>l.fO h⟩
def Loose.HY(l:Loose H p):k7 K H ι (k4 H p o) (ι++[p]):=⟨λ_ _ h=>l.U h,λ_ _ h=>l.cI h,λn a h=>by rwa[Y4 (Yd.mp h).1],λ_ _ _ h=>l.fO h⟩
def nC.mono{a:Ys}(e:k7 K H ι H' ι')(h:nC K H ι m a)(k:H' a=H a):nC K H' ι' m a:=by
 cases m with
 |L xs=>let⟨vs,q,r⟩:=h;exact⟨vs,k.trans q,r.mono e⟩|j3 kvs=>let⟨ws,q,r1,r2⟩:=h;exact⟨ws,k.trans q,r1,r2.mono e⟩|dW kvs=>let⟨ws,⟨o,q⟩,r1,r2⟩:=h;exact⟨ws,⟨o,k.trans q⟩,r1,r2.mono e⟩|ins c fs=>
  rcases h with⟨C,dx,gs,q,c,r1,r2⟩|⟨C,dd,q,z,c,r⟩
  .exact .inl ⟨C,dx,gs,k.trans q,c,r1,r2.mono e⟩
  .exact .inr ⟨C,dd,k.trans q,z,c,r.up (λb o g q=>e.fO b o _ q) λ_ _ r=>r.mono e⟩
def nC.ne{a:Ys}(h:nC K H ι m a):H a≠Yj:=by
 cases m with
 |L xs=>let⟨vs,q,r⟩:=h;rw[q];simp|j3 kvs=>let⟨ws,q,r⟩:=h;rw[q];simp|dW kvs=>let⟨ws,⟨o,q⟩,r⟩:=h;rw[q];simp|ins c fs=>rcases h with⟨C,dx,gs,q,r⟩|⟨C,dd,q,r⟩<;>(rw[q];simp)
def aC.at(S:aC K H ι M)(h:M[n]?=O m):∃a,ι[n]?=O a/\nC K H ι m a:=by
 have hn:n<b9 ι:=by rw[S.len];exact(Yd.mp h).1
 exact⟨ι[n],by simp[hn],S.obj n m _ h<|by simp[hn]⟩
def aC.there(S:aC K H ι M){a:Ys}(h:ι[n]?=O a):∃m,M[n]?=O m/\nC K H ι m a:=by
 have hn:n<b9 M:=by rw[<-S.len];exact(Yd.mp h).1
 exact⟨M[n],by simp[hn],S.obj n _ _ (by simp[hn]) h⟩
def aC.fresh(S:aC K H ι M)(hp:H p=Yj):p∉ι:=λh=>by let⟨n,hn⟩:=IK h;let⟨m,_,q⟩:=S.there hn;exact q.ne hp
def aC.other(S:aC K H ι M)(l:Loose H p)(hp:p∉ι):aC K (k4 H p o) ι M:=⟨S.len,S.nd,λn m a h1 h2=>(S.obj n m a h1 h2).mono l.ext (by rw[eF];rintro rfl;exact hp<|rG h2)⟩
def aC.new(S:aC K H ι M)(hp:H p=Yj)(h:nC K (k4 H p o) (ι++[p]) m p):aC K (k4 H p o) (ι++[p]) (M++[m]):=by
 have hf:=S.fresh hp;refine⟨by simp[S.len],?_,λn m' a h1 h2=>?_⟩
 .exact NA.mpr ⟨S.nd,j0,λx hx y hy=>by
   have e:y=p:=by simpa using hy
   subst e;rintro rfl;exact hf hx⟩
 .by_cases hn:n<ι.length
  .rw[Y4 hn]at h2;rw[Y4<|by rwa[<-S.len]]at h1;refine(S.obj n m' a h1 h2).mono (Loose.HY<|.inl hp) ?_;rw[eF];rintro rfl;exact hf<|rG h2
  .rw[xR<|tY hn]at h2;rw[xR (by rw[<-S.len];exact tY hn)]at h1;have n9:n-b9 ι<1:=by
    have:=(Yd.mp h2).1;simpa using this
   have e0:n-b9 ι=0:=iJ c8<|dY _;rw[e0]at h2;rw[<-S.len,e0]at h1;simp at h1 h2;subst h1 h2;exact h
def aC.put(S:aC K H ι M)(l0:Loose H p)(hn:ι[n]?=O p)(h:nC K (k4 H p o) ι m p):aC K (k4 H p o) ι (M.set n m):=by
 let⟨m0,hm0,Znl⟩:=S.there hn;refine⟨by simp[S.len],S.nd,λk m' a h1 h2=>?_⟩;by_cases hk:k=n
 .subst hk;rw[hn]at h2;cases h2;have n9:k<b9 M:=(Yd.mp hm0).1;rw[Yu n9]at h1;cases h1;exact h
 .rw[Ym<|cF hk]at h1;refine(S.obj k m' a h1 h2).mono (Loose.ext l0) ?_;rw[eF];rintro rfl;have EZ:=(Yd.mp h2);have yT:=(Yd.mp hn);exact hk<|(NC S.nd).mp<|EZ.2.trans yT.2.symm
def aC.L(S:aC K H ι M)(hp:H p=Yj){xs:h8}{vs:k6}(r:aB K H ι xs vs):k7 K H ι (k4 H p<|.L vs) (ι++[p])/\aC K (k4 H p<|.L vs) (ι++[p]) (M++[.L xs])/\i0 K (k4 H p<|.L vs) (ι++[p]) (.ref<|b9 M) (.ref p):=by have e:k7 K H ι (k4 H p<|.L vs) (ι++[p]):=Loose.HY<|.inl hp;refine⟨e,S.new hp ⟨vs,pH,r.mono e⟩,i0.ref ?_⟩;rw[<-S.len];simp
def aC.xF(S:aC K H ι M)(hp:H p=Yj)(r:aB K H ι xs vs):k7 K H ι (k4 H p<|.U vs) ι/\aC K (k4 H p<|.U vs) ι M/\i0 K (k4 H p<|.U vs) ι (.U xs) (.ref p):=by have e:k7 K H ι (k4 H p<|.U vs) ι:=Loose.ext<|.inl hp;exact⟨e,S.other (.inl hp)<|S.fresh hp,i0.U (dD.of pH)<|r.mono e⟩
def aC.zO(S:aC K H ι M)(l0:Loose H p)(hn:ι[n]?=O p)(r:aB K H ι xs vs):k7 K H ι (k4 H p<|.L vs) ι/\aC K (k4 H p<|.L vs) ι (M.set n<|.L xs):=by have e:k7 K H ι (k4 H p<|.L vs) ι:=Loose.ext l0;exact⟨e,S.put l0 hn ⟨vs,pH,r.mono e⟩⟩
end
def b_(K:Yb)(H:Hp)(ι:l6)(env:Zz)(σ:St):Prop:=b9 env=b9 σ/\∀(i:Nat) d,env[i]?=O (O d)->∃v,σ[i]?=O (O v)/\i0 K H ι d v
variable{σ:St}
def b_.mono{H':Hp}{ι':l6}(r:b_ K H ι env σ)(e:k7 K H ι H' ι'):b_ K H' ι' env σ:=⟨r.1,λi d h=>let⟨v,q,z⟩:=r.2 i d h;⟨v,q,z.mono e⟩⟩
def b_.set{v:V}(r:b_ K H ι env σ)(i:Nat)(h:i0 K H ι d v):b_ K H ι (env.set i<|O d) (σ.set i<|O v):=by
 refine⟨by simp[r.1],λj e hj=>?_⟩;by_cases E4:j=i
 .subst E4;have n9:j<b9 env:=by
   have:=(Yd.mp hj).1;simpa using this
  rw[Yu n9]at hj;cases hj;exact⟨v,by rw[Yu<|by rwa[<-r.1]],h⟩
 .rw[Ym<|cF E4]at hj;let⟨w,q,z⟩:=r.2 j e hj;exact⟨w,by rwa[Ym<|cF E4],z⟩
def aA(K:Yb)(H:Hp)(ι:l6)(Q:VK)(r:R3 D):Prop:=match r with
 | .ok d M'=>∀v H' ι',k7 K H ι H' ι'->aC K H' ι' M'->i0 K H' ι' d v->Q v H'|_=>False
inductive VY(K:Yb)(f:E3)(σ:St)(H:Hp)(Q:VK):Prop where
 |mk (ι:l6) (M:c5) (env:Zz) (S:aC K H ι M) (E:b_ K H ι env σ) (h:aA K H ι Q (f env M)):VY K f σ H Q
def pY(K:Yb)(f:E3):TE:=λσ H Q=>VY K f σ H Q
def rY(K:Yb)(H:Hp)(ι:l6)(Q:Bool->Hp->Prop)(r:R3 D):Prop:=match r with
 | .ok (.bl b) M'=>∀H' ι',k7 K H ι H' ι'->aC K H' ι' M'->Q b H'|_=>False
inductive VZ(K:Yb)(f:E3)(σ:St)(H:Hp)(Q:Bool->Hp->Prop):Prop where
 |mk (ι:l6) (M:c5) (env:Zz) (S:aC K H ι M) (E:b_ K H ι env σ) (h:rY K H ι Q (f env M)):VZ K f σ H Q
def We(K:Yb)(f:E3):TT:=λσ H Q=>VZ K f σ H Q
def FQ(K:Yb)(H:Hp)(ι:l6)(Q:k6->Hp->Prop)(r:R3 h8):Prop:=match r with
 | .ok ds M'=>∀vs H' ι',k7 K H ι H' ι'->aC K H' ι' M'->aB K H' ι' ds vs->Q vs H'|_=>False
inductive WA(K:Yb)(f:dg)(σ:St)(H:Hp)(Q:k6->Hp->Prop):Prop where
 |mk (ι:l6) (M:c5) (env:Zz) (S:aC K H ι M) (E:b_ K H ι env σ) (h:FQ K H ι Q (f env M)):WA K f σ H Q
def X_(K:Yb)(f:dg):TA:=λσ H Q=>WA K f σ H Q
def J2(K:Yb)(H:Hp)(ι:l6)(Q:pe->Hp->Prop)(r:R3 pe):Prop:=match r with
 | .ok o M'=>∀H' ι',k7 K H ι H' ι'->aC K H' ι' M'->Q o H'|_=>False
def tOo(K:Yb)(f:Ff):TO:=λσ H Q=>∃ι M env,aC K H ι M/\b_ K H ι env σ/\J2 K H ι Q (f env M)
def lM(K:Yb)(H:Hp)(ι:l6)(E:Ends)(r:O3):Prop:=match r with
 | .nx env' M'=>∀σ' H' ι',k7 K H ι H' ι'->aC K H' ι' M'->b_ K H' ι' env' σ'->E.nx σ' H'|.bk env' M'=>∀σ' H' ι',k7 K H ι H' ι'->aC K H' ι' M'->b_ K H' ι' env' σ'->E.bk σ' H'|.ct env' M'=>∀σ' H' ι',k7 K H ι H' ι'->aC K H' ι' M'->b_ K H' ι' env' σ'->E.ct σ' H'|.rt d M'=>∀v H' ι',k7 K H ι H' ι'->aC K H' ι' M'->i0 K H' ι' d v->E.rt v H'
 |_=>False
inductive WB(K:Yb)(f:S3)(D:Ends)(σ:St)(H:Hp):Prop where
 |mk (ι:l6) (M:c5) (env:Zz) (S:aC K H ι M) (E:b_ K H ι env σ) (h:lM K H ι D (f env M)):WB K f D σ H
def WC(K:Yb)(f:S3):TS:=λE σ H=>WB K f E σ H
def C3(X:Cx)(e:Expr)(f:E3):Prop:=PE X e<|pY X.K f
def CT(X:Cx)(e:Expr)(f:E3):Prop:=PT X e<|We X.K f
def CA(X:Cx)(es:pw)(f:dg):Prop:=PA X es<|X_ X.K f
def CO(X:Cx)(e:Option Expr)(f:Ff):Prop:=PO X e<|tOo X.K f
def CS(X:Cx)(st:Ye1)(f:S3):Prop:=PS X st<|WC X.K f
def nD(X:Cx)(st:rq)(f:S3):Prop:=kj X st<|WC X.K f
variable{X:Cx}{e:Expr}
def _root_.L2.PE.imp{t t':TE}(h:PE X e t)(i:∀σ H Q,t' σ H Q->t σ H Q):PE X e t':=λc6 s σ H Q I q=>h c6 s σ H Q I<|i σ H Q q
def _root_.L2.PT.imp{t t':TT}(h:PT X e t)(i:∀σ H Q,t' σ H Q->t σ H Q):PT X e t':=λc6 s σ H Q I q=>h c6 s σ H Q I<|i σ H Q q
def _root_.L2.PA.imp{e:pw}{t t':TA}(h:PA X e t)(i:∀σ H Q,t' σ H Q->t σ H Q):PA X e t':=λpos c6 s σ H Q I q=>h pos c6 s σ H Q I<|i σ H Q q
def _root_.L2.PO.imp{e:Option Expr}{t t':TO}(h:PO X e t)(i:∀σ H Q,t' σ H Q->t σ H Q):PO X e t':=λc6 s σ H Q I q=>h c6 s σ H Q I<|i σ H Q q
def _root_.L2.PS.imp{e:Ye1}{t t':TS}(h:PS X e t)(i:∀D σ H,t' D σ H->t D σ H):PS X e t':=λc6 s σ H D I q=>h c6 s σ H D I<|i D σ H q
def _root_.L2.kj.imp{e:rq}{t t':TS}(h:kj X e t)(i:∀D σ H,t' D σ H->t D σ H):kj X e t':=λc6 s σ H D I q=>h c6 s σ H D I<|i D σ H q
def _root_.L2.aY.imp{f:Yf->Yf->mW Yf}{r r':R2}(h:aY X f r)(i:∀x y H Q,r' x y H Q->r x y H Q):aY X f r':=λc6 s σ H x y v u Q I rx ry q=>h c6 s σ H x y v u Q I rx ry<|i x y H Q q
def _root_.L2.vV.imp{f:Yf->mW Yf}{r r':V->Hp->VK->Prop}(h:vV X f r)(i:∀x H Q,r' x H Q->r x H Q):vV X f r':=λc6 s σ H x v Q I rx q=>h c6 s σ H x v Q I rx<|i x H Q q
def _root_.L2.bY.imp{f:Yf}{r r':k6->Hp->VK->Prop}(h:bY X f r)(i:∀x H Q,r' x H Q->r x H Q):bY X f r':=λc6 s σ H xs us Q I rx q=>h c6 s σ H xs us Q I rx<|i xs H Q q
def _root_.L2.m_.imp{r r':R2}(h:m_ X r)(i:∀x y H Q,r' x y H Q->r x y H Q):m_ X r':=λvalue slice c6 s σ H x y v u Q I rx ry q hs=>h value slice c6 s σ H x y v u Q I rx ry (i x y H Q q) hs
def _root_.L2.kI.imp{r r':V->pe->pe->Hp->VK->Prop}(h:kI X r)(i:∀x lo hi H Q,r' x lo hi H Q->r x lo hi H Q):kI X r':=λc6 s σ H x v vl vu lo hi sl Q I rx hs pl pu q=>h c6 s σ H x v vl vu lo hi sl Q I rx hs pl pu<|i x lo hi H Q q
section
variable {K:Yb} {H H1:Hp} {ι ι1:l6}
def aA.up{Q:VK}{r:R3 D}(e:k7 K H ι H1 ι1)(h:aA K H ι Q r):aA K H1 ι1 Q r:=by
 cases r with
 |ok d M=>exactλv H' ι' e' S r=>h v H' ι' (e.trans e') S r|exc x M=>exact h|bad=>exact h
def rY.up{Q:Bool->Hp->Prop}{r:R3 D}(e:k7 K H ι H1 ι1)(h:rY K H ι Q r):rY K H1 ι1 Q r:=by
 cases r with
 |ok d M=>cases d<;>first|exact h|exactλH' ι' e' S=>h H' ι' (e.trans e') S
 |exc x M=>exact h|bad=>exact h
def lM.up{Q:Ends}{r:O3}(e:k7 K H ι H1 ι1)(h:lM K H ι Q r):lM K H1 ι1 Q r:=by
 cases r with
 |nx d M=>exactλv H' ι' e' S r=>h v H' ι' (e.trans e') S r|bk d M=>exactλv H' ι' e' S r=>h v H' ι' (e.trans e') S r|ct d M=>exactλv H' ι' e' S r=>h v H' ι' (e.trans e') S r|rt d M=>exactλv H' ι' e' S r=>h v H' ι' (e.trans e') S r
 |exc x M=>exact h|bad=>exact h
def aA.ok{Q:VK}{v:V}(h:aA K H ι Q (.ok d M))(S:aC K H ι M)(r:i0 K H ι d v):Q v H:=h v H ι k7.refl S r
def aA.bind{Q:VK}{r:R3 α}{k:α->c5->R3 D}(h:aA K H ι Q (r.bind k)):∃a M,r= .ok a M/\aA K H ι Q (k a M):=by
 cases r with
 |ok a M=>exact⟨a,M,rfl,h⟩|exc x M=>cases h|bad=>cases h
def FQ.bind{Q:k6->Hp->Prop}{r:R3 α}{k:α->c5->R3 h8}(h:FQ K H ι Q (r.bind k)):∃a M,r= .ok a M/\FQ K H ι Q (k a M):=by
 cases r with
 |ok a M=>exact⟨a,M,rfl,h⟩|exc x M=>cases h|bad=>cases h
def J2.bind{Q:pe->Hp->Prop}{r:R3 α}{k:α->c5->R3 pe}(h:J2 K H ι Q (r.bind k)):∃a M,r= .ok a M/\J2 K H ι Q (k a M):=by
 cases r with
 |ok a M=>exact⟨a,M,rfl,h⟩|exc x M=>cases h|bad=>cases h
def rY.bind{Q:Bool->Hp->Prop}{r:R3 α}{k:α->c5->R3 D}(h:rY K H ι Q (r.bind k)):∃a M,r= .ok a M/\rY K H ι Q (k a M):=by
 cases r with
 |ok a M=>exact⟨a,M,rfl,h⟩|exc x M=>cases h|bad=>cases h
end
inductive WE(K:Yb)(op:D->D->c5->R3 D)(x y:V)(H:Hp)(Q:VK):Prop where
 |mk (ι:l6) (M:c5) (a b:D) (S:aC K H ι M) (ra:i0 K H ι a x) (rb:i0 K H ι b y) (h:aA K H ι Q (op a b M)):WE K op x y H Q
def r2(K:Yb)(op:D->D->c5->R3 D):R2:=λx y H Q=>WE K op x y H Q
def r1(K:Yb)(op:D->c5->R3 D):V->Hp->VK->Prop:=λx H Q=>∃ι M a,aC K H ι M/\i0 K H ι a x/\aA K H ι Q (op a M)
inductive WG(K:Yb)(b:h8->c5->R3 D)(xs:k6)(H:Hp)(Q:VK):Prop where
 |mk (ι:l6) (M:c5) (ds:h8) (S:aC K H ι M) (r:aB K H ι ds xs) (h:aA K H ι Q (b ds M)):WG K b xs H Q
def rB(K:Yb)(b:h8->c5->R3 D):k6->Hp->VK->Prop:=λxs H Q=>WG K b xs H Q
def rM(K:Yb)(m:D->h8->c5->R3 D):V->k6->Hp->VK->Prop:=λx xs H Q=>∃ι M a ds,aC K H ι M/\i0 K H ι a x/\aB K H ι ds xs/\aA K H ι Q (m a ds M)
def rS(K:Yb):V->pe->pe->Hp->VK->Prop:=λx lo hi H Q=>∃ι M a,aC K H ι M/\i0 K H ι a x/\aA K H ι Q (Fg a lo hi M)
def Q4{op:D->D->c5->R3 D}(σ:St)(H:Hp)(Q:VK)(h:pY K (e2 op f g) σ H Q):Jk (r2 K op) (pY K f) (pY K g) σ H Q:=by let⟨ι,M,env,S,E,h⟩:=h;let⟨a,M1,e1,h⟩:=aA.bind h;let⟨b,M2,e2,h⟩:=aA.bind h;refine⟨ι,M,env,S,E,?_⟩;rw[e1];intro v H1 ι1 x1 S1 r1;refine⟨ι1,M1,env,S1,E.mono x1,?_⟩;rw[e2];intro u H2 ι2 x2 S2 r2;exact⟨ι2,M2,a,b,S2,r1.mono x2,r2,(h.up x1).up x2⟩
def Afk{op:D->c5->R3 D}(σ:St)(H:Hp)(Q:VK)(h:pY K (e1 op f) σ H Q):Se (r1 K op) (pY K f) σ H Q:=by let⟨ι,M,env,S,E,h⟩:=h;let⟨a,M1,e1,h⟩:=aA.bind h;refine⟨ι,M,env,S,E,?_⟩;rw[e1];intro v H1 ι1 x1 S1 r1;exact⟨ι1,M1,a,S1,r1,h.up x1⟩
variable{u:Yf}
section
variable {X:Cx} {a b c e o:Expr} {es:pw} {pos p:aZ} {f g h:E3} {gl:dg}
def Zd(i:Nat){x:ak}(hN:X.N[i]?=O x:=by rfl)(hv:Qc X.env.scope x:=by first|exact Or.inl rfl|exact Or.inr (Or.inl aaD)|exact Or.inr (Or.inr aaD))(hd:(x==("__debug__":ak))=false:=by decide)(vt:(x==("__classdict__":ak))=false:=by decide):C3 X (.Name x pos) (Zc i):=(ZzI hN hv hd vt).imp λσ H Q ao=>by
 let⟨ι,M,env,S,E,h⟩:=ao;unfold Zc at h;cases q:env[i]? with
 |none=>rw[q]at h;cases h|some od=>
  cases od with
  |none=>rw[q]at h;cases h|some d=>rw[q]at h;let⟨v,e1,r⟩:=E.2 i d q;exact⟨v,e1,aA.ok h S r⟩
def Zh{i j}:C3 X (.Constant (.int i) j pos) (eC<|.int i):=Aee.imp λσ H Q ⟨ι,M,env,S,E,h⟩=>aA.ok h S i0.int
def Bm{i j}:C3 X (.Constant (.bool i) j pos) (eC<|.bl i):=Aef.imp λσ H Q ⟨ι,M,env,S,E,h⟩=>aA.ok h S i0.bl
def wg{j}:C3 X (.Constant .none j pos) (eC .Z):=Aeg.imp λσ H Q ⟨ι,M,env,S,E,h⟩=>aA.ok h S i0.Z
def bN{x:ak}{cs:i4}{j}(hx:x=⟨pd cs⟩:=by decide +kernel):C3 X (.Constant (.str x) j pos) (eC<|.str cs):=ZzR.imp λσ H Q ao=>by let⟨ι,M,env,S,E,h⟩:=ao;subst hx;exact aA.ok h S i0.str
def YB{x:ak}{v:V}(hm:X.mg x=O u)(r:i5 v u)(hr:∀H ι,i0 X.K H ι d v)(hg:Gl X x:=by rfl)(hd:(x==("__debug__":ak))=false:=by decide):C3 X (.Name x pos) (eC d):=(Rl hg hm r hd).imp λσ H Q ⟨ι,M,env,S,E,h⟩=>aA.ok h S<|hr H ι
def Zt{op:Operator}{q:D->D->c5->R3 D}(ho:aY X (jh op) (r2 X.K q))(ha:C3 X a f)(hb:C3 X b g):C3 X (.BinOp a op b pos) (e2 q f g):=(AeE ho ha hb).imp Q4
def oN{op:UnaryOp}{q:D->c5->R3 D}(ho:vV X (Ow op) (r1 X.K q))(ha:C3 X a f):C3 X (.UnaryOp op a pos) (e1 q f):=(AeF ho ha).imp Afk
def yJ{op:CmpOp}{q:D->D->c5->R3 D}(ho:aY X (iB op) (r2 X.K q))(ha:C3 X a f)(hb:C3 X b g)(hm:Oh op b=false:=by rfl):C3 X (.Compare a [op] [b] pos) (e2 q f g):=(ZxP ho ha hb hm).imp Q4
def WH{Q:Bool->Hp->Prop}{r:R3 D}(h:rY K H ι Q r):aA K H ι (λx H'=>∃k,x= .bl k/\Q k H') r:=by
 cases r with
 |ok d M=>
  cases d with
  |bl b=>exactλv H' ι' e S r=>⟨b,r.iU,h H' ι' e S⟩|_=>cases h
 |exc x M=>cases h|bad=>cases h
def rZ(h:C3 X e f)(he:∀whole,isTrue e X.env whole=(do let v ←whole;Iv e.pos;z8 [v] (truthy v)):=by intro _;rfl):CT X e f:=(W3 h he).imp λσ H Q ⟨ι,M,env,S,E,h⟩=>⟨ι,M,env,S,E,WH h⟩
def cg{op:CmpOp}{q:D->D->c5->R3 D}(ho:aY X (iB op) (r2 X.K q))(ha:C3 X a f)(hb:C3 X b g)(hm:Oh op b=false:=by rfl):CT X (.Compare a [op] [b] pos) (e2 q f g):=(Zxd ho ha hb hm).imp λσ H Q ⟨ι,M,env,S,E,h⟩=>Q4 σ H _ ⟨ι,M,env,S,E,WH h⟩
end
variable{q:h8->c5->R3 D}
section
variable {X:Cx} {a b c e o:Expr} {es rest:pw} {pos p:aZ} {f g h:E3} {gl:dg}
def YC{op}(h:C3 X a f):C3 X (.BoolOp op [a] pos) f:=Zzw h
def Afl(ha:C3 X a f)(hb:C3 X (.BoolOp .And (b::rest) pos) g):C3 X (.BoolOp .And (a::b::rest) pos) (iV f g):=(ZyU ha hb).imp λσ H Q ao=>by
 let⟨ι,M,env,S,E,h⟩:=ao;let⟨d,M1,e1,h⟩:=aA.bind h;refine⟨ι,M,env,S,E,?_⟩;rw[e1];intro v H1 ι1 x1 S1 r1;cases d with
 |bl k=>
  refine⟨k,r1.iU,?_⟩;cases k with
  |true=>rw[f_ aaD];exact⟨ι1,M1,env,S1,E.mono x1,h.up x1⟩|false=>rw[i6 aaE];exact aA.ok (h.up x1) S1 i0.bl
 |_=>cases h
def WI(ha:C3 X a f)(hb:C3 X (.BoolOp .Or (b::rest) pos) g):C3 X (.BoolOp .Or (a::b::rest) pos) (jO f g):=(Aen ha hb).imp λσ H Q ao=>by
 let⟨ι,M,env,S,E,h⟩:=ao;let⟨d,M1,e1,h⟩:=aA.bind h;refine⟨ι,M,env,S,E,?_⟩;rw[e1];intro v H1 ι1 x1 S1 r1;cases d with
 |bl k=>
  refine⟨k,r1.iU,?_⟩;cases k with
  |false=>rw[i6 aaE];exact⟨ι1,M1,env,S1,E.mono x1,h.up x1⟩|true=>rw[f_ aaD];exact aA.ok (h.up x1) S1 i0.bl
 |_=>cases h
def WJ(ha:C3 X a f):C3 X (.UnaryOp .Not a pos) (e1 jj f):=(Aeo ha).imp λσ H Q ao=>by
 let⟨ι,M,env,S,E,h⟩:=ao;let⟨d,M1,e1,h⟩:=aA.bind h;refine⟨ι,M,env,S,E,?_⟩;rw[e1];intro v H1 ι1 x1 S1 r1;cases d with
 |bl k=>exact⟨k,r1.iU,aA.ok (h.up x1) S1 i0.bl⟩|_=>cases h
def CW(X:Cx)(e:Expr)(f:E3):Prop:=PW X e<|We X.K f
def CW.ct(h:CW X e f):CT X e f:=PW.pt h
def PW.imp{t t':TT}(h:PW X e t)(i:∀σ H Q,t' σ H Q->t σ H Q):PW X e t':=λwh c6 s σ H Q I q=>h wh c6 s σ H Q I<|i σ H Q q
def J3(ha:CT X a f):CW X (.BoolOp .And [a] pos) f:=ZxC ha
def Q5(ha:CT X a f):CW X (.BoolOp .Or [a] pos) f:=ZzP ha
def FT(ha:CT X a f)(hb:CW X (.BoolOp .And (b::rest) pos) g):CW X (.BoolOp .And (a::b::rest) pos) (iV f g):=PW.imp (ZzO ha hb) λσ H Q ao=>by
 let⟨ι,M,env,S,E,h⟩:=ao;let⟨d,M1,e1,h⟩:=rY.bind h;refine⟨ι,M,env,S,E,?_⟩;rw[e1];cases d with
 |bl k=>
  intro H1 ι1 x1 S1;cases k with
  |true=>rw[f_ aaD];exact⟨ι1,M1,env,S1,E.mono x1,h.up x1⟩|false=>rw[i6 aaE];exact h H1 ι1 x1 S1
 |_=>cases h
def FW(ha:CT X a f)(hb:CW X (.BoolOp .Or (b::rest) pos) g):CW X (.BoolOp .Or (a::b::rest) pos) (jO f g):=PW.imp (Aej ha hb) λσ H Q ao=>by
 let⟨ι,M,env,S,E,h⟩:=ao;let⟨d,M1,e1,h⟩:=rY.bind h;refine⟨ι,M,env,S,E,?_⟩;rw[e1];cases d with
 |bl k=>
  intro H1 ι1 x1 S1;cases k with
  |false=>rw[i6 aaE];exact⟨ι1,M1,env,S1,E.mono x1,h.up x1⟩|true=>rw[f_ aaD];exact h H1 ι1 x1 S1
 |_=>cases h
def wj(ha:CT X a f):CT X (.UnaryOp .Not a pos) (e1 jj f):=(Zzi ha).imp λσ H Q ao=>by
 let⟨ι,M,env,S,E,h⟩:=ao;let⟨d,M1,e1,h⟩:=rY.bind h;refine⟨ι,M,env,S,E,?_⟩;rw[e1];cases d with
 |bl k=>exactλH1 ι1 x1 S1=>h H1 ι1 x1 S1|_=>cases h
def Q6(hc:CT X c f)(ha:C3 X a g)(hb:C3 X b h):C3 X (.IfExp c a b pos) (rQ f g h):=(ZuZ hc ha hb).imp λσ H Q ao=>by
 let⟨ι,M,env,S,E,h⟩:=ao;let⟨d,M1,e1,h⟩:=aA.bind h;refine⟨ι,M,env,S,E,?_⟩;rw[e1];cases d with
 |bl k=>
  intro H1 ι1 x1 S1;cases k with
  |true=>rw[f_ aaD];exact⟨ι1,M1,env,S1,E.mono x1,h.up x1⟩|false=>rw[i6 aaE];exact⟨ι1,M1,env,S1,E.mono x1,h.up x1⟩
 |_=>cases h
def Zf:CA X [] Ze:=Xc.imp λσ H Q ⟨ι,M,env,S,E,h⟩=>h [] H ι k7.refl S aB.nil
def Zb(ha:C3 X e f)(hr:CA X es gl)(hs:Y1 (e::es) X.env=(false,aU e X.env)::Y1 es X.env:=by rfl):CA X (e::es) (Za f gl):=(Qm ha hr hs).imp λσ H Q ao=>by let⟨ι,M,env,S,E,h⟩:=ao;let⟨d,M1,e1,h⟩:=FQ.bind h;let⟨ds,M2,e2,h⟩:=FQ.bind h;refine⟨ι,M,env,S,E,?_⟩;rw[e1];intro v H1 ι1 x1 S1 r1;refine⟨ι1,M1,env,S1,E.mono x1,?_⟩;rw[e2];intro vs H2 ι2 x2 S2 r2;exact h (v::vs) H2 ι2 (x1.trans x2) S2<|aB.cons (r1.mono x2) r2
def cL{x1}(h:CA X es gl):C3 X (.Tuple es x1 pos) (aR gl):=(Zzf h).imp λσ H Q ao=>by
 let⟨ι,M,env,S,E,h⟩:=ao;let⟨ds,M1,e1,h⟩:=aA.bind h;refine⟨ι,M,env,S,E,?_⟩;rw[e1];intro vs H1 ι1 x1 S1 r1;by_cases hz:b9 ds<=SZ
 .rw[f_ hz]at h;refine⟨by rw[r1.length];exact Yx hz kY,λp hp=>?_⟩;let⟨x2,S2,r2⟩:=S1.xF hp r1;exact h _ _ _ (x1.trans x2) S2 r2
 .rw[i6 hz]at h;cases h
def cU(h:CA X es gl):C3 X (.List es pos) (bh gl):=(AeV h).imp λσ H Q ao=>by
 let⟨ι,M,env,S,E,h⟩:=ao;let⟨ds,M1,e1,h⟩:=aA.bind h;refine⟨ι,M,env,S,E,?_⟩;rw[e1];intro vs H1 ι1 x1 S1 r1;by_cases hz:b9 ds<=SZ
 .rw[f_ hz]at h;refine⟨by rw[r1.length];exact Yx hz kY,λp hp=>?_⟩;let⟨x2,S2,r2⟩:=S1.L hp r1;exact h _ _ _ (x1.trans x2) S2 r2
 .rw[i6 hz]at h;cases h
def WO(σ:St)(H:Hp)(Q:VK)(h:pY K (aL q gl) σ H Q):Xd (rB K q) (X_ K gl) σ H Q:=by let⟨ι,M,env,S,E,h⟩:=h;let⟨ds,M1,e1,h⟩:=aA.bind h;refine⟨ι,M,env,S,E,?_⟩;rw[e1];intro vs H1 ι1 x1 S1 r1;exact⟨ι1,M1,ds,S1,r1,h.up x1⟩
def WU{x:ak}{id:String}(hc:bY X (.builtin id) (rB X.K q))(hm:X.mg x=Yj)(hv:j_ x=O (.builtin id))(ha:CA X (e::es) gl)(hg:Gl X x:=by rfl)(hn:x≠ "__name__":=by decide)(sg:(x==("__debug__":ak))=false:=by decide)(he:Y1 (e::es) X.env=(false,aU e X.env)::Y1 es X.env:=by rfl)(pv:(fZ pos<|Y1 es X.env).any (·.1)=false:=by rfl):C3 X (.Call (.Name x p) (e::es) [] pos) (aL q gl):=(SD hc hg hm hv ha hn sg he pv).imp WO
def nF{x:ak}{T:String}(hc:bY X (.type T) (rB X.K q))(hm:X.mg x=Yj)(hv:j_ x=O (.type T))(ha:CA X (e::es) gl)(hg:Gl X x:=by rfl)(hn:x≠ "__name__":=by decide)(sg:(x==("__debug__":ak))=false:=by decide)(he:Y1 (e::es) X.env=(false,aU e X.env)::Y1 es X.env:=by rfl)(pv:(fZ pos<|Y1 es X.env).any (·.1)=false:=by rfl):C3 X (.Call (.Name x p) (e::es) [] pos) (aL q gl):=(ZtF hc hg hm hv ha hn sg he pv).imp WO
def Zv(hr:m_ X (r2 X.K Zj))(ha:C3 X a f)(hb:C3 X b g)(hs:SK b:=by exactλ_ _=>rfl):C3 X (.Subscript a b pos) (e2 Zj f g):=(Ae2 hr ha hb hs).imp Q4
def Bo:CO X Yj jP:=Zxg.imp λσ H Q ⟨ι,M,env,S,E,h⟩=>h H ι k7.refl S
def Bp(h:C3 X e f):CO X (O e) (jQ f):=(Zxz h).imp λσ H Q ao=>by
 let⟨ι,M,env,S,E,h⟩:=ao;let⟨d,M1,e1,h⟩:=J2.bind h;refine⟨ι,M,env,S,E,?_⟩;rw[e1];intro v H1 ι1 x1 S1 r1;cases d with
 |int i=>exact⟨i,r1.int_inv,h H1 ι1 x1 S1⟩|_=>cases h
def Bq{lo hi:Option Expr}{ol oh:Ff}{p2:aZ}(hr:kI X (rS X.K))(he:C3 X e f)(hl:CO X lo ol)(hu:CO X hi oh):C3 X (.Subscript e (.Slice lo hi Yj p2) pos) (jR f ol oh):=(Zu8 hr he hl hu).imp λσ H Q ao=>by let⟨ι,M,env,S,E,h⟩:=ao;let⟨d,M1,e1,h⟩:=aA.bind h;let⟨l,M2,e2,h⟩:=aA.bind h;let⟨u,M3,e3,h⟩:=aA.bind h;refine⟨ι,M,env,S,E,?_⟩;rw[e1];intro v H1 ι1 x1 S1 r1;refine⟨ι1,M1,env,S1,E.mono x1,?_⟩;rw[e2];intro H2 ι2 x2 S2;refine⟨ι2,M2,env,S2,(E.mono x1).mono x2,?_⟩;rw[e3];intro H3 ι3 x3 S3;exact⟨ι3,M3,d,S3,(r1.mono x2).mono x3,((h.up x1).up x2).up x3⟩
def d9:nD X [] cG:=ZwT.imp λD σ H ⟨ι,M,env,S,E,h⟩=>h σ H ι k7.refl S E
def Zo{st:Ye1}{u:S3}(h:CS X st u):nD X [st] u:=RF h
def Zi{st:Ye1}{xn:rq}{u w:S3}(h1:CS X st u)(h2:nD X xn w):nD X (st::xn) (Zx u w):=(RE h1 h2).imp λD σ H ao=>by
 let⟨ι,M,env,S,E,h⟩:=ao;refine⟨ι,M,env,S,E,?_⟩;have h':lM X.K H ι D (match u env M with| .nx env' M'=>w env' M'|o=>o):=h;cases q:u env M with
 |nx env' M'=>rw[q]at h';exactλσ' H' ι' x S' E'=>⟨ι',M',env',S',E',h'.up x⟩|_=>rwa[q]at h'
def dG{c1:Expr}{x y:rq}{u w:S3}(hc:CT X c1 f)(ha:nD X x u)(hb:nD X y w):CS X (.If c1 x y pos) (aQ f u w):=(W5 hc ha hb).imp λD σ H ao=>by
 let⟨ι,M,env,S,E,h⟩:=ao;refine⟨ι,M,env,S,E,?_⟩;unfold aQ at h;cases q:f env M with
 | ok d M1=>
  rw[q]at h;cases d with
  |bl k=>
   intro H1 ι1 x1 S1;cases k with
   |true=>rw[f_ aaD];exact⟨ι1,M1,env,S1,E.mono x1,h.up x1⟩|false=>rw[i6 aaE];exact⟨ι1,M1,env,S1,E.mono x1,h.up x1⟩
  |_=>cases h
 |exc x M1=>rw[q]at h;cases h|bad=>rw[q]at h;cases h
def bD(h:C3 X e f):CS X (.Return (O e) pos) (aP f):=(Zzk h).imp λD σ H ao=>by
 let⟨ι,M,env,S,E,h⟩:=ao;refine⟨ι,M,env,S,E,?_⟩;unfold aP at h;cases q:f env M with
 |ok d M1=>rwa[q]at h|exc x M1=>rw[q]at h;cases h|bad=>rw[q]at h;cases h
def gO(h:C3 X e f)(hs:pC e Yj pos.line X.env=pure false:=by rfl):CS X (.Expr e pos) (aG f):=(RH h hs).imp λD σ H ao=>by
 let⟨ι,M,env,S,E,h⟩:=ao;refine⟨ι,M,env,S,E,?_⟩;unfold aG at h;cases q:f env M with
 |ok d M1=>rw[q]at h;exactλv H1 ι1 x1 S1 r1=>h σ H1 ι1 x1 S1 (E.mono x1)|exc x M1=>rw[q]at h;cases h|bad=>rw[q]at h;cases h
def bG(i:Nat){x:ak}{ow:aZ}(hN:X.N.Nodup)(he:C3 X e f)(hi:X.N[i]?=O x:=by rfl)(hx:Loc X.env.scope x:=by first|exact Or.inl rfl|exact Or.inr aaD)(hs:pC e (O (.Name x ow)) pos.line X.env=pure false:=by rfl)(hf:X.fn x=true\/X.env.scope.names.lookup x=O .local:=by first|exact .inl rfl|exact .inr aaD):CS X (.Assign [.Name x ow] e pos) (aD i f):=(RS hN hi hx he hs hf).imp λD σ H ao=>by
 let⟨ι,M,env,S,E,h⟩:=ao;refine⟨ι,M,env,S,E,?_⟩;unfold aD at h;cases q:f env M with
 |ok d M1=>rw[q]at h;exactλv H1 ι1 x1 S1 r1=>h _ H1 ι1 x1 S1 ((E.mono x1).set i r1)|exc x M1=>rw[q]at h;cases h|bad=>rw[q]at h;cases h
end
def uq(K:Yb)(n:Nat)(F:F3):Sp:=λvs H Q _=>∃ι M ds,aC K H ι M/\aB K H ι ds vs/\ds.length=n/\aA K H ι Q (F ds M)
section
variable {K:Yb} {H H':Hp} {ι ι':l6} {M M':c5}
mutual
theorem i0.below:∀{d:D} {v:V},i0 K H ι d v->L3.below (b9 ι) d=true
 | .Z,_,_=>rfl|.bl _,_,_=>rfl|.int _,_,_=>rfl|.str _,_,_=>rfl
 | .U ds,_,h=>by let⟨a,vs,_,_,r⟩:=h.jf;exact aB.cu (ds:=ds) r|.cI ds,_,h=>by let⟨a,vs,_,_,r⟩:=h.u5;exact aB.cu (ds:=ds) r|.ref n,_,h=>by let⟨a,q,_⟩:=h.fD;exact qc (Yd.mp q).1
theorem aB.cu:∀{ds:h8} {vs:k6},aB K H ι ds vs->L3.cu (b9 ι) ds=true
 |[],_,_=>rfl|d::ds,_,h=>by let⟨v,ws,_,r,q⟩:=h.cons_inv;exact Yba.mpr ⟨i0.below (d:=d) r,aB.cu (ds:=ds) q⟩
end
mutual
theorem i0.cut{n:Nat}:∀{d:D} {v:V},L3.below n d=true->i0 K H ι d v->i0 K H (ι.take n) d v
 | .Z,_,_,h=>h|.bl _,_,_,h=>h|.int _,_,_,h=>h|.str _,_,_,h=>h
 | .U ds,_,hb,h=>by let⟨a,vs,rfl,s,r⟩:=h.jf;exact i0.U s (aB.cut (ds:=ds) hb r)|.cI ds,_,hb,h=>by let⟨a,vs,rfl,s,r⟩:=h.u5;exact⟨a,vs,rfl,s,aB.cut (ds:=ds) hb r⟩|.ref k,_,hb,h=>by let⟨a,q,rfl⟩:=h.fD;refine i0.ref ?_;rwa[D_<|of_decide_eq_true hb]
theorem aB.cut{n:Nat}:∀{ds:h8} {vs:k6},L3.cu n ds=true->aB K H ι ds vs->aB K H (ι.take n) ds vs
 |[],_,_,h=>h|d::ds,_,hb,h=>by let⟨v,ws,rfl,r,q⟩:=h.cons_inv;exact have w:=Yba.mp (hb:(L3.below n d&&L3.cu n ds)=true);aB.cons (i0.cut (d:=d) w.1 r) (aB.cut (ds:=ds) w.2 q)
end
def nC.below{a:Ys}(h:nC K H ι m a):v5 (b9 ι) m=true:=by
 cases m with
 |L xs=>let⟨vs,_,r⟩:=h;exact r.cu|j3 kvs=>let⟨ws,_,_,r⟩:=h;exact r.cu|dW kvs=>let⟨ws,_,_,r⟩:=h;exact r.cu|ins c fs=>
  rcases h with⟨_,_,gs,_,_,_,r⟩|⟨_,_,_,_,_,rfl|⟨_,_,_,_,_,_,r⟩⟩
  .exact r.cu
  .rfl
  .exact r.cu
def nC.cut{a:Ys}(hb:v5 n m=true)(h:nC K H ι m a):nC K H (ι.take n) m a:=by
 cases m with
 |L xs=>let⟨vs,q,r⟩:=h;exact⟨vs,q,r.cut hb⟩|j3 kvs=>let⟨ws,q,r1,r2⟩:=h;exact⟨ws,q,r1,r2.cut hb⟩|dW kvs=>let⟨ws,q,r1,r2⟩:=h;exact⟨ws,q,r1,r2.cut hb⟩|ins c fs=>
  rcases h with⟨C,dx,gs,q,c,r1,r2⟩|⟨C,dd,q,z,c,h|⟨dx,o,gs,e,f,r1,r2⟩⟩
  exact .inl ⟨C,dx,gs,q,c,r1,r2.cut hb⟩;exact .inr ⟨C,dd,q,z,c,.inl h⟩;exact .inr ⟨C,dd,q,z,c,.inr ⟨dx,o,gs,e,f,r1,r2.cut hb⟩⟩
def aC.cut(S:aC K H ι M)(h:(M.take n).all (v5 n)=true):aC K H (ι.take n) (M.take n):=by
 refine⟨by simp[S.len],S.nd.sublist<|V7 _ _,λk m a h1 h2=>?_⟩;have hk:k<n:=by have:=(Yd.mp h1).1;rw[Ea]at this;exact Yy this<|Nat.min_le_left _ _
 have hb:v5 n m=true:=nY.mp h m<|rG h1;rw[D_ hk]at h1 h2;exact(S.obj k m a h1 h2).cut hb
def YD{Q:VK}{v:V}(S:aC K H ι M)(x:k7 K H ι H' ι')(S':aC K H' ι' M')(r:i0 K H' ι' d v)(h:aA K H ι Q (tidy M d M')):Q v H':=by
 unfold tidy at h;split at h
 .rename_i c;simp only[j5,vM,decide_eq_true_eq]at c;have uj:(M'.take<|b9 M).all (v5<|b9 M)=true:=by
   rcases c.2 with e|e
   .rw[e,nY];intro m hm;let⟨n,hn⟩:=IK hm;let⟨a,q,w⟩:=S.at hn;rw[<-S.len];exact w.below
   .exact e
  refine h v H' (ι'.take<|b9 M) ⟨x.U,x.cI,λn a q=>?_,x.fO⟩ (S'.cut uj)<|r.cut c.1;rw[D_ (by rw[<-S.len];exact(Yd.mp q).1)];exact x.pre n a q
 .exact h v H' ι' x S' r
end
def b_.start(r:aB K H ι ds vs)(n:Nat):b_ K H ι (ds.map O++Yg n Yj) (vs.map O++Yg n Yj):=by
 refine⟨by simp[r.length],λi d h=>?_⟩;by_cases hi:i<ds.length
 .rw[Y4 (by simpa using hi),lB]at h;cases q:ds[i]? with
  |none=>rw[q]at h;simp at h|some d'=>rw[q]at h;simp at h;subst h;let⟨v,e,z⟩:=r.get q;refine⟨v,?_,z⟩;rw[Y4 (by simpa[r.length]using hi),lB,e];rfl
 .rw[xR (by simpa using hi),OJ]at h;split at h<;>simp at h
variable{ps:oB}
section
variable {P:Y8} {w:aX} {K:Yb} {mg:ak->oo} {base:aF}
theorem YF{x qual:ak}{st:Ye1}{f:Ys}{fd:mU}{N:oB}{k:Nat}(F:rP K x qual st f fd)(S:bZ N ps (Zq st))(hb:∀(oj:Yf) (A:cC) (outer:rL) (s:Yi) (H:Hp) (E:XK),dN k (A.deeper<|mY qual (Zq st) (d4 s) f oj)->nD (pK l_ P w K mg base N qual (Zq st) f oj A outer s H E).iC (jq st) body):
  iM P w K mg base l_ (k+1) f fd ps (uq K (b9 ps)<|aK (b9 ps) (b9 N) body):=by
 refine F.ok S (λvs H Q E ⟨ι,M,ds,_,r,l,_⟩=>by rw[r.length,l]) λoj A outer s H vs Q E hr ao=>?_;let⟨ι,M,ds,SR,r,l,h⟩:=ao;refine⟨_,hb oj A outer s H E hr,ι,M,ds.map O++Yg (b9 N-b9 ps) Yj,SR,?_,?_⟩
 .have e:L2.start N vs=vs.map O++Yg (b9 N-b9 ps) Yj:=by unfold L2.start;rw[r.length,l]
  rw[e];exact b_.start r _
 .unfold aK at h;rw[f_ l]at h;cases q:body (ds.map O++Yg (b9 N-b9 ps) Yj) M with
  |nx env' M'=>rw[q]at h;exactλσ' H' ι' x S' E'=>YD SR x S' i0.Z h|rt d M'=>rw[q]at h;exactλv H' ι' x S' r'=>YD SR x S' r' h|bk _ _=>rw[q]at h;cases h|ct _ _=>rw[q]at h;cases h
  |exc _ _=>rw[q]at h;cases h|bad=>rw[q]at h;cases h
def au(P:Y8)(w:aX)(K:Yb)(mg:ak->oo)(base:aF)(k:Nat)(x:ak)(ps:oB)(F:F3):Prop:=(∀ds M,b9 ds≠b9 ps->F ds M= .bad)/\∃f fd,mg x=O (.ref f)/\rC K (.ref f)=true/\Binds K fd ps []/\iM P w K mg base l_ k f fd ps (uq K (b9 ps) F)
def cH(K:Yb)(mg:ak->oo)(x:ak)(st:Ye1)(ps:oB):Prop:=∃f fd,rP K x x st f fd/\mg x=O (.ref f)/\Binds K fd ps []
def au.mono{j k:Nat}{x:ak}(h:au P w K mg base j x ps F)(l:j<=k):au P w K mg base k x ps F:=let⟨n,f,fd,a,b,c,d⟩:=h;⟨n,f,fd,a,b,c,d.mono l⟩
theorem au.of{x:ak}{st:Ye1}{N:oB}{k:Nat}(d:cH K mg x st ps)(S:bZ N ps (Zq st))(hb:∀(f:Ys) (oj:Yf) (A:cC) (outer:rL) (s:Yi) (H:Hp) (E:XK),dN k (A.deeper<|mY x (Zq st) (d4 s) f oj)->nD (pK l_ P w K mg base N x (Zq st) f oj A outer s H E).iC (jq st) body):
  au P w K mg base (k+1) x ps (aK (b9 ps) (b9 N) body):=by
 let⟨f,fd,F,m,bi⟩:=d;exact⟨λds M h=>i6 h,f,fd,m,F.kp,bi,YF F S<|hb f⟩
end
section
variable {X:Cx} {e:Expr} {es:pw} {pos p:aZ} {gl:dg} {x:ak} {k:Nat} {ps:oB} {F:F3}
def aW(G:au X.prog X.w X.K X.mg X.base k x ps F)(hr:dN k X.A)(ha:CA X (e::es) gl)(hg:Gl X x:=by rfl)(sg:(x==("__debug__":ak))=false:=by decide)(he:Y1 (e::es) X.env=(false,aU e X.env)::Y1 es X.env:=by rfl)(pv:(fZ pos<|Y1 es X.env).any (·.1)=false:=by rfl):C3 X (.Call (.Name x p) (e::es) [] pos) (Zr F gl):=by
 let⟨hn,f,fd,m,kp,bi,ok⟩:=G;refine(Zw6 ok hr hg m kp bi .nil TN ha sg he pv).imp λσ H Q ao=>?_;let⟨ι,M,env,S,E,h⟩:=ao;let⟨ds,M1,e1,h⟩:=aA.bind h;refine⟨ι,M,env,S,E,?_⟩;rw[e1];intro vs H1 ι1 x1 S1 r1;have hl:b9 ds=b9 ps:=by refine Jf λq=>?_;rw[hn ds M1 q]at h;cases h
 exact⟨ι1,M1,ds,S1,by rw[gJ];exact r1,hl,h.up x1⟩
end
def tGf(K:Yb)(g:G3):TG:=λv σ H Q=>∃ι M env d env',aC K H ι M/\b_ K H ι env σ/\i0 K H ι d v/\g d env=O env'/\∀σ',b_ K H ι env' σ'->Q σ' H
def tGs(K:Yb)(is:i4):vU:=λvs σ H Q=>∃ι M env ds env',aC K H ι M/\b_ K H ι env σ/\aB K H ι ds vs/\bindAll is ds env=O env'/\∀σ',b_ K H ι env' σ'->Q σ' H
def CG(X:Cx)(tg:Expr)(g:G3):Prop:=PG X tg<|tGf X.K g
def Q7(X:Cx)(tg:pw)(is:i4):Prop:=ud X tg<|tGs X.K is
def PG.imp{t t':TG}(h:PG X e t)(i:∀v σ H Q,t' v σ H Q->t v σ H Q):PG X e t':=λc6 s σ H v u Q I r q=>h c6 s σ H v u Q I r<|i v σ H Q q
def ud.imp{e:pw}{t t':vU}(h:ud X e t)(i:∀v σ H Q,t' v σ H Q->t v σ H Q):ud X e t':=λc6 s σ H v u Q I r q=>h c6 s σ H v u Q I r<|i v σ H Q q
section
variable {X:Cx} {e:Expr} {es:pw} {pos:aZ}
def mD(i:Nat){x:ak}(hN:X.N.Nodup)(hi:X.N[i]?=O x:=by rfl)(hx:Loc X.env.scope x:=by first|exact Or.inl rfl|exact Or.inr aaD)(hf:X.fn x=true\/X.env.scope.names.lookup x=O .local:=by first|exact .inl rfl|exact .inr aaD):CG X (.Name x pos) (bK i):=PG.imp (RO hN hi hx hf) λv σ H Q ao=>by let⟨ι,M,env,d,env',S,E,r,q,h⟩:=ao;cases q;exact h _<|E.set i r
def Q8:Q7 X [] []:=ud.imp ZxN λv σ H Q ao=>by
 let⟨ι,M,env,ds,env',S,E,r,q,h⟩:=ao;cases ds with
 |nil=>cases q;exact⟨r.nil_inv,h σ E⟩|cons d ds=>cases q
def yK(i:Nat){is:i4}{x:ak}(hN:X.N.Nodup)(ht:Q7 X es is)(hi:X.N[i]?=O x:=by rfl)(hx:Loc X.env.scope x:=by first|exact Or.inl rfl|exact Or.inr aaD)(hf:X.fn x=true\/X.env.scope.names.lookup x=O .local:=by first|exact .inl rfl|exact .inr aaD)(hs:(vA (.Name x pos::es) X.env).map (·.2)=nU (.Name x pos) X.env::(vA es X.env).map (·.2):=by rfl):
  Q7 X (.Name x pos::es) (i::is):=ud.imp (Zwf (RO hN hi hx hf) ht hs) λv σ H Q ao=>by
 let⟨ι,M,env,ds,env',S,E,r,q,h⟩:=ao;cases ds with
 |nil=>cases q|cons d ds=>let⟨v,ws,rfl,r1,r2⟩:=r.cons_inv;exact⟨v,ws,rfl,ι,M,env.set i<|O d,ds,env',S,E.set i r1,r2,q,h⟩
def Q9{is:i4}{k:Nat}(hc:X.calm=true)(h:Q7 X es is)(hl:b9 es=b9 is:=by rfl)(hn:(vA es X.env).length=b9 is:=by rfl)(sf:(vA es X.env).findIdx? (·.1)=Yj:=by rfl):CG X (.Tuple es k pos) (pR is):=
 PG.imp (Aey (n:=b9 is) hc h hn sf) λv σ H Q ao=>by
  let⟨ι,M,env,d,env',S,E,r,q,h⟩:=ao;cases d with
  | U ds=>
   let⟨a,vs,rfl,s,r⟩:=r.jf;have i7:∀(is:i4) (ds:h8) (env env':Zz),bindAll is ds env=O env'->b9 ds=b9 is:=by
    intro is
    induction is with
    |nil=>intro ds env env' h;cases ds with|nil=>rfl|cons d ds=>cases h
    |cons i is ih=>intro ds env env' h;cases ds with|nil=>cases h|cons d ds=>simp[ih ds _ _ h]
   exact⟨a,vs,rfl,s,by rw[r.length];exact i7 _ _ _ _ q,ι,M,env,ds,env',S,E,r,q,h⟩
  |_=>cases q
end
def mF(K:Yb)(H:Hp)(ι:l6)(it:iD)(J:It):Prop:=∀(i:Nat) H2 ι2 M2,k7 K H ι H2 ι2->aC K H2 ι2 M2->i8 it M2=true ->
 (∀d,it.items[i]?=O d->J.go i H2/\∀x H3,J.Qf i H2 x H3->H3=H2/\i0 K H2 ι2 d x)/\(i=b9 it.items->J.stop i H2)
def FZ(K:Yb)(H:Hp)(ι:l6)(R:It->Hp->Prop)(r:R3 iD):Prop:=match r with
 | .ok it M'=>∀J H' ι',k7 K H ι H' ι'->aC K H' ι' M'->mF K H' ι' it J->R J H'|_=>False
def W4(K:Yb)(g:I3):TI:=λσ H R=>∃ι M env,aC K H ι M/\b_ K H ι env σ/\FZ K H ι R (g env M)
def CI(X:Cx)(tg e:Expr)(g:I3):Prop:=PI X tg e<|W4 X.K g
def PI.imp{tg:Expr}{t t':TI}(h:PI X tg e t)(i:∀σ H Q,t' σ H Q->t σ H Q):PI X tg e t':=λc6 s σ H Q I q=>h c6 s σ H Q I<|i σ H Q q
def PI.or{tg:Expr}{t t':TI}(h:PI X tg e t)(h':PI X tg e t'):PI X tg e (λσ H R=>t σ H R\/t' σ H R):=λc6 s σ H Q I q=>q.elim (h c6 s σ H Q I)<|h' c6 s σ H Q I
def FZ.bind{Q:It->Hp->Prop}{r:R3 α}{k:α->c5->R3 iD}(h:FZ K H ι Q (r.bind k)):∃a M,r= .ok a M/\FZ K H ι Q (k a M):=by
 cases r with
 |ok a M=>exact⟨a,M,rfl,h⟩|exc x M=>cases h|bad=>cases h
section
variable {X:Cx} {tg e a b:Expr} {pos p:aZ} {f g:E3}
def Afm(h:C3 X e f)(hs:PI X tg e (λσ H R=>pY X.K f σ H λx H1=>∃z:ak,x= .str z/\z.length<=SZ/\∀J,(∀ι,mF X.K H1 ι ⟨z.cps.toList.map λc=>.str [c],Yj⟩ J)->R J H1)):CI X tg e (g_ f):=
 PI.imp (PI.or (ZzG h)<|PI.or (Zxs h) hs) λσ H R ao=>by
  let⟨ι,M,env,S,E,h⟩:=ao;let⟨d,M1,e1,h⟩:=FZ.bind h;cases d with
  |U ds=>refine .inl ⟨ι,M,env,S,E,?_⟩;rw[e1];intro v H1 ι1 x1 S1 r1;let⟨a,vs,rfl,s,r⟩:=r1.jf;refine⟨a,rfl,⟨vs,s⟩,h _ H1 ι1 x1 S1 ?_⟩;intro i H2 ι2 M2 x S2 _;refine⟨λd hd=>?_,λhl=>⟨vs,x.U _ _ s,by rw[r.length,hl];exact Yn _⟩⟩;let⟨v,hv,rv⟩:=r.get hd;refine⟨⟨vs,v,x.U _ _ s,hv⟩,λy H3 hy=>⟨hy.1,?_⟩⟩;have e:=hy.2 vs<|x.U _ _ s;rw[hv]at e;cases e;exact rv.mono x|cI ds=>refine .inr<|.inl ⟨ι,M,env,S,E,?_⟩;rw[e1];intro v H1 ι1 x1 S1 r1;let⟨a,vs,rfl,s,r⟩:=r1.u5;refine⟨a,rfl,⟨vs,s.sq⟩,h _ H1 ι1 x1 S1 ?_⟩;intro i H2 ι2 M2 x S2 _;refine⟨λd hd=>?_,λhl=>⟨vs,(x.cI _ _ s).sq,by rw[r.length,hl];exact Yn _⟩⟩;let⟨v,hv,rv⟩:=r.get hd;refine⟨⟨vs,v,(x.cI _ _ s).sq,hv⟩,λy H3 hy=>⟨hy.1,?_⟩⟩;have e:=hy.2 vs (x.cI _ _ s).sq;rw[hv]at e;cases e;exact rv.mono x|ref n=>
   refine .inr<|.inl ⟨ι,M,env,S,E,?_⟩;rw[e1];intro v H1 ι1 x1 S1 r1;cases hm:M1[n]? with
   |none=>simp only[hm]at h;cases h|some o=>
    cases o with
    |j3 kvs=>simp only[hm]at h;cases h|dW kvs=>simp only[hm]at h;cases h|ins _ _=>simp only[hm]at h;cases h|L ds=>simp only[hm]at h;let⟨a,ha,rfl⟩:=r1.fD;let⟨vs,q,r⟩:=S1.obj n _ a hm ha;refine⟨a,rfl,⟨vs,dm.of q⟩,h _ H1 ι1 x1 S1 ?_⟩;intro i H2 ι2 M2 x S2 lk;have YG:M2[n]?=O (.L ds):=of_decide_eq_true lk;let⟨An,q2,r2⟩:=S2.obj n _ a YG<|x.pre _ _ ha;refine⟨λd hd=>?_,λhl=>⟨An,dm.of q2,by rw[r2.length,hl];exact Yn _⟩⟩;let⟨v,hv,rv⟩:=r2.get hd;refine⟨⟨An,v,dm.of q2,hv⟩,λy H3 hy=>⟨hy.1,?_⟩⟩;have e:=hy.2 An<|dm.of q2;rw[hv]at e;cases e;exact rv
  | str z=>
   refine .inr<|.inr ⟨ι,M,env,S,E,?_⟩;rw[e1];intro v H1 ι1 x1 S1 r1;have hv:=r1.str_inv;subst hv;by_cases hz:z.length<=SZ
   .simp only[f_ hz]at h;refine⟨_,rfl,by simpa[t7]using hz,λJ ZrP=>h J H1 ι1 x1 S1 ?_⟩;simpa using ZrP ι1
   .simp only[i6 hz]at h;cases h
  |Z=>cases h|bl b=>cases h|int i=>cases h
def Zvv(lo:Int)(n:Nat):mF K H ι ⟨qJ lo n,Yj⟩ (Qh lo n):=by
 intro i H2 ι2 M2 x S _;refine⟨λd hd=>?_,λhl=>?_⟩
 .unfold qJ at hd;rw[lB]at hd;cases q:(fM n)[i]? with
  |none=>rw[q]at hd;cases hd|some k=>
   rw[q]at hd;let⟨hi,e⟩:=Yd.mp q;rw[Nd]at e;subst e;have sR:D.int (lo+(i:Int))=d:=by simpa using hd
   subst sR;exact⟨(by show i<n;simpa using hi),λy H3 hy=>⟨hy.1,by rw[hy.2];exact i0.int⟩⟩
 .show n<=i;rw[hl];simp[qJ]
def YH(hm:X.mg "range" =Yj)(h:C3 X a f)(hg:Gl X "range":=by rfl)(hs:Y1 [a] X.env=[(false,aU a X.env)]:=by rfl)(vS:Y1 (a::[]) X.env=(false,aU a X.env)::Y1 [] X.env:=by rfl):CI X tg (.Call (.Name "range" p) [a] [] pos) (pU f):=
 PI.imp (ZtU hg hm (Zb h Zf vS) hs) λσ H R ao=>by
  let⟨ι,M,env,S,E,h⟩:=ao;let⟨d,M1,e1,h⟩:=FZ.bind h;refine⟨ι,M,env,S,E,?_⟩;have e2:Za f Ze env M= .ok [d] M1:=by unfold Za;rw[e1];rfl
  rw[e2];intro vs H1 ι1 x1 S1 r1;let⟨v,ws,rfl,r,q⟩:=r1.cons_inv;have:=q.nil_inv;subst this;cases d with
  | int j=>
   have hv:=r.int_inv;subst hv;by_cases hj:j<=1000000/\ -1000000<=j
   .simp only[f_ hj]at h;exact⟨j,rfl,c8,c8,h _ H1 ι1 x1 S1<|Zvv 0 j.toNat⟩
   .simp only[i6 hj]at h;cases h
  |_=>cases h
def yL{iter:Expr}{body:rq}{i:I3}{g:G3}{u:S3}(Br:X.xe=λ_ _=>False)(hc:X.calm=true)(hi:CI X tg iter i)(hg:CG X tg g)(hb:nD X body u)(hs:∀x,zT iter X.env x=pure x:=by intro _;rfl):
  CS X (.For tg iter body [] pos) (lF i g u):=(W6 (by rw[Br];exact WP) hc hi hg hb hs).imp λD σ H ao=>by
 let⟨ι,M,env,S,E,h⟩:=ao;unfold lF at h;cases q:i env M with
 |exc x M1=>rw[q]at h;cases h|bad=>rw[q]at h;cases h|ok it M1=>
  rw[q]at h;refine⟨ι,M,env,S,E,?_⟩;rw[q];intro J H1 ι1 x1 S1 ok;refine⟨λi m σ2 H2=>m=b9 it.items-i/\i<=b9 it.items/\∃ι2 M2 fG,k7 X.K H1 ι1 H2 ι2/\aC X.K H2 ι2 M2/\b_ X.K H2 ι2 fG σ2/\lM X.K H2 ι2 D (dF it g u (it.items.drop i) fG M2),
   ⟨_,rfl,dY _,ι1,M1,env,k7.refl,S1,E.mono x1,lM.up x1 h⟩,?_⟩
  rintro i m σ2 H2 ⟨rfl,hi,ι2,M2,fG,x2,S2,E2,h2⟩;by_cases n9:i<it.items.length
  .have hd:it.items[i]?=O it.items[i]:=by simp[n9]
   rw[z_ n9]at h2
   first|rw[oH]at h2|rw[pW]at h2
   by_cases lk:i8 it M2=true
   .rw[f_ lk]at h2;let⟨go,yl⟩:=(ok i H2 ι2 M2 x2 S2 lk).1 _ hd;cases eg:g it.items[i] fG with
    |none=>rw[eg]at h2;exact h2.elim|some rA=>
     rw[eg]at h2;refine .inr ⟨go,λσ' H'=>∃ι3 M3 jK,k7 X.K H2 ι2 H' ι3/\aC X.K H' ι3 M3/\b_ X.K H' ι3 jK σ'/\lM X.K H' ι3 D (dF it g u (it.items.drop<|i+1) jK M3),
      λσ' H' ⟨ι3,M3,jK,x3,S3,E3,h3⟩=>⟨b9 it.items-(i+1),c8,rfl,n9,ι3,M3,jK,x2.trans x3,S3,E3,h3⟩,λx H' hy=>?_⟩
     let⟨rfl,rx⟩:=yl x H' hy;refine⟨ι2,M2,fG,_,rA,S2,E2,rx,eg,λσ' E'=>⟨ι2,M2,rA,S2,E',?_⟩⟩;cases qu:u rA M2 with
     |nx e' M'=>simp only[qu]at h2;exactλσ' H' ι' x' S' E'=>⟨ι',M',e',x',S',E',h2.up x'⟩|ct e' M'=>simp only[qu]at h2;exactλσ' H' ι' x' S' E'=>⟨ι',M',e',x',S',E',h2.up x'⟩|bk e' M'=>simp only[qu]at h2;exact h2|rt d M'=>simp only[qu]at h2;exact h2
     |exc x' M'=>simp only[qu]at h2;exact h2.elim|bad=>simp only[qu]at h2;exact h2.elim
   .rw[i6 lk]at h2;exact h2.elim
  .have e0:i=b9 it.items:=iJ hi<|tY n9;subst e0;rw[IV]at h2
   first|rw[oH]at h2|rw[pW]at h2
   by_cases lk:i8 it M2=true
   .rw[f_ lk]at h2;exact .inl ⟨(ok _ H2 ι2 M2 x2 S2 lk).2 aaD,h2 σ2 H2 ι2 k7.refl S2 E2⟩
   .rw[i6 lk]at h2;exact h2.elim
def YJ{c1:Expr}{body:rq}{u:S3}(Br:X.xe=λ_ _=>False)(hc:CT X c1 f)(hb:nD X body u):CS X (.While c1 body [] pos) (Fq f u):=(RU (by rw[Br];exact WP) hc hb).imp λD σ H ao=>by
 let⟨ι,M,env,S,E,h⟩:=ao;refine⟨λm σ2 H2=>∃ι2 M2 fG,aC X.K H2 ι2 M2/\b_ X.K H2 ι2 fG σ2/\lM X.K H2 ι2 D (jl f u m fG M2),⟨1000000,ι,M,env,S,E,h⟩,?_⟩;rintro m σ2 H2 ⟨ι2,M2,fG,S2,E2,h2⟩;cases m with
 |zero=>exact h2.elim|succ m=>
  refine⟨ι2,M2,fG,S2,E2,?_⟩;rw[oJ]at h2;cases q:f fG M2 with
  |exc x M1=>rw[q]at h2;exact h2.elim|bad=>rw[q]at h2;exact h2.elim|ok d M1=>
   rw[q]at h2;cases d with
   | bl k=>
    cases k with
    |false=>intro H3 ι3 x3 S3;rw[i6 aaE];exact h2 σ2 H3 ι3 x3 S3 (E2.mono x3)|true=>
     intro H3 ι3 x3 S3;rw[f_ aaD];refine⟨λσ' H'=>∃ι4 M4 jK,aC X.K H' ι4 M4/\b_ X.K H' ι4 jK σ'/\lM X.K H' ι4 D (jl f u m jK M4),λσ' H' q=>⟨m,Ef _,q⟩,ι3,M1,fG,S3,E2.mono x3,?_⟩;have h3:=lM.up x3 h2;cases qu:u fG M1 with
     |nx e' M'=>simp only[qu]at h3;exactλσ' H' ι' x' S' E'=>⟨ι',M',e',S',E',h3.up x'⟩|ct e' M'=>simp only[qu]at h3;exactλσ' H' ι' x' S' E'=>⟨ι',M',e',S',E',h3.up x'⟩|bk e' M'=>simp only[qu]at h3;exact h3|rt d M'=>simp only[qu]at h3;exact h3
     |exc x' M'=>simp only[qu]at h3;exact h3.elim|bad=>simp only[qu]at h3;exact h3.elim
   |_=>exact h2.elim
end
def i0.Adp{v:V}(r:i0 K H ι d v):decide (v=V.Z)=decide (d=D.Z):=by
 cases d with
 |Z=>rw[r.lq];rfl|bl b=>rw[r.iU];rfl|int i=>rw[r.int_inv];rfl|str x=>rw[r.str_inv];rfl
 |U ds=>let⟨a,vs,e,_⟩:=r.jf;rw[e];rfl|cI ds=>let⟨a,vs,e,_⟩:=r.u5;rw[e];rfl|ref n=>let⟨a,_,e⟩:=r.fD;rw[e];rfl
def WV{x y:i4}:decide (V.str ⟨pd x⟩=V.str ⟨pd y⟩)=(x==y):=by
 by_cases h:x=y
 .subst h;simp
 .rw[pf λe=>h (by injection e with e1;injection e1 with e2;simpa using congrArg Pg e2)]
  exact(beq_eq_false_iff_ne.mpr h).symm
section
variable {X:Cx}
def Zvz:aY X (jh .Add) (λx y H Q=>∃a b ys,x= .ref a/\y= .ref b/\dD X.K H a []/\dD X.K H b ys/\Q (.ref b) H):=by
 intro c6 s σ H x y v u Q I rx ry h;let⟨a,b,ys,rfl,rfl,ha,hb,q⟩:=h;cases rx;cases ry;let⟨c_,r1,p1,_⟩:=I.tuple ha;let⟨oQ,r2,p2,_⟩:=I.tuple hb;cases r1;let⟨⟨cls,dd,data,sl⟩,ho,hc,n,hd⟩:=id p1;let⟨⟨EN,yA,data2,DJ⟩,AK,zS,n2,hd2⟩:=id p2;simp only at hc hd zS hd2;subst hc hd zS hd2;exact VD ⟨_,ho,rfl⟩ ⟨_,AK,rfl⟩ Vt Vz Wz Wy (Wx _ _)
   (tuple_addW0 a b _ oQ.toArray n n2 dd yA sl DJ j0) ⟨ho,AK,⟨.ref b,H,I,rfl,q⟩⟩
def Zx5(x y:i4):(⟨pd x⟩:ak)++⟨pd y⟩=⟨(x++y).toArray⟩:=by show Str.append _ _=_;unfold Str.append;simp
def Q_(o:oS)(f:D->R3 D):R3 D:=match o with
 |some d=>f d|none=>.bad
def YK{Q:VK}{o:oS}{f:D->R3 D}(h:aA K H ι Q (Q_ o f)):∃x,o=O x/\aA K H ι Q (f x):=by
 cases o with
 |none=>cases h|some x=>exact⟨x,rfl,h⟩
def WZ(o:Option Nat)(f:Nat->R3 D):R3 D:=match o with
 |some d=>f d|none=>.bad
def Zxv{Q:VK}{o:Option Nat}{f:Nat->R3 D}(h:aA K H ι Q (WZ o f)):∃x,o=O x/\aA K H ι Q (f x):=by
 cases o with
 |none=>cases h|some x=>exact⟨x,rfl,h⟩
def YL(o:Option MO)(f:h8->R3 D):R3 D:=match o with
 |some (.L x)=>f x|_=>.bad
def Xs{Q:VK}{o:Option MO}{f:h8->R3 D}(h:aA K H ι Q (YL o f)):∃x,o=O (.L x)/\aA K H ι Q (f x):=by
 cases o with
 |none=>cases h|some o=>cases o with
  |L x=>exact⟨x,rfl,h⟩|_=>cases h
def XA(a b:Option MO)(f:h8->h8->R3 D):R3 D:=match a,b with
 |some (.L x),O (.L y)=>f x y|_,_=>.bad
def ZvT{Q:VK}{a b:Option MO}{f:h8->h8->R3 D}(h:aA K H ι Q (XA a b f)):∃x y,a=O (.L x)/\b=O (.L y)/\aA K H ι Q (f x y):=by
 cases a with
 |none=>cases h|some a=>cases a with
  | L x=>cases b with
   |none=>cases h|some b=>cases b with
    |L y=>exact⟨x,y,rfl,rfl,h⟩|_=>cases h
  |_=>cases h
def yM{Q:VK}{c:Prop}{_:Decidable c}{r:R3 D}(h:aA K H ι Q (if c then r else .bad)):c/\aA K H ι Q r:=by
 by_cases hc:c
 .rw[f_ hc]at h;exact⟨hc,h⟩
 .rw[i6 hc]at h;cases h
def XB(r:aB K H ι ds []):ds=[]:=OD r.length.symm
def bL:aY X (jh .Add) (r2 X.K Zy):=aY.imp (aY.or ZzT<|aY.or Zqx<|aY.or ZzQ<|aY.or Zxc Zvz) λx y H Q ao=>by
 let⟨ι,M,a,b,S,ra,rb,h⟩:=ao;cases a with
 |int i=>cases b with
  |int j=>exact .inl ⟨i,j,ra.int_inv,rb.int_inv,aA.ok h S i0.int⟩|_=>cases h
 | str x=>cases b with
  |str y=>let⟨hz,h⟩:=yM h;exact .inr (.inl ⟨_,_,ra.str_inv,rb.str_inv,Yx hz kY,by rw[Zx5];exact aA.ok h S i0.str⟩)|_=>cases h
 | U x=>cases b with
  | U y=>
   let⟨hz,h⟩:=yM h;let⟨p,vs,e,s,r⟩:=ra.jf;let⟨q,ws,e',s',r'⟩:=rb.jf;by_cases hv:vs=[]
   .rw[hv]at r s;rw[XB r]at h;exact .inr<|.inr<|.inr<|.inr ⟨p,q,ws,e,e',s,s',aA.ok h S<|i0.U s' r'⟩
   .refine .inr (.inr<|.inr<|.inl ⟨p,q,vs,ws,e,e',s,s',hv,by rw[r.length,r'.length];exact Yx hz kY,λhw=>?_,λhw p' hp=>?_⟩)
    .rw[hw]at r';rw[XB r',gJ]at h;exact aA.ok h S<|i0.U s r
    .let⟨x2,S2,r2⟩:=S.xF hp<|r.append r';exact h _ _ _ x2 S2 r2
  |_=>cases h
 | ref n=>cases b with
  |ref m=>have h:aA X.K H ι Q (XA M[n]? M[m]? λx y=>@ite _ (x.length+y.length<=SZ) (Yz _) (alloc (.L<|x++y) M) .bad):=h;let⟨x,y,hn,hm,h⟩:=ZvT h;let⟨hz,h⟩:=yM h;let⟨p,hp,e⟩:=ra.fD;let⟨q,hq,e'⟩:=rb.fD;let⟨vs,e1,r1⟩:=S.obj n _ p hn hp;let⟨ws,e2,r2⟩:=S.obj m _ q hm hq;refine .inr (.inr<|.inl ⟨p,q,vs,ws,e,e',e1,e2,by rw[r1.length,r2.length];exact Yx hz kY,λp' hp'=>?_⟩);let⟨x2,S2,r3⟩:=S.L hp'<|r1.append r2;exact h _ _ _ x2 S2 r3|_=>cases h
 |_=>cases b<;>cases h
def ur:aY X (jh .Sub) (r2 X.K jD):=aY.imp Zy1 λx y H Q ao=>by let⟨ι,M,a,b,S,ra,rb,h⟩:=ao;cases a<;>cases b<;>first|cases h|exact⟨_,_,ra.int_inv,rb.int_inv,aA.ok h S i0.int⟩
def eV:aY X (jh .Mod) (r2 X.K bH):=aY.imp Zzc λx y H Q ao=>by
 let⟨ι,M,a,b,S,ra,rb,h⟩:=ao;cases a with
 | int i=>cases b with
  | int j=>
   simp only[UN]at h;split at h
   .rename_i hj;exact⟨i,j,ra.int_inv,rb.int_inv,hj,aA.ok h S i0.int⟩
   .exact h.elim
  |_=>cases h
 |_=>cases b<;>cases h
def mG:aY X (jh .FloorDiv) (r2 X.K fJ):=aY.imp Zx3 λx y H Q ao=>by
 let⟨ι,M,a,b,S,ra,rb,h⟩:=ao;cases a with
 | int i=>cases b with
  | int j=>
   simp only[UO]at h;split at h
   .rename_i hj;exact⟨i,j,ra.int_inv,rb.int_inv,hj,aA.ok h S i0.int⟩
   .exact h.elim
  |_=>cases h
 |_=>cases b<;>cases h
def XE:aY X (jh .Pow) (r2 X.K E_):=aY.imp AeI λx y H Q ao=>by
 let⟨ι,M,a,b,S,ra,rb,h⟩:=ao;cases a with
 | int i=>cases b with
  | int j=>
   simp only[Zu2]at h;split at h
   .rename_i hj;exact⟨i,j,ra.int_inv,rb.int_inv,⟨hj.1,c8,by have:=hj.2.2;omega⟩,aA.ok h S i0.int⟩
   .exact h.elim
  |_=>cases h
 |_=>cases b<;>cases h
def oO:vV X (Ow .USub) (r1 X.K fQ):=vV.imp Zzy λx H Q ao=>by
 let⟨ι,M,a,S,ra,h⟩:=ao;cases a with
 |int i=>exact⟨i,ra.int_inv,aA.ok h S i0.int⟩|_=>cases h
def J5:aY X (iB .Lt) (r2 X.K mq):=aY.imp AeJ λx y H Q ao=>by let⟨ι,M,a,b,S,ra,rb,h⟩:=ao;cases a<;>cases b<;>first|cases h|exact⟨_,_,ra.int_inv,rb.int_inv,aA.ok h S i0.bl⟩
def Afn:aY X (iB .LtE) (r2 X.K Fb):=aY.imp AeK λx y H Q ao=>by let⟨ι,M,a,b,S,ra,rb,h⟩:=ao;cases a<;>cases b<;>first|cases h|exact⟨_,_,ra.int_inv,rb.int_inv,aA.ok h S i0.bl⟩
def ut:aY X (iB .Gt) (r2 X.K iQ):=aY.imp AeL λx y H Q ao=>by let⟨ι,M,a,b,S,ra,rb,h⟩:=ao;cases a<;>cases b<;>first|cases h|exact⟨_,_,ra.int_inv,rb.int_inv,aA.ok h S i0.bl⟩
def Afo:aY X (iB .GtE) (r2 X.K Ju):=aY.imp AeM λx y H Q ao=>by let⟨ι,M,a,b,S,ra,rb,h⟩:=ao;cases a<;>cases b<;>first|cases h|exact⟨_,_,ra.int_inv,rb.int_inv,aA.ok h S i0.bl⟩
def Ra:aY X (iB .Is) (r2 X.K Fd):=aY.imp ZyT λx y H Q ao=>by
 let⟨ι,M,a,b,S,ra,rb,h⟩:=ao;cases b with
 |Z=>exact⟨rb.lq,by rw[ra.Adp];exact aA.ok h S i0.bl⟩|_=>cases h
end
def units_in1(A:cC):A.in1.units=A.units+1:=rfl
variable{es:h8}{A:cC}
section
variable {X:Cx} {c6:oy} {σ:St} {H:Hp} {s:Yi} {ι:l6}
def Zoq{e:Nat->Bool}:∀{x y:h8},x.length=y.length->(∀(j:Nat) a b,x[j]?=O a->y[j]?=O b->e j=eU a b)->(fM x.length).all e=gY x y:=by
 intro x
 induction x generalizing e with
 |nil=>intro y h _;cases y with|nil=>rfl|cons _ _=>simp at h
 | cons a x ih=>
  intro y h he;cases y with
  |nil=>simp at h|cons b y=>rw[Yh,List.range_succ_eq_map,Ae,Wd,he 0 a b aaD aaD];rw[Xq];congr 1;exact ih (e:=e ∘ Nat.succ) (by simpa using h) λj a' b' h1 h2=>he (j+1) a' b' (by simpa using h1) (by simpa using h2)
theorem XG:∀{x y:h8},gY x y=true->x.length=y.length
 |[],[],_=>rfl|[],_::_,h=>ft h|_::_,[],h=>ft h|a::x,b::y,h=>congrArg Nat.succ<|XG (Yba.mp (h:(eU a b&&gY x y)=true)).2
def Rb(h:cP 0 d=true):fc d=true:=by cases d<;>first|exact rfl|exact h
def F_(h:cP (n+1) d=true):fc d=true\/∃ds,d= .U ds:=by
 cases d with
 |U ds=>exact .inr ⟨ds,rfl⟩|cI _=>exact ft h|ref _=>exact ft h|_=>exact .inl aaD
def XI{a b:D}{v:V}(fa:fc a=true)(fb:fc b=true)(r:i0 K H ι a v)(q:i0 K H ι b v):eU a b=true:=by
 cases a with
 |Z=>have e:=r.lq;cases b with
  |Z=>rfl|bl _=>cases e.symm.trans q.iU|int _=>cases e.symm.trans q.int_inv|str _=>cases e.symm.trans q.str_inv
  |_=>exact ft fb
 |bl x=>have e:=r.iU;cases b with
  |Z=>cases e.symm.trans q.lq|bl _=>exact beq_iff_eq.mpr (V.bl.inj<|e.symm.trans q.iU)|int _=>cases e.symm.trans q.int_inv|str _=>cases e.symm.trans q.str_inv
  |_=>exact ft fb
 |int x=>have e:=r.int_inv;cases b with
  |Z=>cases e.symm.trans q.lq|bl _=>cases e.symm.trans q.iU|int _=>exact beq_iff_eq.mpr (V.int.inj<|e.symm.trans q.int_inv)|str _=>cases e.symm.trans q.str_inv
  |_=>exact ft fb
 |str x=>have e:=r.str_inv;cases b with
  |Z=>cases e.symm.trans q.lq|bl _=>cases e.symm.trans q.iU|int _=>cases e.symm.trans q.int_inv|str _=>exact WV.symm.trans<|qc<|e.symm.trans q.str_inv
  |_=>exact ft fb
 |_=>exact ft fa
def XN{a:D}{v:V}{p:Ys}(fa:fc a=true)(r:i0 K H ι a v)(e:v= .ref p):False:=by
 cases a with
 |Z=>cases e.symm.trans r.lq|bl x=>cases e.symm.trans r.iU|int x=>cases e.symm.trans r.int_inv|str x=>cases e.symm.trans r.str_inv
 |_=>exact ft fa
def i0.fun1(I:c9 X c6 σ H s):∀(n:Nat) (a b:D) (v:V),cP n a=true->cP n b=true->i0 X.K H ι a v->i0 X.K H ι b v->eU a b=true:=by
 intro n
 induction n with
 |zero=>intro a b v ha hb r q;exact XI (Rb ha) (Rb hb) r q|succ n ih=>
  intro a b v ha hb r q;rcases F_ ha with fa|⟨ds,ea⟩
  .rcases F_ hb with fb|⟨es,eb⟩
   .exact XI fa fb r q
   .rw[eb]at q;let⟨p,vs,e,_⟩:=q.jf;exact(XN fa r e).elim
  .rw [ea]at r ha |-;let⟨p,vs,e,s1,r1⟩:=r.jf;rcases F_ hb with fb|⟨es,eb⟩
   .exact(XN fb q e).elim
   .rw[eb]at q hb |-;let⟨p',ws,e',s2,r2⟩:=q.jf;rw[<-V.ref.inj (e.symm.trans e')]at s2;rw[<-I.Uw s1 s2]at r2;clear s1 s2 e e' q r eb ea;rw[UB];revert ha hb r1 r2
    induction ds generalizing es vs with
    |nil=>
     intro _ r1 _ r2;cases es with
     |nil=>rfl|cons _ _=>let⟨_,_,e,_⟩:=r2.cons_inv;cases r1.nil_inv.symm.trans e
    | cons d ds ih2=>
     intro h1 r1 h2 r2;let⟨v,ws,e,q1,q2⟩:=r1.cons_inv;cases es with
     |nil=>cases r2.nil_inv.symm.trans e|cons e' es=>let⟨v',Ap,z,q3,q4⟩:=r2.cons_inv;let⟨z1,z2⟩:=WT<|z.symm.trans e;rw[z1]at q3;rw[z2]at q4;have g1:=Yba.mp (h1:(cP n d&&ds.all (cP n))=true);have g2:=Yba.mp (h2:(cP n e'&&es.all (cP n))=true);rw[Xq,ih d e' v g1.1 g2.1 q1 q3];exact ih2 ws es g1.2 q2 g2.2 q4
def Ga{x:V}(r:i0 K H ι .Z x)(e:i5 x u):u= .none:=by rw[r.lq]at e;cases e;rfl
def yN{b:Bool}{x:V}(r:i0 K H ι (.bl b) x)(e:i5 x u):u= .bool b:=by rw[r.iU]at e;cases e;rfl
def uv{x:V}(r:i0 K H ι (.int i) x)(e:i5 x u):∃t,u= .int i t:=by rwa[r.int_inv]at e
def yO{i:i4}{x:V}(r:i0 K H ι (.str i) x)(e:i5 x u):∃t,u= .str ⟨pd i⟩ t:=by rwa[r.str_inv]at e
inductive YM(X:Cx)(H:Hp)(ι:l6)(T:Ys->qB->Prop)(ds:h8)(x:V)(u:Yf):Prop
 |mk (p:Ys) (vs:k6) (c_:l5):x= .ref p->u= .ref p->T p c_.toArray->aB X.K H ι ds vs->i3 vs c_->YM X H ι T ds x u
def yP(I:c9 X c6 σ H s){x:V}(r:i0 X.K H ι (.U ds) x)(e:i5 x u):YM X H ι s.heap.IsTuple ds x u:=by let⟨p,vs,ex,s1,r1⟩:=r.jf;let⟨c_,vT,ht,_⟩:=I.tuple s1;rw[ex]at e;exact⟨p,vs,c_,ex,e,ht,r1,vT⟩
def W9{i k:i4}:decide (i=k)=((⟨pd i⟩:ak)==⟨pd k⟩):=by
 rw[<-O8,<-WV];by_cases h:(⟨pd i⟩:ak)=⟨pd k⟩
 .rw[h,beq_self_eq_true];exact qc aaD
 .rw[beq_eq_false_iff_ne.mpr h];exact pf λe=>h<|V.str.inj e
def Zxn{i k:i4}:eU (.str i) (.str k)=((⟨pd i⟩:ak)==⟨pd k⟩):=yd (show(i==k)=decide (i=k)from O8 i k) W9
def YQ(A:cC)(a b:D)(x y:V)(u v:Yf)(ha:fc a=true)(hb:fc b=true)(ra:i0 X.K H ι a x)(rb:i0 X.K H ι b y)(ru:i5 x u)(rv:i5 y v):oA A s u v (eU a b):=by
 cases a with
 |Z=>rw[Ga ra ru];cases b with
  |Z=>rw[Ga rb rv];exact WM _|bl k=>rw[yN rb rv];exact Pp _|int k=>let⟨t,e⟩:=uv rb rv;rw[e];exact PC _ _|str k=>let⟨t,e⟩:=yO rb rv;rw[e];exact PD _ _
  |_=>exact ft hb
 |bl i=>rw[yN ra ru];cases b with
  |Z=>rw[Ga rb rv];exact Pt _|bl k=>rw[yN rb rv];exact Pw _ _|int k=>let⟨t,e⟩:=uv rb rv;rw[e];exact PF _ _ _|str k=>let⟨t,e⟩:=yO rb rv;rw[e];exact PH _ _ _
  |_=>exact ft hb
 |int i=>let⟨t0,e0⟩:=uv ra ru;rw[e0];cases b with
  |Z=>rw[Ga rb rv];exact PM _ _|bl k=>rw[yN rb rv];exact PR _ _ _|int k=>let⟨t,e⟩:=uv rb rv;rw[e];exact WL _ _ _ _|str k=>let⟨t,e⟩:=yO rb rv;rw[e];exact WK _ _ _ _
  |_=>exact ft hb
 |str i=>let⟨t0,e0⟩:=yO ra ru;rw[e0];cases b with
  |Z=>rw[Ga rb rv];exact PU _ _|bl k=>rw[yN rb rv];exact PV _ _ _|int k=>let⟨t,e⟩:=uv rb rv;rw[e];exact PX _ _ _ _|str k=>let⟨t,e⟩:=yO rb rv;rw[e,Zxn];exact PY _ _ _ _
  |_=>exact ft hb
 |_=>exact ft ha
def J6(ds es:h8)(j:Nat):Bool:=match ds[j]?,es[j]? with|some a,O b=>eU a b|_,_=>false
def YS(hl:b9 ds≠b9 es):gY ds es=false:=by
 cases q:gY ds es with
 |false=>rfl|true=>exact oz (XG q) hl
def YT(hn:n=b9 ds)(hl:b9 ds=b9 es):(fM n).all (J6 ds es)=gY ds es:=by rw[hn];exact Zoq hl λj a b h1 h2=>by unfold J6;rw[h1,h2]
def XT{m:Nat}(hn:n=b9 ds)(hm:m=b9 es):((fM<|jL n m).all (J6 ds es)&&n==m)=gY ds es:=by
 by_cases hl:b9 ds=es.length
 .have e:n=m:=hn.trans<|hl.trans hm.symm;rw[<-e,Nat.min_self,beq_self_eq_true,xZ];exact YT hn hl
 .rw[YS hl,beq_eq_false_iff_ne.mpr λe=>hl<|hn.symm.trans<|e.trans hm,Eh]
def mH{c_:l5}(r:aB X.K H ι ds vs)(v:i3 vs c_):c_.toArray.size=b9 ds:=Yq.trans<|v.length.symm.trans r.length
def Rc{ws:k6}{c_ oQ:l5}(ih:∀(a b:D) (x y:V) (u v:Yf),cP n a=true->cP n b=true->i0 X.K H ι a x->i0 X.K H ι b y->i5 x u->i5 y v->oA A s u v (eU a b))(p1:ds.all (cP n)=true)(p2:es.all (cP n)=true)(r1:aB X.K H ι ds vs)(r2:aB X.K H ι es ws)(v1:i3 vs c_)(v2:i3 ws oQ)(j:Nat)(h1:j<c_.toArray.size)(h2:j<oQ.toArray.size):oA A s c_.toArray[j] oQ.toArray[j] (J6 ds es j):=by
 have k1:j<b9 ds:=by rwa[<-mH r1 v1]
 have k2:j<b9 es:=by rwa[<-mH r2 v2]
 have q1:=Y0 k1;have q2:=Y0 k2;let⟨x,g1,z1⟩:=r1.get q1;let⟨y,g2,z2⟩:=r2.get q2;let⟨u,e1,l1⟩:=v1.get g1;let⟨v,e2,l2⟩:=v2.get g2;unfold J6;rw[q1,q2];let⟨_,e1⟩:=Yd.mp e1;let⟨_,e2⟩:=Yd.mp e2;exact ih _ _ x y _ _ (nY.mp p1 _<|xT k1) (nY.mp p2 _<|xT k2) z1 z2 (e1▸l1)<|e2▸l2
def XU(A:cC)(rg:A.units<fH){a:D}{x:V}{p:Ys}{c_:qB}(ha:fc a=true)(ra:i0 X.K H ι a x)(ru:i5 x u)(it:s.heap.IsTuple p c_):oA A s u (.ref p) (eU a<|.U es)/\oA A s (.ref p) u (eU (.U es) a):=by
 cases a with
 |Z=>rw[Ga ra ru];exact⟨SeqAt.EqAt.none_tuple it rg,SeqAt.EqAt.tuple_none it rg⟩|bl k=>rw[yN ra ru];exact⟨SeqAt.EqAt.bool_tuple _ it rg,SeqAt.EqAt.tuple_bool _ it rg⟩|int k=>let⟨t,e⟩:=uv ra ru;rw[e];exact⟨SeqAt.EqAt.int_tuple _ _ it rg,SeqAt.EqAt.tuple_int _ _ it rg⟩|str k=>let⟨t,e⟩:=yO ra ru;rw[e];exact⟨SeqAt.EqAt.str_tuple _ _ it rg,SeqAt.EqAt.tuple_str _ _ it rg⟩
 |_=>exact ft ha
def YW(I:c9 X c6 σ H s):∀(n:Nat) (A:cC) (_:A.units+n+1<fH) (a b:D) (x y:V) (u v:Yf),cP n a=true->cP n b=true->i0 X.K H ι a x->i0 X.K H ι b y->i5 x u->i5 y v->oA A s u v (eU a b):=by
 intro n
 induction n with
 |zero=>intro A hu a b x y u v ha hb ra rb ru rv;exact YQ A a b x y u v (Rb ha) (Rb hb) ra rb ru rv|succ n ih=>
  intro A hu a b x y u v ha hb ra rb ru rv;have hu0:A.units+0+1<fH:=by omega
  have rg:A.units<fH:=by omega
  rcases F_ ha with fa|⟨ds,ea⟩
  .rcases F_ hb with fb|⟨es,eb⟩
   .exact YQ A a b x y u v fa fb ra rb ru rv
   .rw[eb]at rb |-;let⟨p,vs,c_,ex,eu,t,_⟩:=yP I rb rv;rw[eu];exact(XU A rg fa ra ru t).1
  .rw[ea]at ra ha |-;let⟨p,vs,c_,ex,eu,t,r1,v1⟩:=yP I ra ru;rw[eu];rcases F_ hb with fb|⟨es,eb⟩
   .exact(XU A rg fb rb rv t).2
   .rw[eb]at rb hb |-;let⟨q,ws,oQ,ey,ev,t',r2,v2⟩:=yP I rb rv;rw[ev];by_cases hp:p=q
    .rw[ey,<-hp,<-ex]at rb;rw[i0.fun1 I (n+1) _ _ _ ha hb ra rb,hp];exact WM _
    .refine PZ hp ?_;rw[UB,<-XT (mH r1 v1) (mH r2 v2)];exact P2 t t' rg (Rc (ih A.in1 (by rw[units_in1];omega)) ha hb r1 r2 v1 v2)
end
section
variable {X:Cx}
section
variable {c6:oy} {σ:St} {H:Hp} {s:Yi} {ι:l6}
def Rf(I:c9 X c6 σ H s)(S:aC X.K H ι M){x:V}(h:M[n]?=O (.L ds))(r:i0 X.K H ι (.ref n) x)(e:i5 x u):YM X H ι s.heap.IsList ds x u:=by let⟨p,XY,ex⟩:=r.fD;let⟨vs,e1,r1⟩:=S.obj n _ p h XY;let⟨c_,vT,pl1,_⟩:=I.list<|dm.of e1;rw[ex]at e;exact⟨p,vs,c_,ex,e,pl1.isList,r1,vT⟩
inductive Bs(M:c5)(a b:D)(k:Bool):Prop
 |ref {n m:Nat} (ds es:h8):a= .ref n->b= .ref m->gY ds es=k->M[n]?=O (.L ds)->M[m]?=O (.L es)->ds.all (cP pz)=true/\es.all (cP pz)=true->Bs M a b k
 |int (i j:Int):a= .int i->b= .int j->decide (i=j)=k->Bs M a b k
 |str (i j:i4):a= .str i->b= .str j->decide (i=j)=k->Bs M a b k
 |bl (i j:Bool):a= .bl i->b= .bl j->decide (i=j)=k->Bs M a b k
 |U {ds es:h8}:a= .U ds->b= .U es->gY ds es=k->ds.all (cP pz)=true/\es.all (cP pz)=true->Bs M a b k
def YX{c d:Bool}{a k:α}(h:(if c&&d then O a else Yj)=O k):a=k/\c=true/\d=true:=by
 cases c with
 |false=>exact e_ h|true=>cases d with
  |false=>exact e_ h|true=>exact⟨Y9 h,rfl,rfl⟩
def Afp(a b:Option MO):Option Bool:=match a,b with
 |some (.L x),O (.L y)=>if x.all (cP pz)&&y.all (cP pz)then O (gY x y)else Yj|_,_=>Yj
def Zxp{m:Nat}{k:Bool}(h:Afp M[n]? M[m]?=O k):Bs M (.ref n) (.ref m) k:=by
 cases e1:M[n]? with
 |none=>rw[e1]at h;exact e_ h|some o=>cases o with
  | L x=>cases e2:M[m]? with
   |none=>rw[e1,e2]at h;exact e_ h|some o=>cases o with
    |L y=>rw[e1,e2]at h;exact have w:=YX h;.ref x y aaD aaD w.1 e1 e2 w.2|_=>rw[e1,e2]at h;exact e_ h
  |_=>rw[e1]at h;exact e_ h
def eqK{a b:D}{k:Bool}(h:rR a b M=O k):Bs M a b k:=by
 cases a with
 |ref n=>cases b with
  |ref m=>exact Zxp h|_=>exact e_ h
 |int i=>cases b with
  |int j=>exact .int i j aaD aaD (Y9 h)|_=>exact e_ h
 |str i=>cases b with
  |str j=>exact .str i j aaD aaD (Y9 h)|_=>exact e_ h
 |bl i=>cases b with
  |bl j=>exact .bl i j aaD aaD (Y9 h)|_=>exact e_ h
 |U ds=>cases b with
  |U es=>exact have w:=YX h;.U aaD aaD w.1 w.2|_=>exact e_ h
 |_=>cases b<;>exact e_ h
def XZ{a b:D}{x y:V}{u v:Yf}{k:Bool}(hu:X.A.units+80<fH)(I:c9 X c6 σ H s)(S:aC X.K H ι M)(ra:i0 X.K H ι a x)(rb:i0 X.K H ι b y)(ru:i5 x u)(rv:i5 y v)(h:rR a b M=O k):SeqAt.RcAt X.A s u v k/\SeqAt.RcNeAt X.A s u v (!k):=by
 have rg:X.A.units<fH:=by omega
 have DM:X.A.in1.units+pz+1<fH:=by rw[units_in1];exact(show X.A.units+1+60+1<fH from by omega)
 rcases eqK h with⟨ds,es,ea,eb,ek,e1,e2,p1,p2⟩|⟨i,j,ea,eb,ek⟩|⟨i,j,ea,eb,ek⟩|⟨i,j,ea,eb,ek⟩|⟨ea,eb,ek,p1,p2⟩
 .rw[ea]at ra;rw[eb]at rb;rw[<-ek];let⟨p,vs,c_,_,eu,t,r1,v1⟩:=Rf I S e1 ra ru;let⟨q,ws,oQ,_,ev,t',r2,v2⟩:=Rf I S e2 rb rv;rw[eu,ev];by_cases hl:b9 ds=es.length
  .rw[<-YT (mH r1 v1) hl];have hz:=(mH r1 v1).trans<|hl.trans (mH r2 v2).symm;have w:=Rc (YW I pz X.A.in1 DM) p1 p2 r1 r2 v1 v2;exact⟨P5 t t' hz rg w,SeqAt.RcNeAt.lists t t' hz rg w⟩
  .rw[YS hl];have hz:(c_.toArray.size !=oQ.toArray.size)=true:=bne_iff_ne.mpr λe=>hl<|(mH r1 v1).symm.trans<|e.trans<|mH r2 v2;exact⟨P1 t t' hz rg,SeqAt.RcNeAt.lists_lengths t t' hz rg⟩
 .rw[ea]at ra;rw[eb]at rb;let⟨t,e⟩:=uv ra ru;let⟨t',e'⟩:=uv rb rv;rw[e,e',<-ek,<-O8];exact⟨SeqAt.RcAt.int_int _ _ _ _,SeqAt.RcNeAt.int_int _ _ _ _⟩
 .rw[ea]at ra;rw[eb]at rb;let⟨t,e⟩:=yO ra ru;let⟨t',e'⟩:=yO rb rv;rw[e,e',<-ek,W9];exact⟨SeqAt.RcAt.str_str _ _ _ _,SeqAt.RcNeAt.str_str _ _ _ _⟩
 .rw[ea]at ra;rw[eb]at rb;rw[yN ra ru,yN rb rv,<-ek,<-O8];exact⟨SeqAt.RcAt.bool_bool _ _,SeqAt.RcNeAt.bool_bool _ _⟩
 .rw[ea]at ra;rw[eb]at rb;let⟨p,vs,c_,_,eu,t,r1,v1⟩:=yP I ra ru;let⟨q,ws,oQ,_,ev,t',r2,v2⟩:=yP I rb rv;rw[eu,ev,<-ek,<-XT (mH r1 v1) (mH r2 v2)];have w:=Rc (YW I pz X.A.in1 DM) p1 p2 r1 r2 v1 v2;exact⟨P2 t t' rg w,P7 t t' rg w⟩
end
def dR(hu:X.A.units+80<fH):aY X (iB .Eq) (r2 X.K bJ):=by
 intro c6 s σ H x y v u Q I rx ry h;let⟨ι,M,a,b,S,ra,rb,h⟩:=h;unfold bJ at h;cases q:rR a b M with
 |none=>rw[q]at h;cases h|some k=>rw[q]at h;exact(XZ hu I S ra rb rx ry q).1 X.prog X.w X.xe _ ⟨.bl k,H,I,rfl,aA.ok h S i0.bl⟩
def YZ(r:aB K H ι ds vs)(h:fK ds i=O d):∃v,Aq vs i=O v/\i0 K H ι d v:=by
 unfold fK at h;unfold Aq;have e:Jo (b9 vs) i=pO (b9 ds) i:=by rw[r.length];rfl
 rw[e];cases q:pO (b9 ds) i with
 |none=>rw[q]at h;cases h|some j=>rw[q]at h;exact r.get h
def Zw:m_ X (r2 X.K Zj):=m_.imp Ae3 λx y H Q ao=>by
 let⟨ι,M,a,b,S,ra,rb,h⟩:=ao;cases a with
 | U ds=>cases b with
  |int i=>have h:aA X.K H ι Q (Q_ (fK ds i) λd=>.ok d M):=h;let⟨d,q,h⟩:=YK h;let⟨p,vs,e',s1,r1⟩:=ra.jf;let⟨v,e,rv⟩:=YZ r1 q;exact .inr (.inl ⟨p,vs,i,v,e',rb.int_inv,s1,e,aA.ok h S rv⟩)|_=>cases h
 | cI ds=>cases b with
  |int i=>have h:aA X.K H ι Q (Q_ (fK ds i) λd=>.ok d M):=h;let⟨d,q,h⟩:=YK h;let⟨p,vs,e',s1,r1⟩:=ra.u5;let⟨v,e,rv⟩:=YZ r1 q;exact .inl ⟨p,vs,i,v,e',rb.int_inv,s1.sq,e,aA.ok h S rv⟩|_=>cases h
 | str z=>cases b with
  |int i=>have h:aA X.K H ι Q (WZ (fK z i) λc=>@ite _ (z.length<=SZ) (Yz _) (.ok (.str [c]) M) .bad):=h;let⟨c,q,h⟩:=Zxv h;let⟨hz,h⟩:=yM h;exact .inr (.inr ⟨_,i,c,ra.str_inv,rb.int_inv,Yx hz kY,q,aA.ok h S i0.str⟩)|_=>cases h
 | ref n=>cases b with
  |int i=>have h:aA X.K H ι Q (YL (M[n]?) λds=>Q_ (fK ds i) λd=>.ok d M):=h;let⟨ds,hn,h⟩:=Xs h;let⟨d,q,h⟩:=YK h;let⟨p,hp,e'⟩:=ra.fD;let⟨vs,e1,r1⟩:=S.obj n _ p hn hp;let⟨v,e,rv⟩:=YZ r1 q;exact .inl ⟨p,vs,i,v,e',rb.int_inv,dm.of e1,e,aA.ok h S rv⟩|_=>cases h
 |_=>cases b<;>cases h
def Y_(r:aB K H ι ds vs)(lo hi:pe):aB K H ι (oC ds lo hi) (yj vs lo hi):=by
 have e:∀n d o,HT.aN n d o=aN n d o:=λn d o=>by cases o<;>rfl
 unfold oC yj;rw[e,e,r.length];exact(r.drop _).take _
end
def jc(cells:tI):List (ak×NameKind)->tI->tI
 |[],cs=>cs|(n,k)::r,cs=>jc cells r<|if k== .free then(n,(cells.lookup n).getD 0)::cs else cs
def J7{cells:tI}{n:ak}{k:NameKind}{r:List (ak×NameKind)}{cs:tI}:jc cells ((n,k)::r) cs=jc cells r (if k== .free then(n,(cells.lookup n).getD 0)::cs else cs):=rfl
def ZC{scope:Scope}{env:dJ}(h:∀y∈scope.names,y.2= .free->∃c,env.cells.lookup y.1=O c):closureFor scope env=pure (jc env.cells scope.names []):=by
 unfold closureFor;have key:∀(names:List (ak×NameKind)) (cs:tI),(∀y∈names,y.2= .free->∃c,env.cells.lookup y.1=O c) ->
   (forIn names cs λx r=>match x with|(name,kind)=>if(kind==NameKind.free)=true then do let c ←cellOf env name;pure (ForInStep.yield<|(name,c)::r)else pure (ForInStep.yield r):mW tI)=pure (jc env.cells names cs):=by
  intro names
  induction names with
  |nil=>intro cs _;rfl|cons y r ih=>
   intro cs hy;let⟨n,k⟩:=y;rw[IW];by_cases hk:k= .free
   .subst hk;let⟨c,hc⟩:=hy (n,.free) Yv aaD;have e1:cellOf env n=pure c:=by unfold cellOf;rw[hc]
    simp only[beq_self_eq_true,if_true,e1,pure_bind];rw[ih _ λz hz=>hy z<|Yk _ hz];rw[J7,hc];rfl
   .have hb:(k==NameKind.free)=false:=by simpa using hk
    simp only[hb,Aj,if_false,pure_bind];rw[ih _ λz hz=>hy z<|Yk _ hz];rw[J7,hb];rfl
 have:=key scope.names [] h
 first
  |exact this
  |(simp only[bind_pure];exact this)
def ZsY{cells:tI}{x:ak}{c:Ys}:∀(names:List (ak×NameKind)) (cs:tI),(∀y∈names,y.2= .free->∃c,cells.lookup y.1=O c)->(jc cells names cs).lookup x=O c->cs.lookup x=O c\/cells.lookup x=O c:=by
 intro names
 induction names with
 |nil=>intro cs _ h;exact .inl h|cons y r ih=>
  intro cs hy h;let⟨n,k⟩:=y;rw[J7]at h;rcases ih _ (λz hz=>hy z<|Yk _ hz) h with q|q
  .by_cases hk:k= .free
   .subst hk;let⟨c0,hc⟩:=hy (n,.free) Yv aaD;simp only[beq_self_eq_true,if_true,hc,Option.getD_some,lY]at q;cases hx:x==n with
    |true=>
     simp only[hx]at q;cases q;have:x=n:=by simpa using hx
     subst this;exact .inr hc
    |false=>simp only[hx]at q;exact .inl q
   .have hb:(k==NameKind.free)=false:=by simpa using hk
    simp only[hb,Aj,if_false]at q;exact .inl q
  .exact .inr q
def ZqM{cells:tI}{x:ak}:∀(names:List (ak×NameKind)) (cs:tI),(cs.lookup x).isSome=true->((jc cells names cs).lookup x).isSome=true:=by
 intro names
 induction names with
 |nil=>intro cs h;exact h|cons y r ih=>
  intro cs h;let⟨n,k⟩:=y;rw[J7];refine ih _ ?_;split
  .rw[lY];split
   .rfl
   .exact h
  .exact h
def X0{cells:tI}{x:ak}:∀(names:List (ak×NameKind)) (cs:tI),(x,NameKind.free)∈names->((jc cells names cs).lookup x).isSome=true:=by
 intro names
 induction names with
 |nil=>intro cs h;cases h|cons y r ih=>
  intro cs h;let⟨n,k⟩:=y;rw[J7];rcases Yt.mp h with e|h
  .cases e
   refine ZqM _ _ ?_;simp
  .exact ih _ h
def mJ(X:Cx)(scope:Scope)(N':oB)(C:Ys)(cl:tI)(s:Yi)(H:Hp)(ex:l6):Cx:={X with N:=N',s₀:=s,H₀:=H,env:=xM scope cl C X.env,outer:=X.stack,stack:=X.stack,ex:=ex,fn:=λ_=>false,pn:=[],xe:=λ_ _=>False}
def ZD(N N':oB)(scope:Scope):Bool:=(fM<|b9 N).all λi=>match N'[i]? with
 |some x=>(scope.names.lookup x).isNone|| (decide (N[i]?=O x)&&decide (scope.names.lookup x=O .free))|none=>false
def wu(X:Cx)(ifs:pw)(ts:List E3):Prop:=∀(c6:oy) (s:Yi) (σ:St) (H:Hp) (Q:Bool->Hp->Prop),c9 X c6 σ H s ->
 (∃ι M env,aC X.K H ι M/\b_ X.K H ι env σ/\match v4 ts env M with| .ok b M'=>∀H' ι',k7 X.K H ι H' ι'->aC X.K H' ι' M'->Q b H'|_=>False) ->
 Y5 (aq X.prog X.w) X.A (forIn ifs true λc r=>if r=true then do let ok ←isTrue c X.env (aU c X.env);pure (ForInStep.yield ok)else pure (ForInStep.yield r)) (TP X c6 σ Q) X.xe s
def Rg:wu X [] []:=λc6 s σ H Q I ⟨ι,M,env,S,E,h⟩=>wpAny_tests_nil ⟨H,I,h H ι k7.refl S⟩
def X1{c:Expr}(hc:CT X c f):wu X [c] [f]:=λc6 s σ H Q I ao=>by
 let⟨ι,M,env,S,E,h⟩:=ao;refine wpAny_tests_one<|hc c6 s σ H Q I ⟨ι,M,env,S,E,?_⟩;rw[QL]at h;cases q:f env M with
 | ok d M1=>
  rw[q]at h;cases d with
  |bl b=>cases b with
   |true=>exact h|false=>exact h
  |_=>cases h
 |exc x M1=>rw[q]at h;cases h|bad=>rw[q]at h;cases h
section
variable {prog:Y8} {w:aX} {A:cC} {R:vC->Yi->Prop} {s:Yi}
def Zot{elt target iter:Expr}{ifs:pw}{scope:Scope}{pos:aZ}{it acc:Yf}{env:dJ}(I:Nat->Yi->Prop)(turn:∀n s,I n s->Y5 (aq prog w) A (ji it) (λr s₁=>match r with
   |none=>R (.ok .next) s₁|some v=>Y5 (aq prog w) A (zV target it v) (λ_ J8=>Y5 (aq prog w) A (nU target env v) (λ_ s₂=>
     Y5 (aq prog w) A (forIn ifs true λc r=>if r=true then do let ok ←isTrue c env (aU c env);pure (ForInStep.yield ok)else pure (ForInStep.yield r)) (λok s₃=>
      if ok=true then Y5 (aq prog w) A (aU elt env) (λx s₄=>Y5 (aq prog w) A (call (.builtin "list.append") [acc,x]) (λ_ s₅=>∃m,m<n/\I m s₅) (λ_ _=>False) s₄) (λ_ _=>False) s₃
      else∃m,m<n/\I m s₃) (λ_ _=>False) s₂) (λ_ _=>False) J8) (λ_ _=>False) s₁) (λ_ _=>False) s)(n:Nat)(h:I n s):mV (aq prog w) A (.compLoop (.ListComp elt [⟨target,iter,ifs,0⟩] scope pos) 0 it acc env) R s:=by
 refine codeAny_loop aaD I (λn s hI=>?_) n h;show Y5 _ A ((compTurn (.ListComp elt [⟨target,iter,ifs,0⟩] scope pos) 0 it acc env).onRaise (λx=>do tQ x env;MH x)) _ _ s;refine wpAny_noted ?_;rw[compTurn_list];refine Yc<|Oi<|Yc<|gq (turn n s hI) (λr s₁ h₁=>?_) λ_ _ h'=>gM h';cases r with
 |none=>exact Yo h₁|some v=>
  refine Yc<|gq h₁ (λ_ J8 ZF=>?_) λ_ _ h'=>gM h';refine Yc<|gq ZF (λ_ s₂ h₂=>Yc<|gq h₂ (λok s₃ h₃=>?_) λ_ _ h'=>gM h') λ_ _ h'=>gM h';cases ok with
  |false=>exact Yo ⟨rfl,h₃⟩|true=>exact Yc<|Yc<|gq h₃ (λx s₄ h₄=>Yc<|gq h₄ (λ_ s₅ h₅=>Yo<|Yo ⟨rfl,h₅⟩) λ_ _ h'=>gM h') λ_ _ h'=>gM h'
end
def ZG{env:dJ}{x:ak}{k:NameKind}:∀{names:List (ak×NameKind)},(names.map λ(n,k)=>if(k==NameKind.free&&env.scope.kind== .function&&env.kindOf n==O .cell)then(n,NameKind.cell)else(n,k)).lookup x=O k ->
  ∃k0,names.lookup x=O k0/\(k0=k\/(k0= .free/\k= .cell)):=by
 intro names
 induction names with
 |nil=>intro h;simp at h|cons y r ih=>
  intro h;let⟨n,k1⟩:=y;rw[Y2]at h;cases hx:x==n with
  | true=>
   refine⟨k1,by simp[lY,hx],?_⟩;by_cases hc:(k1==NameKind.free&&env.scope.kind== .function&&env.kindOf n==O .cell)=true
   .simp only[f_ hc,lY,hx]at h;cases h;simp only[j5,beq_iff_eq]at hc;exact .inr ⟨hc.1.1,rfl⟩
   .simp only[i6 hc,lY,hx]at h;cases h;exact .inl aaD
  | false=>
   have h':(r.map λ(n,k)=>if(k==NameKind.free&&env.scope.kind== .function&&env.kindOf n==O .cell)then(n,NameKind.cell)else(n,k)).lookup x=O k:=by
    by_cases hc:(k1==NameKind.free&&env.scope.kind== .function&&env.kindOf n==O .cell)=true
    .simp only[f_ hc,lY,hx]at h;exact h
    .simp only[i6 hc,lY,hx]at h;exact h
   let⟨k0,e,q⟩:=ih h';exact⟨k0,by simp[lY,hx,e],q⟩
def Zok{env:dJ}{x:ak}:∀{names:List (ak×NameKind)},names.lookup x=O .free ->
  (names.map λ(n,k)=>if(k==NameKind.free&&env.scope.kind== .function&&env.kindOf n==O .cell)then(n,NameKind.cell)else(n,k)).lookup x=O .free\/
  (names.map λ(n,k)=>if(k==NameKind.free&&env.scope.kind== .function&&env.kindOf n==O .cell)then(n,NameKind.cell)else(n,k)).lookup x=O .cell:=by
 intro names
 induction names with
 |nil=>intro h;simp at h|cons y r ih=>
  intro h;let⟨n,k1⟩:=y;rw[Y2];cases hx:x==n with
  |true=>
   simp only[lY,hx]at h;cases h;by_cases hc:(NameKind.free==NameKind.free&&env.scope.kind== .function&&env.kindOf n==O .cell)=true
   .simp only[f_ hc,lY,hx];exact .inr trivial
   .simp only[i6 hc,lY,hx];exact .inl trivial
  |false=>
   simp only[lY,hx]at h;by_cases hc:(k1==NameKind.free&&env.scope.kind== .function&&env.kindOf n==O .cell)=true
   .simp only[f_ hc,lY,hx];exact ih h
   .simp only[i6 hc,lY,hx];exact ih h
section
variable {X:Cx} {c6:oy} {σ:St} {H:Hp} {s:Yi} {scope:Scope} {N':oB} {own:Nat} {fp:l6}
def X2(I:c9 X c6 σ H s)(hk:scope.kind= .function)(u4:∀y∈scope.names,y.2≠ .cell)(tJ:∀y∈scope.names,y.2= .free->X.env.kindOf y.1=O .cell\/X.env.kindOf y.1=O .free)(hN:b9 N'=b9 X.N+own)(hv:ZD X.N N' scope=true)(rX:∀b∈fp,iK X c6 H b)(n9:∀b∈fp,b<d4 s){h1:aF}{tk:Nat}(yi:h1.Ns (d4 s) λ_=>Yj)(keep:∀b o,s.heap.get? b=O o->h1.get? b=O o):
  c9 (mJ X scope N' (d4 s) (jc X.env.cells scope.names []) s H fp) [] (σ++Yg own Yj) H {s with heap:=h1,toks:=tk}:=by
 have xp:∀y∈scope.names,y.2= .free->∃c,X.env.cells.lookup y.1=O c:=λy hy e=>I.ok.has y.1<|tJ y hy e;have sub:∀x c,(jc X.env.cells scope.names []).lookup x=O c->X.env.cells.lookup x=O c:=λx c h=>by
  rcases ZsY scope.names [] xp h with q|q
  .simp at q
  .exact q
 have cellK:∀{c:Ys} {v:oo},s.heap.IsCell c v->h1.IsCell c v:=λ⟨o,ho,hd⟩=>⟨o,keep _ o ho,hd⟩;refine⟨⟨I.ok.mod,hk,I.ok.glob,I.ok.blt,Yn _,λx y c h1 h2=>I.ok.inj x y c (sub x c h1)<|sub y c h2,λx hx=>?_,λx c h=>?_,I.ok.hd,I.ok.frames,.inl aaD,λb hb=>⟨eE<|n9 b hb,λx c h=>(rX b hb).2.2.2.2.1 x c<|sub x c h⟩,
   I.bs,Yx I.ok.pI I.sz,λb o e hb=>?_,λb hb hz=>?_,I.stack,I.UJ⟩,rfl,I.bare,Un.kept keep,⟨_,yi,λi x v h1 h2 h3=>?_⟩,λx c h=>?_,I.kb.fresh<|Yn _,λx c h=>I.mR x c<|sub x c h,
  λp hp=>oz (show p∈([]:oy)from hp) j0,I.kb.kept keep,?_⟩
 .have sD:(xO scope X.env).names.lookup x=O .cell\/(xO scope X.env).names.lookup x=O .free:=hx;have:scope.names.lookup x=O .free:=by
   rcases sD with sD|sD
   .let⟨k0,e,q⟩:=ZG (names:=scope.names) sD;rcases q with q|⟨q,_⟩
    .subst q;exact oz aaD<|u4 _<|vo e
    .rw[e,q]
   .let⟨k0,e,q⟩:=ZG (names:=scope.names) sD;rcases q with q|⟨_,q⟩
    .rw[e,q]
    .cases q
  exact Vg.mp<|X0 scope.names []<|vo this
 .cases h
 .let⟨_,_,_,q,_⟩:=rX b hb;rcases q with q|q
  .exact I.ok.zN b o e q
  .exact oz (Yy (Yw e)<|Yx I.ok.pI q)<|pG _
 .have AQ:b∈ti X.stack:=hz;let⟨_,q1,q2,_⟩:=rX b hb;rcases Yt.mp (I.xq b AQ)with e|e
  .exact q1 e
  .exact q2 e
 .have hi:i<b9 σ:=by
   by_cases hi:i<σ.length
   .exact hi
   .rw[xR<|tY hi,OJ]at h2;split at h2<;>cases h2
  rw[Y4 hi]at h2;have hiN:i<b9 X.N:=by rwa[<-I.len]
  have hN':N'[i]?=O x:=h1;have vq:=nY.mp hv i<|I_.mpr hiN;rw[hN']at vq;have h3':(xO scope X.env).names.lookup x=O .local\/(xO scope X.env).names.lookup x=O .cell\/(xO scope X.env).names.lookup x=O .free:=h3;have some_of:∃k0,scope.names.lookup x=O k0:=by rcases h3' with q|q|q<;>(let⟨k0,e,_⟩:=ZG (names:=scope.names) q;exact⟨k0,e⟩)
  let⟨k0,ek⟩:=some_of;simp only[ek,Option.isNone_some,O9,j5,decide_eq_true_eq]at vq;let⟨vq1,vq2⟩:=vq;cases vq2;have va:=tJ (x,.free) (vo ek) aaD;let⟨m,hn,hl⟩:=I.loc;have Afq:Qc X.env.scope x:=by
   rcases va with q|q
   .exact .inr<|.inl q
   .exact .inr<|.inr q
  let⟨u,ru,lk⟩:=hl i x v vq1 h2 Afq;refine⟨u,ru,?_⟩;rcases lk with⟨kl,_⟩|⟨_,c,ec,ic⟩
  .rcases va with q|q<;>(rw[q]at kl;cases kl)
  .have hkk:(xM scope (jc X.env.cells scope.names []) (d4 s) X.env).kindOf x=O .cell\/(xM scope (jc X.env.cells scope.names []) (d4 s) X.env).kindOf x=O .free:=by
    rcases Zok (env:=X.env) ek with q|q
    .exact .inr q
    .exact .inl q
   let⟨c',X9⟩:=Vg.mp<|X0 (cells:=X.env.cells) scope.names []<|vo ek;have e2:=sub x c' X9;rw[ec]at e2;cases e2;exact .inr ⟨hkk,c,X9,cellK ic⟩
 .let⟨v,ic⟩:=I.cell x c<|sub x c h;exact⟨v,cellK ic⟩
 .show(σ++Yg own Yj).length=b9 N';rw[Ye,vI,I.len,hN]
def b_.grow{H:Hp}{σ:St}(E:b_ K H ι env σ)(n:Nat):b_ K H ι (env++Yg n Yj) (σ++Yg n Yj):=by
 refine⟨by simp[E.1],λi d h=>?_⟩;by_cases hi:i<env.length
 .rw[Y4 hi]at h;let⟨v,e,r⟩:=E.2 i d h;exact⟨v,by rwa[Y4 (by rw[<-E.1];exact hi)],r⟩
 .rw[xR<|tY hi,OJ]at h;split at h<;>cases h
end
section
structure Cb where
 Y:Cx
 fp:l6
 tn:Nat->aF->Prop
 aO:iD
 H2:Hp
 ι2:l6
 Q:VK
 g:G3
 ts:List E3
 f:E3
 nM:Nat
 acc:Ys
inductive ZJ(P:Cb)(n:Nat)(s':Yi):Prop
 | mk (k:Nat) (σ5:St) (H5:Hp) (ι5:l6) (M5:c5) (zP:Zz) (I5:c9 P.Y [] σ5 H5 s') (jC:P.tn k s'.heap) (lD:∀b∈P.fp,H5 b=Yj) (hn:b9 P.aO.items-k=n) (hk:k<=b9 P.aO.items)
   (x5:k7 P.Y.K P.H2 P.ι2 H5 ι5) (S5:aC P.Y.K H5 ι5 M5) (E5:b_ P.Y.K H5 ι5 zP σ5) (hι:ι5[P.nM]?=O P.acc) (h5:aA P.Y.K H5 ι5 P.Q (eG P.aO P.g P.ts P.f P.nM (P.aO.items.drop k) zP M5))
def Rh(P:Cb)(n:Nat)(s':Yi):Prop:=∃m,m<n/\ZJ P m s'
section
local instance (priority:=100000) Ahh (p:Prop):Decidable p:=U1 p
def Ri(P:Cb)(k:Nat)(env:Zz)(e:D)(M2:c5):R3 D:=match M2[P.nM]? with
 |some (.L x)=>if x.length<SZ then eG P.aO P.g P.ts P.f P.nM (P.aO.items.drop<|k+1) env (M2.set P.nM<|.L<|x++[e])else .bad|_=>.bad
def ZK(P:Cb)(k:Nat)(env:Zz)(b:Bool)(M1:c5):R3 D:=if b then(P.f env M1).bind (Ri P k env)else eG P.aO P.g P.ts P.f P.nM (P.aO.items.drop<|k+1) env M1
end
def DO(P:Cb)(n:Nat)(xv:Yf)(s:Yi):Prop:=Y5 (aq P.Y.prog P.Y.w) P.Y.A (call (.builtin "list.append") [.ref P.acc,xv]) (λ_ s'=>Rh P n s') P.Y.xe s
def Ya(P:Cb)(elt:Expr)(n:Nat)(ok:Bool)(s:Yi):Prop:=if ok=true then Y5 (aq P.Y.prog P.Y.w) P.Y.A (aU elt P.Y.env) (DO P n) P.Y.xe s else Rh P n s
def E6(P:Cb)(elt:Expr)(ifs:pw)(n:Nat)(s:Yi):Prop:=Y5 (aq P.Y.prog P.Y.w) P.Y.A (forIn ifs true λc r=>if r=true then do let ok ←isTrue c P.Y.env (aU c P.Y.env);pure (ForInStep.yield ok)else pure (ForInStep.yield r)) (Ya P elt n) P.Y.xe s
def YA(P:Cb)(tg elt:Expr)(ifs:pw)(n:Nat)(u:Yf)(s:Yi):Prop:=Y5 (aq P.Y.prog P.Y.w) P.Y.A (nU tg P.Y.env u) (λ_=>E6 P elt ifs n) P.Y.xe s
def E7(P:Cb)(tg elt:Expr)(ifs:pw)(it:Ys)(n:Nat)(F:Yi->Prop)(r:oo)(s:Yi):Prop:=match r with
 |none=>F s|some v=>Y5 (aq P.Y.prog P.Y.w) P.Y.A (zV tg (.ref it) v) (λ_=>YA P tg elt ifs n v) P.Y.xe s
variable {P:Cb} {tg elt:Expr} {ifs:pw} {J:It} {it:Ys} {k:Nat} {h7:aF} {σ:St} {H H':Hp} {s:Yi} {ι:l6} {M M1:c5} {env:Zz}
def YE(T:Turn P.Y.prog P.Y.w P.Y.K tg J P.fp it P.tn)(jw:P.tn (k+1) h7)(n9:k<b9 P.aO.items)(I':c9 P.Y ([]++rO P.fp h7) σ H s)(x:k7 P.Y.K P.H2 P.ι2 H ι)(S:aC P.Y.K H ι M)(E:b_ P.Y.K H ι env σ)(hι:ι[P.nM]?=O P.acc)(h:aA P.Y.K H ι P.Q (eG P.aO P.g P.ts P.f P.nM (P.aO.items.drop<|k+1) env M)):Rh P (b9 P.aO.items-k) s:=⟨b9 P.aO.items-(k+1),c8,⟨k+1,σ,H,ι,M,env,I'.Dn,T.keep _ _ _ jw λb hb o e=>(I'.pin (b,o)<|lV _<|lV _<|Et hb e).1,λb hb=>(T.obj _ _ jw b hb).elim λo e=>(I'.pin (b,o)<|lV _<|lV _<|Et hb e.1).2.1,rfl,n9,x,S,E,hι,h⟩⟩
def Afr:ZK P k env true M=(P.f env M).bind (Ri P k env):=f_ aaD
def Afs:ZK P k env false M=eG P.aO P.g P.ts P.f P.nM (P.aO.items.drop<|k+1) env M:=i6 aaE
def aA.iff{H:Hp}{ι:l6}{Q:VK}{c:Prop}{dc:Decidable c}{r:R3 D}(h:aA K H ι Q (if c then r else .bad)):c/\aA K H ι Q r:=by
 by_cases hc:c
 .rw[f_ hc]at h;exact⟨hc,h⟩
 .rw[i6 hc]at h;cases h
def ZzM{v:V}{xv:Yf}(T:Turn P.Y.prog P.Y.w P.Y.K tg J P.fp it P.tn)(jw:P.tn (k+1) h7)(n9:k<b9 P.aO.items)(I':c9 P.Y ([]++rO P.fp h7) σ H s)(r:i5 v xv)(x:k7 P.Y.K P.H2 P.ι2 H ι)(S:aC P.Y.K H ι M)(E:b_ P.Y.K H ι env σ)(rd:i0 P.Y.K H ι d v)(hι:ι[P.nM]?=O P.acc)(hm:M[P.nM]?=O (.L xs))(hz:b9 xs<SZ)(h:aA P.Y.K H ι P.Q (eG P.aO P.g P.ts P.f P.nM (P.aO.items.drop<|k+1) env<|M.set P.nM<|.L<|xs++[d])):
  DO P (b9 P.aO.items-k) xv s:=by
 let⟨vs,ev,vT⟩:=S.obj _ _ _ hm hι;let⟨yY,ZL⟩:=S.zO (.inr<|.inl ⟨_,ev⟩) hι<|vT.append<|aB.cons rd aB.nil;refine aV (Q':=λ_ s'=>Rh P (b9 P.aO.items-k) s') (Xk _ s σ H (.ref P.acc) [v] (.ref P.acc) [xv] (λ_ H'=>H'=k4 H P.acc (.L<|vs++[v])) I' aaD (.cons r .nil) ⟨_,vs,v,rfl,rfl,ev,by rw[vT.length];exact Yy hz kY,rfl⟩) λ_ s11 ao=>?_;let⟨_,H11,J9,_,eH⟩:=ao;rw[eH]at J9;exact YE T jw n9 J9 (x.trans yY) ZL (E.mono yY) (yY.pre _ _ hι)<|h.up yY
def Aft(T:Turn P.Y.prog P.Y.w P.Y.K tg J P.fp it P.tn)(sL:C3 P.Y elt P.f)(jw:P.tn (k+1) h7)(n9:k<b9 P.aO.items)(I':c9 P.Y ([]++rO P.fp h7) σ H s)(x:k7 P.Y.K P.H2 P.ι2 H ι)(S:aC P.Y.K H ι M)(E:b_ P.Y.K H ι env σ)(hι:ι[P.nM]?=O P.acc)(h:aA P.Y.K H ι P.Q ((P.f env M).bind<|Ri P k env)):
  Y5 (aq P.Y.prog P.Y.w) P.Y.A (aU elt P.Y.env) (DO P<|b9 P.aO.items-k) P.Y.xe s:=by
 let⟨d,Bt,AR,sh⟩:=aA.bind h;refine aV (Q':=DO P<|b9 P.aO.items-k) (sL _ s σ H (λv H'=>∃wz,k7 P.Y.K H ι H' wz/\aC P.Y.K H' wz Bt/\i0 P.Y.K H' wz d v) I' ⟨ι,M,env,S,E,by rw[AR];exactλv H' ι' x' S' r'=>⟨ι',x',S',r'⟩⟩) λxv YI ao=>?_;let⟨v,H10,ZM,E9,wz,y3,ZP,rd⟩:=ao;unfold Ri at sh;cases hm:Bt[P.nM]? with
 |none=>rw[hm]at sh;exact sh.elim|some o=>
  rw[hm]at sh;cases o with
  |j3 _=>exact sh.elim|dW _=>exact sh.elim|ins _ _=>exact sh.elim|L xs=>exact ZzM T jw n9 ZM E9 (x.trans y3) ZP (E.mono y3) rd (y3.pre _ _ hι) hm (aA.iff sh).1<|(aA.iff sh).2.up y3
def Zzv(T:Turn P.Y.prog P.Y.w P.Y.K tg J P.fp it P.tn)(DS:wu P.Y ifs P.ts)(sL:C3 P.Y elt P.f)(jw:P.tn (k+1) h7)(n9:k<b9 P.aO.items)(I':c9 P.Y ([]++rO P.fp h7) σ H s)(x:k7 P.Y.K P.H2 P.ι2 H ι)(S:aC P.Y.K H ι M)(E:b_ P.Y.K H ι env σ)(hι:ι[P.nM]?=O P.acc)(h:aA P.Y.K H ι P.Q ((v4 P.ts env M).bind<|ZK P k env)):
  E6 P elt ifs (b9 P.aO.items-k) s:=by
 let⟨b,M9,e9,h9⟩:=aA.bind h;refine aV (Q':=Ya P elt<|b9 P.aO.items-k) (DS _ s σ H (λb' H'=>b'=b/\∃ι9,k7 P.Y.K H ι H' ι9/\aC P.Y.K H' ι9 M9) I' ⟨ι,M,env,S,E,by rw[e9];exactλH' ι' x' S'=>⟨rfl,ι',x',S'⟩⟩) λb' M2' ao=>?_;let⟨nd',I9,eb,ι9,x9,S9⟩:=ao;rw[<-eb]at h9;cases b' with
 |false=>exact YE T jw n9 I9 (x.trans x9) S9 (E.mono x9) (x9.pre _ _ hι) (aA.up x9<|Afs▸h9)|true=>exact Aft T sL jw n9 I9 (x.trans x9) S9 (E.mono x9) (x9.pre _ _ hι)<|aA.up x9<|Afr▸h9
def Afu(T:Turn P.Y.prog P.Y.w P.Y.K tg J P.fp it P.tn)(hc:P.Y.calm=true)(rX:∀{H':Hp},(∀b∈P.fp,H' b=Yj)->∀b∈P.fp,iK P.Y [] H' b)(hg:CG P.Y tg P.g)(DS:wu P.Y ifs P.ts)(sL:C3 P.Y elt P.f)(n9:k<b9 P.aO.items)(I5:c9 P.Y [] σ H s)(jC:P.tn k s.heap)(lD:∀b∈P.fp,H b=Yj)(x:k7 P.Y.K P.H2 P.ι2 H ι)(S:aC P.Y.K H ι M)(E:b_ P.Y.K H ι env σ)(hι:ι[P.nM]?=O P.acc)(ok:mF P.Y.K P.H2 P.ι2 P.aO J)(h:aA P.Y.K H ι P.Q (eG P.aO P.g P.ts P.f P.nM (P.aO.items[k]::P.aO.items.drop (k+1)) env M))(F:Yi->Prop):
  Y5 (aq P.Y.prog P.Y.w) P.Y.A (ji<|.ref it) (E7 P tg elt ifs it (b9 P.aO.items-k) F) P.Y.xe s:=by
 let⟨lk,h⟩:=aA.iff h;let⟨go,yl⟩:=(ok k H ι M x S lk).1 _<|Y0 n9;cases eg:P.g P.aO.items[k] env with
 |none=>rw[eg]at h;cases h|some Du=>rw[eg]at h;refine aV (T.item P.Y aaD aaD aaD hc k [] s σ H P.Y.xe I5 (rX lD) jC go) λr s6 ao=>?_;let⟨u,hr,h6⟩:=ao;rw[hr];refine aV (Q':=λ_=>YA P tg elt ifs (b9 P.aO.items-k) u) h6 λ_ s7 ao=>?_;let⟨y,H7,I7,r7,y7,jw,J_⟩:=ao;let⟨e7,rx⟩:=yl y H7 y7;rw[e7]at I7 J_;refine aV (Q':=λ_=>E6 P elt ifs<|b9 P.aO.items-k) (hg _ s7 σ H y u (λσ' H'=>H'=H/\b_ P.Y.K H ι Du σ') (I7.pinned (rX J_)<|T.obj _ _ jw) r7 ⟨ι,M,env,_,Du,S,E,rx,eg,λσ' E'=>⟨rfl,E'⟩⟩) λ_ s8 ao=>?_;let⟨Znq,Zsq,I8,e8,E8⟩:=ao;rw[e8]at I8;exact Zzv T DS sL jw n9 I8 x S E8 hι h
def Zx7(T:Turn P.Y.prog P.Y.w P.Y.K tg J P.fp it P.tn)(hc:P.Y.calm=true)(rX:∀{H':Hp},(∀b∈P.fp,H' b=Yj)->∀b∈P.fp,iK P.Y [] H' b)(I5:c9 P.Y [] σ H s)(jC:P.tn (b9 P.aO.items) s.heap)(lD:∀b∈P.fp,H b=Yj)(x:k7 P.Y.K P.H2 P.ι2 H ι)(S:aC P.Y.K H ι M)(hι:ι[P.nM]?=O P.acc)(ok:mF P.Y.K P.H2 P.ι2 P.aO J)(h:aA P.Y.K H ι P.Q (eG P.aO P.g P.ts P.f P.nM [] env M)){F:Yi->Prop}(hF:∀s6,c9 P.Y [] σ H s6->P.Q (.ref P.acc) H->F s6):
  Y5 (aq P.Y.prog P.Y.w) P.Y.A (ji<|.ref it) (E7 P tg elt ifs it n F) P.Y.xe s:=by
 let⟨lk,h⟩:=aA.iff h;refine aV (T.done P.Y aaD aaD aaD hc _ [] s σ H P.Y.xe I5 (rX lD) jC<|(ok _ H ι M x S lk).2 aaD) λr s6 ao=>?_;rw[ao.1];exact hF s6 ao.2<|h _ H ι k7.refl S<|i0.ref hι
end
variable{s:Yi}{E:Yf->Yi->Prop}{fp:l6}{c6:oy}
section
variable {X:Cx} {elt tg iter:Expr} {ifs:pw} {scope:Scope} {pos:aZ} {i:I3} {own:Nat} {g:G3} {ts:List E3} {f:E3} {N':oB}
structure Bu(X:Cx)(scope:Scope)(N':oB)(own:Nat):Prop where
 kind:scope.kind= .function
 cell:∀y∈scope.names,y.2≠ .cell
 free:∀y∈scope.names,y.2= .free->X.env.kindOf y.1=O .cell\/X.env.kindOf y.1=O .free
 names:∀y∈scope.names,y.2= .local->scope.names.lookup y.1=O .local
 len:b9 N'=b9 X.N+own
 YN:ZD X.N N' scope=true
def ZxF{P:Cb}{J:It}{it:Ys}{F:Yi->Prop}(T:Turn P.Y.prog P.Y.w P.Y.K tg J P.fp it P.tn)(hc:P.Y.calm=true)(rX:∀{H':Hp},(∀b∈P.fp,H' b=Yj)->∀b∈P.fp,iK P.Y [] H' b)(hb:CG P.Y tg P.g/\wu P.Y ifs P.ts/\C3 P.Y elt P.f)(ok:mF P.Y.K P.H2 P.ι2 P.aO J)(z:ZJ P n s)(pV:∀σ H s',c9 P.Y [] σ H s'->P.Q (.ref P.acc) H->F s'):Y5 (aq P.Y.prog P.Y.w) P.Y.A (ji<|.ref it) (E7 P tg elt ifs it n F) P.Y.xe s:=by
 let⟨k,σ5,H5,ι5,M5,zP,I5,jC,lD,hn,hk,x5,S5,E5,hι,h5⟩:=z;by_cases n9:k<P.aO.items.length
 .rw[z_ n9]at h5;exact hn▸Afu T hc rX hb.1 hb.2.1 hb.2.2 n9 I5 jC lD x5 S5 E5 hι ok h5 _
 .rw[iJ hk<|tY n9]at jC h5;rw[IV]at h5;exact Zx7 T hc rX I5 jC lD x5 S5 hι ok h5 λs6 I6 q=>pV σ5 H5 s6 I6 q
def ZpR{s3:Yi}{H2 H3:Hp}{ι2 ι3:l6}{M3:c5}{nM:Nat}{D:Ys}{it:Ys}{tn:Nat->aF->Prop}{J:It}{aO:iD}{Q:VK}(pj:Bu X scope N' own)(hc:X.calm=true)(hb:∀C cl s H ex,CG (mJ X scope N' C cl s H ex) tg g/\wu (mJ X scope N' C cl s H ex) ifs ts/\C3 (mJ X scope N' C cl s H ex) elt f)(T:Turn X.prog X.w X.K tg J fp it tn)(st3:tn 0 s3.heap)(xG:∀b∈fp,b<d4 s3)(I3:c9 X c6 σ H3 s3)(jg:∀b∈fp,iK X c6 H3 b)(x3:k7 X.K H2 ι2 H3 ι3)(S3:aC X.K H3 ι3 M3)(E2:b_ X.K H3 ι3 env σ)(ok:mF X.K H2 ι2 aO J)(h:aA X.K H3 ι3 Q (eG aO g ts f nM aO.items (env++Yg own Yj) M3))(hι:ι3[nM]?=O D)(RR:Yf->Ys->vC->Yi->Prop)(pV:∀(acc C:Ys) (s':Yi) (m:ak->oo) (H':Hp),s'.heap.Ns C m->iK X c6 H' C->c9 X c6 σ H' s'->Q (.ref acc) H'->RR (.ref acc) C (.ok .next) s'):
  Y5 (aq X.prog X.w) X.A (Vx scope X.env.globals (jc X.env.cells scope.names []) [] X.env.qual Yj .none<|O X.env) (λtP s₄=>mV (aq X.prog X.w) X.A (.compStart (.ListComp elt [⟨tg,iter,ifs,0⟩] scope pos) 0 (.ref it) (.ref D) {tP with scope:=xO scope X.env}) (RR (.ref D) tP.locals) s₄) E s3:=by
 refine L8 pj.cell (by intro y hy;cases hy) (λh4 yi Fc=>?_) pj.kind;have HJ:∀b o,s3.heap.get? b=O o->h4.get? b=O o:=λb o e=>Fc.extBut b o (eE<|Yw e)<|Yl _ e;have I4:=X2 (own:=own) (N':=N') (tk:=s3.toks+([]:yz).length) I3 pj.kind pj.cell pj.free pj.len pj.YN jg xG yi HJ;have Ka:tn 0 h4:=T.keep _ _ _ st3 λb hb o e=>HJ b o e;have L:=Zot (prog:=X.prog) (w:=X.w) (A:=X.A) (R:=RR (.ref D)<|d4 s3) (scope:=scope) (pos:=pos) (iter:=iter) (elt:=elt) (target:=tg) (ifs:=ifs) (env:=xM scope (jc X.env.cells scope.names []) (d4 s3) X.env) (ZJ ⟨mJ X scope N' (d4 s3) (jc X.env.cells scope.names []) s3 H3 fp,fp,tn,aO,H2,ι2,Q,g,ts,f,nM,D⟩) (λn s5 z=>ZxF (P:=⟨mJ X scope N' (d4 s3) (jc X.env.cells scope.names []) s3 H3 fp,fp,tn,aO,H2,ι2,Q,g,ts,f,nM,D⟩) T hc
  (λhn b hb=>⟨hn b hb,eE<|xG b hb,λhz=>I4.ok.xu b hb hz,.inl hb,λx c hx=>(I4.ok.Er b hb).2 x c hx,λp hp=>oz (show p∈([]:oy)from hp) j0⟩)
  (hb _ _ _ _ _) ok z
  λσ' H' s6 I6 q=>I6.loc.elim λm6 Kc=>pV _ _ s6 m6 H' Kc.1 (I3.xx (Yn _) I6.free) (I3.uC (ch:=fp) I6.os I6.base I6.kb I6.bare λb hb=>⟨(jg b hb).2.2.2.1,(jg b hb).2.1,(jg b hb).2.2.2.2.1,(jg b hb).2.2.2.2.2⟩) q) _
  ⟨0,_,_,_,_,_,I4,Ka,λb hb=>(jg b hb).1,rfl,dY _,x3,S3,E2.grow own,hι,h⟩
 exact L5 L<|T.self _ 0 _ _ _ Ka L
def YO{s2:Yi}{H2:Hp}{ι2:l6}{M2:c5}{it:Ys}{tn:Nat->aF->Prop}{J:It}{aO:iD}{Q:VK}(pj:Bu X scope N' own)(hc:X.calm=true)(hb:∀C cl s H ex,CG (mJ X scope N' C cl s H ex) tg g/\wu (mJ X scope N' C cl s H ex) ifs ts/\C3 (mJ X scope N' C cl s H ex) elt f)(I2:c9 X c6 σ H2 s2)(T:Turn X.prog X.w X.K tg J fp it tn)(AS:tn 0 s2.heap)(rX:∀b∈fp,iK X c6 H2 b)(S2:aC X.K H2 ι2 M2)(E2:b_ X.K H2 ι2 env σ)(ok:mF X.K H2 ι2 aO J)(h:aA X.K H2 ι2 Q (eG aO g ts f (b9 M2) aO.items (env++Yg own Yj)<|M2++[.L []]))(RR:Yf->Ys->vC->Yi->Prop)(pV:∀(acc C:Ys) (s':Yi) (m:ak->oo) (H':Hp),s'.heap.Ns C m->iK X c6 H' C->c9 X c6 σ H' s'->Q (.ref acc) H'->RR (.ref acc) C (.ok .next) s'):
  Y5 (aq X.prog X.w) X.A (Oz []) (λacc s₃=>Y5 (aq X.prog X.w) X.A (Vx scope X.env.globals (jc X.env.cells scope.names []) [] X.env.qual Yj .none<|O X.env) (λtP s₄=>mV (aq X.prog X.w) X.A (.compStart (.ListComp elt [⟨tg,iter,ifs,0⟩] scope pos) 0 (.ref it) acc {tP with scope:=xO scope X.env}) (RR acc tP.locals) s₄) E s₃) E s2:=by
 refine vp ?_;have hD:H2 (d4 s2)=Yj:=I2.kb.fresh<|Yn _;let⟨x3,S3,r3⟩:=S2.L hD<|aB.nil (K:=X.K) (H:=H2) (ι:=ι2);have I3:c9 X c6 σ (k4 H2 (d4 s2)<|.L []) {s2 with heap:=s2.heap.push {cls:=.type "list",data:=.seq ([]:l5).toArray}}:=I2.laid (t':=s2.toks) (λb u e=>Yl _ e) (Yn _) ⟨dY _,[],0,.nil,Y6 _ aaD⟩;have u9:∀b o,s2.heap.get? b=O o->(s2.heap.push {cls:=.type "list",data:=.seq ([]:l5).toArray}).get? b=O o:=λb o e=>Yl _ e;generalize si:({s2 with heap:=s2.heap.push {cls:=.type "list",data:=.seq ([]:l5).toArray}}:Yi)=s3 at I3 |-;have u9:∀b o,s2.heap.get? b=O o->s3.heap.get? b=O o:=by rwa[<-si]
 have ZQ:∀b∈fp,b<d4 s2:=λb hb=>(T.obj _ _ AS b hb).elim λo e=>Yw e.1;have xG:∀b∈fp,b<d4 s3:=λb hb=>(T.obj _ _ AS b hb).elim λo e=>Yw<|u9 b o e.1;exact ZpR pj hc hb (T:=T) (st3:=T.keep _ _ _ AS λb hb o e=>u9 b o e) (xG:=xG) (I3:=I3) (jg:=λb hb=>⟨(eF<|eE<|ZQ b hb).trans (rX b hb).1,(rX b hb).2⟩) (x3:=x3) (S3:=S3) (E2:=E2.mono x3) (ok:=ok) (h:=h.up x3) (hι:=by rw[<-S2.len];simp) RR pV
def YR(pj:Bu X scope N' own)(Br:X.xe=λ_ _=>False)(hc:X.calm=true)(hi:CI X tg iter i)(hb:∀C cl s H ex,CG (mJ X scope N' C cl s H ex) tg g/\wu (mJ X scope N' C cl s H ex) ifs ts/\C3 (mJ X scope N' C cl s H ex) elt f)(hs:∀x,zT iter X.env x=pure x:=by intro _;rfl):C3 X (.ListComp elt [⟨tg,iter,ifs,0⟩] scope pos) (lG i own g ts f):=by intro c6 s σ H Q I h;let⟨ι,M,env,S,E,h⟩:=h;let⟨aO,M1,e1,h⟩:=aA.bind h;have xp:∀y∈scope.names,y.2= .free->∃c,X.env.cells.lookup y.1=O c:=λy hy e=>I.ok.has y.1<|pj.free y hy e;rw[eval_ListComp];refine Vo (use:=Yj) aaD hs (ZC xp) pj.kind pj.names ?_;refine aV (hi c6 s σ H (λJ H'=>∃ι',k7 X.K H ι H' ι'/\aC X.K H' ι' M1/\mF X.K H' ι' aO J) I ⟨ι,M,env,S,E,by rw[e1];exactλJ H' ι' x S' o=>⟨ι',x,S',o⟩⟩) λv s1 h1=>aV h1 λBI s2 h2=>?_;let⟨it,fp,tn,J,H2,rfl,I2,T,AH,f2,ι2,x2,S2,ok⟩:=h2;refine YO (own:=own) (g:=g) (ts:=ts) (f:=f) pj hc hb I2 T AH f2 S2 (E.mono x2) ok (h.up x2) (λacc C=>vB (aq X.prog X.w) X.A X.xe Yj (EP X c6 σ Q) acc C) ?_;intro acc C s' m H' hn hf I' hq;let⟨f0,f1,YU,f3,f4,f5⟩:=hf;exact⟨m,hn,λh' sb=>⟨.ref acc,H',I'.turned (t':=s'.toks) (λb o hb e=>(sb.2 b hb).trans e) f0 f1 f3 f4 f5,rfl,hq⟩⟩
def Rj(j:Nat){x:ak}{ow xw:aZ}(pj:Bu X scope N' own)(Br:X.xe=λ_ _=>False)(hc:X.calm=true)(hN:X.N.Nodup)(hi:CI X tg iter i)(hb:∀C cl s H ex,CG (mJ X scope N' C cl s H ex) tg g/\wu (mJ X scope N' C cl s H ex) ifs ts/\C3 (mJ X scope N' C cl s H ex) elt f)(hj:X.N[j]?=O x:=by rfl)(hx:Loc X.env.scope x:=by first|exact Or.inl rfl|exact Or.inr aaD)(hf:X.fn x=true\/X.env.scope.names.lookup x=O .local:=by first|exact .inl rfl|exact .inr aaD)(BY:pC (.ListComp elt [⟨tg,iter,ifs,0⟩] scope pos) (O (.Name x ow)) xw.line X.env=pure true:=by rfl)(hs:∀x,zT iter X.env x=pure x:=by intro _;rfl):CS X (.Assign [.Name x ow] (.ListComp elt [⟨tg,iter,ifs,0⟩] scope pos) xw) (aD j (lG i own g ts f)):=by
 intro c6 s σ H D I h;let⟨ι,M,env,S,E,h⟩:=h;have h0:aA X.K H ι (λv H'=>D.nx (σ.set j<|O v) H') (lG i own g ts f env M):=by
  unfold aD at h;cases q:lG i own g ts f env M with
  |ok d M1=>rw[q]at h;exactλv H1 ι1 x1 S1 r1=>h _ H1 ι1 x1 S1 ((E.mono x1).set j r1)|exc _ _=>rw[q]at h;cases h|bad=>rw[q]at h;cases h
 let⟨aO,M1,e1,h1⟩:=aA.bind h0;have xp:∀y∈scope.names,y.2= .free->∃c,X.env.cells.lookup y.1=O c:=λy hy e=>I.ok.has y.1<|pj.free y hy e;rw[L6 _ _ _ _ BY];refine Yc<|Oi<|Yc ?_;show Y5 _ X.A (do let _ ←comprehension (.ListComp elt [⟨tg,iter,ifs,0⟩] scope pos) scope X.env _ (Oz []) false (aU iter X.env) (O<|nU (.Name x ow) X.env)) _ _ s;refine Yc<|gq (Vo (use:=O<|nU (.Name x ow) X.env) (Q:=λ_ s'=>SP X c6 D .next s') aaD hs (ZC xp) pj.kind pj.names ?_) (λ_ s' hq=>Yo<|Yo hq) λ_ _ e=>e;refine aV (hi c6 s σ H (λJ H'=>∃ι',k7 X.K H ι H' ι'/\aC X.K H' ι' M1/\mF X.K H' ι' aO J) I ⟨ι,M,env,S,E,by rw[e1];exactλJ H' ι' x S' o=>⟨ι',x,S',o⟩⟩) λv s1 B0=>aV B0 λBI s2 h2=>?_;let⟨it,fp,tn,J,H2,rfl,I2,T,AH,f2,ι2,x2,S2,ok⟩:=h2;refine YO (own:=own) (g:=g) (ts:=ts) (f:=f) pj hc hb I2 T AH f2 S2 (E.mono x2) ok (h1.up x2) (λacc C=>vB (aq X.prog X.w) X.A X.xe (O<|nU (.Name x ow) X.env) (λ_ s'=>SP X c6 D .next s') acc C) ?_;intro acc C s' m H' hn ZR I' hq;let⟨f0,f1,YU,f3,f4,f5⟩:=ZR;show Y5 _ X.A (nU (.Name x ow) X.env<|.ref acc) _ _ s';refine Vs<|W2 I' hN hj hx (show i5 (.ref acc) (.ref acc)from rfl) (λzI ZV ⟨a,sb,ha⟩=>?_) hf;have ZW:C≠a:=by
  rcases ha with rfl|ha
  .exact f1
  .exact cF<|f4 x a ha
 exact⟨m,hn.sameBut sb ZW,λh' ZX=>⟨_,H',ZV.turned (t':=zI.toks) (λb o hb e=>(ZX.2 b hb).trans e) f0 f1 f3 f4 f5,hq⟩⟩
end
def fu{k:Nat}(r:dN k A):A.units+80<fH:=by have:=r.un;omega
def Its(x:ak):It:=⟨λi _=>i<x.cps.size,λi H y H'=>H'=H/\∃c,x.cps[i]?=O c/\y= .str ⟨#[c]⟩,λi _=>i=x.cps.size⟩
variable{w:aX}
def Zun{P:Y8}{tg:Expr}{it:Ys}{x:ak}{t:jB}{ty:String}(W:∀A':cC,A'.handled=Yj->Walks P w A' it [it] [it] x.cps.size (SignAt x) (λi h=>h.IsStrIter it ty x t i))(hs:∀(A:cC) (i:Nat) (s:Yi) (Q:Yf->Yi->Prop) (E:Yf->Yi->Prop),s.heap.IsStrIter it ty x t i->Q (.ref it) s->Y5 (aq P w) A (DY<|.ref it) Q E s)(xh:DH.contains ty=false):Turn P w K tg (Its x) [it] it (λi h=>h.IsStrIter it ty x t i)where
 mem:=by simp
 obj:=λi h st b hb=>by
  have e:b=it:=by simpa using hb
  subst e;let⟨o,e,c,d⟩:=st;exact⟨o,e,λv z=>by rw[d]at z;cases z⟩
 keep:=λi h h' st k=>let⟨o,e,r⟩:=st;⟨o,k it j0 o e,r⟩
 item:=by intro X hP hw hK hc i c6 s σ H E I hf st hg;subst hP hw hK;let⟨f0,f1,f2,f3,f4,f5⟩:=hf it j0;refine(W X.A<|I.ok.hd hc).item i s _ _ hg st λv h' tk hv vv kk=>?_;let⟨c,u,hx,rfl⟩:=hv;have I1:c9 X c6 σ H {s with heap:=h',toks:=tk}:=I.turned (λb o hb e=>kk b o (by simpa using hb) e) f0 f1 f3 f4 f5;let⟨o,e,cc,d⟩:=id vv;exact⟨_,rfl,Qg (s:={s with heap:=h',toks:=tk}) e cc d xh ⟨.str ⟨#[c]⟩,H,I1,⟨u,rfl⟩,⟨rfl,c,hx,rfl⟩,vv,λb hb=>(hf b hb).1⟩⟩
 done:=by intro X hP hw hK hc i c6 s σ H E I hf st hg;subst hP hw hK;let⟨f0,f1,f2,f3,f4,f5⟩:=hf it j0;have e:i=x.cps.size:=hg;subst e;exact(W X.A<|I.ok.hd hc).done s _ _ st λh' tk kk=>⟨rfl,I.turned (λb o hb e=>kk b o (by simpa using hb) e) f0 f1 f3 f4 f5⟩
 self:=hs
section
variable {X:Cx} {tg e o:Expr} {es:pw} {pos p n5 i9:aZ} {f:E3} {gl:dg}
def Afv(h:C3 X e f):PI X tg e (λσ H R=>pY X.K f σ H λx H1=>∃z:ak,x= .str z/\z.length<=SZ/\∀J,(∀ι,mF X.K H1 ι ⟨z.cps.toList.map λc=>.str [c],Yj⟩ J)->R J H1):=by
 intro c6 s σ H R I hw;refine aV (h c6 s σ H _ I hw) λv s1 ao=>?_;let⟨x,H1,I1,r1,z,ex,hz,q⟩:=ao;subst ex;let⟨t,rfl⟩:=r1;have key:∀(ty:String) (o:aJ),(∀A':cC,A'.handled=Yj->Walks X.prog X.w A' (d4 s1) [d4 s1] [d4 s1] z.cps.size (SignAt z) (λi h=>h.IsStrIter (d4 s1) ty z t i)) ->
   (∀(A:cC) (i:Nat) (s:Yi) (Q:Yf->Yi->Prop) (E:Yf->Yi->Prop),s.heap.IsStrIter (d4 s1) ty z t i->Q (.ref<|d4 s1) s->Y5 (aq X.prog X.w) A (DY<|.ref<|d4 s1) Q E s) ->
   DH.contains ty=false->(s1.heap.push o).IsStrIter (d4 s1) ty z t 0 ->
   EM X c6 σ tg R (.ref<|d4 s1) {s1 with heap:=s1.heap.push o}:=by
  intro ty o W hs xh st;refine⟨d4 s1,[d4 s1],_,_,H1,rfl,I1.kept (t':=s1.toks) λb o e=>Yl _ e,Zun W hs xh,st,λb hb=>?_,q _ λι=>?_⟩
  .have e:b=d4 s1:=by simpa using hb
   subst e;exact I1.xx (Yn _)<|I1.kb.fresh<|Yn _
  .intro i H2 ι2 M2 x S _;refine⟨λd hd=>?_,λhl=>?_⟩
   .rw[lB]at hd;cases hq:z.cps.toList[i]? with
    |none=>rw[hq]at hd;cases hd|some c=>
     rw[hq]at hd;have sR:D.str [c]=d:=by simpa using hd
     subst sR;have hi:i<z.cps.size:=by have:=(Yd.mp hq).1;simpa using this
     refine⟨hi,λy H3 hy=>⟨hy.1,?_⟩⟩;let⟨_,c',r9,rfl⟩:=hy;have:c'=c:=by rw[<-Ww,hq]at r9;exact(Y9 r9).symm
     subst this;exact i0.str
   .show i=z.cps.size;rw[hl];simp
 cases ha:z.cps.all (· <128)
 .exact wpAny_pyIter_wide ha<|key "str_iterator" _ (λA' hA=>Walks.strWide hA _ z t) (λ_ _ _ _ _ st h=>wpAny_pyIter_striter_wide st h) aaE ⟨_,Y6 _ aaD,rfl,rfl⟩
 .exact wpAny_pyIter_ascii ha<|key "str_ascii_iterator" _ (λA' hA=>Walks.strAscii hA _ z t) (λ_ _ _ _ _ st h=>wpAny_pyIter_striter_ascii st h) aaE ⟨_,Y6 _ aaD,rfl,rfl⟩
def pZ(h:C3 X e f):CI X tg e (g_ f):=Afm h<|Afv h
def YV{T:String}{ty:D->c5->Bool}{m:D->h8->c5->R3 D}(xh:∀H ι M a x,aC K H ι M->i0 K H ι a x->ty a M=true->Ew K T x H)(σ:St)(H:Hp)(Q:VK)(h:pY K (bA ty m f gl) σ H Q):S0 K T (rM K m) (pY K f) (X_ K gl) σ H Q:=by
 let⟨ι,M,env,S,E,h⟩:=h;let⟨a,M1,e1,h⟩:=aA.bind h;refine⟨ι,M,env,S,E,?_⟩;rw[e1];intro v H1 ι1 x1 S1 r1;by_cases ht:ty a M1=true
 .rw[f_ ht]at h;let⟨ds,M2,e2,h⟩:=aA.bind h;refine⟨xh _ _ _ _ _ S1 r1 ht,ι1,M1,env,S1,E.mono x1,?_⟩;rw[e2];intro vs H2 ι2 x2 S2 r2;exact⟨ι2,M2,a,ds,S2,r1.mono x2,r2,(h.up x1).up x2⟩
 .rw[i6 ht]at h;cases h
def Rk(H:Hp)(ι:l6)(M:c5)(a:D)(x:V)(S:aC K H ι M)(r:i0 K H ι a x)(h:bO a M=true):Ew K "list" x H:=by
 cases a with
 | ref n=>
  rw[A_]at h;cases hn:M[n]? with
  |none=>rw[hn]at h;exact ft h|some o=>
   cases o with
   |j3 _=>rw[hn]at h;exact ft h|dW _=>rw[hn]at h;exact ft h|ins _ _=>rw[hn]at h;exact ft h|L xs=>let⟨p,hp,rfl⟩:=r.fD;let⟨vs,e,_⟩:=S.obj n _ p hn hp;exact .inl ⟨rfl,vs,dm.of e⟩
 |_=>exact ft h
def _root_.L2.pM.imp{id:String}{r r':V->k6->Hp->VK->Prop}(h:pM X id r)(i:∀x xs H Q,r' x xs H Q->r x xs H Q):pM X id r':=λc6 s σ H x xs v us Q I rx rs q=>h c6 s σ H x xs v us Q I rx rs<|i x xs H Q q
def YY:pM X "list.append" (rM X.K cQ):=pM.imp (r:=To) Xk λx xs H Q ao=>by
 let⟨ι,M,a,ds,S,ra,rd,h⟩:=ao;cases a with
 | ref n=>
  cases ds with
  |nil=>cases h|cons d ds=>
   cases ds with
   |cons _ _=>cases h|nil=>
    simp only[QC]at h;cases hn:M[n]? with
    |none=>simp only[hn]at h;cases h|some o=>
     cases o with
     |j3 _=>simp only[hn]at h;cases h|dW _=>simp only[hn]at h;cases h|ins _ _=>simp only[hn]at h;cases h|L z=>
      simp only[hn]at h;split at h
      .rename_i hz;let⟨p,hp,rfl⟩:=ra.fD;let⟨v,ws,rfl,r1,r2⟩:=rd.cons_inv;have:=r2.nil_inv;subst this;let⟨vs,e,rv⟩:=S.obj n _ p hn hp;let⟨x2,S2⟩:=S.zO (.inr<|.inl ⟨_,e⟩) hp<|rv.append<|aB.cons r1 aB.nil;exact⟨p,vs,v,rfl,rfl,e,by rw[rv.length];exact Yy hz kY,h _ _ _ x2 S2 i0.Z⟩
      .exact h.elim
 |_=>cases h
def jV(ho:C3 X o f)(ha:CA X (e::es) gl)(qk:rE o "append" X.env (aU o X.env)=aU o X.env:=by rfl)(ue:((fZ i9<|Y1 (e::es) X.env).all (λx=>!x.1)&&(z7 i9<|zY [] X.env).all (λx=>x.1.isSome)
   &&decide ((e::es).length+([]:List Keyword).length+(if([]:List Keyword).isEmpty then 0 else 1)<30))=true:=by rfl)(qo:(n5.endLine==i9.line)=true:=by rfl)(hs:Y1 (e::es) X.env=(false,aU e X.env)::Y1 es X.env:=by rfl)(qS:(fZ i9<|Y1 es X.env).any (·.1)=false:=by rfl):
  C3 X (.Call (.Attribute o "append" n5) (e::es) [] i9) (bA bO cQ f gl):=
 (Xi Pj OG OH YY ho ha qk ue qo hs qS).imp (YV Rk)
def Afw:aY X (iB .In) (r2 X.K λa b M=>match a,b with| .str [c],.str y=>.ok (.bl<|decide<|c∈y) M|_,_=>.bad):=aY.imp ZsZ λx y H Q ao=>by
 let⟨ι,M,a,b,S,ra,rb,h⟩:=ao;cases a with
 | str z=>
  cases z with
  |nil=>cases b<;>cases h|cons c z=>
   cases z with
   |cons _ _=>cases b<;>cases h|nil=>
    cases b with
    |str y=>refine⟨_,_,ra.str_inv,rb.str_inv,?_⟩;have e:=QA (⟨pd y⟩:ak) c;rw[show(⟨[c].toArray⟩:ak)=⟨#[c]⟩from rfl,e];exact aA.ok h S i0.bl|_=>cases h
 |_=>cases b<;>cases h
end
variable{items:qB}{Q:Yf->Yi->Prop}
section
variable {X:Cx}
def Kd(hu:X.A.units+80<fH):aY X (iB .NotEq) (r2 X.K nu):=by
 intro c6 s σ H x y v u Q I rx ry h;let⟨ι,M,a,b,S,ra,rb,h⟩:=h;unfold nu at h;cases q:rR a b M with
 |none=>rw[q]at h;cases h|some k=>rw[q]at h;exact(XZ hu I S ra rb rx ry q).2 X.prog X.w X.xe _ ⟨.bl<|!k,H,I,rfl,aA.ok h S i0.bl⟩
def Zl{v:V}(r:i0 K H ι d v)(h:fc d=true):ug v=true:=by
 cases d with
 |Z=>rw[r.lq];rfl|bl b=>rw[r.iU];rfl|int i=>rw[r.int_inv];rfl|str x=>rw[r.str_inv];rfl
 |_=>exact ft h
def Zxh(x y:i4):((⟨pd x⟩:ak)==⟨pd y⟩)=(x==y):=by rw[NX];simp
def Zyb{e:D}{v w:V}(r:i0 K H ι d v)(q:i0 K H ι e w)(h:fc d=true)(h':fc e=true):vX v w=eU d e:=by
 cases d with
 |Z=>rw[r.lq];cases e with
  |Z=>rw[q.lq];rfl|bl _=>rw[q.iU];rfl|int _=>rw[q.int_inv];rfl|str _=>rw[q.str_inv];rfl
  |_=>exact ft h'
 |bl _=>rw[r.iU];cases e with
  |Z=>rw[q.lq];rfl|bl _=>rw[q.iU];rfl|int _=>rw[q.int_inv];rfl|str _=>rw[q.str_inv];rfl
  |_=>exact ft h'
 |int _=>rw[r.int_inv];cases e with
  |Z=>rw[q.lq];rfl|bl _=>rw[q.iU];rfl|int _=>rw[q.int_inv];rfl|str _=>rw[q.str_inv];rfl
  |_=>exact ft h'
 |str _=>rw[r.str_inv];cases e with
  |Z=>rw[q.lq];rfl|bl _=>rw[q.iU];rfl|int _=>rw[q.int_inv];rfl|str _=>rw[q.str_inv];exact Zxh _ _
  |_=>exact ft h'
 |_=>exact ft h
theorem Zp{K:Yb}{H:Hp}{ι:l6}{d:D}{v:V}(r:i0 K H ι d v)(h:fc d=true):∀{ds:h8} {vs:k6},aB K H ι ds vs->ds.all fc=true->vs.all ug=true/\DL v vs=ds.any λy=>eU y d
 |[],_,q,_=>by rw[q.nil_inv];exact⟨rfl,rfl⟩|e::ds,_,q,hd=>by let⟨w,ws,rfl,r1,r2⟩:=q.cons_inv;rw[Ae,j5]at hd;let⟨h1,h2⟩:=Zp r h r2 hd.2;refine⟨by rw[Ae,Zl r1 hd.1,h1];rfl,?_⟩;unfold DL at h2 |-;rw[nZ,nZ,h2,Zyb r1 r hd.1 h]
inductive InK(a b:D)(k:Bool):Prop
 |U (ys:h8):b= .U ys->(ys.any λy=>eU y a)=k->fc a=true->ys.all fc=true->InK a b k
 |str (c:Nat) (y:i4):a= .str [c]->b= .str y->decide (c∈y)=k->InK a b k
def Zs{a b:D}{k:Bool}(h:inD a b=O k):InK a b k:=by
 cases b with
 |U ys=>exact have w:=YX h;.U ys aaD w.1 w.2.1 w.2.2|str y=>
  cases a with
  | str z=>cases z with
   |nil=>exact e_ h|cons c z=>cases z with
    |nil=>exact .str c y aaD aaD (Y9 h)|cons _ _=>exact e_ h
  |_=>exact e_ h
 |_=>exact e_ h
def ZA{Q:VK}{a:D}{ys:h8}{x y:V}(n:Bool)(ra:i0 K H ι a x)(rb:i0 K H ι (.U ys) y)(fa:fc a=true)(fs:ys.all fc=true)(q:Q (.bl<|if n then !(ys.any λy=>eU y a)else ys.any λy=>eU y a) H):Xh K n x y H Q:=by let⟨p,vs,e,s,r⟩:=rb.jf;let⟨h1,h2⟩:=Zp ra fa r fs;exact⟨p,vs,e,.inr s,Zl ra fa,h1,by rwa[h2]⟩
def Afx(hu:X.A.units+80<fH):aY X (iB .In) (r2 X.K Fe):=aY.imp (aY.or Afw ZtJ) λx y H Q ao=>by
 let⟨ι,M,a,b,S,ra,rb,h⟩:=ao;unfold Fe at h;cases q:inD a b with
 |none=>rw[q]at h;cases h|some k=>
  rw[q]at h;rcases Zs q with⟨ys,eb,ek,fa,fs⟩|⟨c,z,ea,eb,ek⟩
  .rw[eb]at rb;rw[<-ek]at h;exact .inr<|ZA false ra rb fa fs<|aA.ok h S i0.bl
  .rw[ea]at ra;rw[eb]at rb;rw[<-ek]at h;exact .inl ⟨ι,M,_,_,S,ra,rb,h⟩
def Zwc:aY X (iB .NotIn) (r2 X.K λa b M=>match a,b with| .str [c],.str y=>.ok (.bl<|!decide (c∈y)) M|_,_=>.bad):=aY.imp Zoi λx y H Q ao=>by
 let⟨ι,M,a,b,S,ra,rb,h⟩:=ao;cases a with
 | str z=>
  cases z with
  |nil=>cases b<;>cases h|cons c z=>
   cases z with
   |cons _ _=>cases b<;>cases h|nil=>
    cases b with
    |str y=>refine⟨_,_,ra.str_inv,rb.str_inv,?_⟩;have e:=QA (⟨pd y⟩:ak) c;rw[show(⟨[c].toArray⟩:ak)=⟨#[c]⟩from rfl,e];exact aA.ok h S i0.bl|_=>cases h
 |_=>cases b<;>cases h
def Zxk(hu:X.A.units+80<fH):aY X (iB .NotIn) (r2 X.K Jz):=aY.imp (aY.or Zwc ZnE) λx y H Q ao=>by
 let⟨ι,M,a,b,S,ra,rb,h⟩:=ao;unfold Jz at h;cases q:inD a b with
 |none=>rw[q]at h;cases h|some k=>
  rw[q]at h;rcases Zs q with⟨ys,eb,ek,fa,fs⟩|⟨c,z,ea,eb,ek⟩
  .rw[eb]at rb;rw[<-ek]at h;exact .inr<|ZA true ra rb fa fs<|aA.ok h S i0.bl
  .rw[ea]at ra;rw[eb]at rb;rw[<-ek]at h;exact .inl ⟨ι,M,_,_,S,ra,rb,h⟩
def ZvR(x:i4)(n:Nat)(a:i4):(Yg n x.toArray).foldl (· ++ ·) a.toArray=(a++(Yg n x).flatten).toArray:=by
 induction n generalizing a with
 |zero=>simp|succ n ih=>rw[lA,qx,lA,tU];have:=ih<|a++x;simp only[List.append_toArray]at this |-;rw[this];simp
def Afy(x:i4)(k:Int):Txt.mul (⟨pd x⟩:ak) k=⟨(Yg k.toNat x).flatten.toArray⟩:=by
 unfold Txt.mul;split
 .rename_i h;have:k.toNat=0:=iJ (xX<|Int.toNat_of_nonpos c8)<|dY _;rw[this];rfl
 .split
  .rename_i h1 h2;simp only[vM,beq_iff_eq,t7,Yq]at h2;rcases h2 with h2|h2
   .subst h2;simp
   .have:x=[]:=OD h2;subst this;simp
  .have:=ZvR x k.toNat [];rw[qy]at this;exact congrArg Str.mk this
theorem aB.vF(r:aB K H ι ds vs):∀k:Nat,aB K H ι (Yg k ds).flatten (Yg k vs).flatten
 |0=>aB.nil|k+1=>by rw[lA,lA,tU,tU];exact r.append<|aB.vF r k
def qN:aY X (jh .Mult) (r2 X.K fP):=by
 have hs:aY X (jh .Mult) (λx y H Q=>∃(z:i4) (k:Int),x= .str ⟨pd z⟩/\y= .int k/\z.length*k.toNat<=1000000/\k<1000000/\ -1000000<k/\Q (.str ⟨(Yg k.toNat z).flatten.toArray⟩) H):=by
  intro c6 s σ H x y v u Q I rx ry h;let⟨z,k,rfl,rfl,h1,h2,h3,q⟩:=h;let⟨t,rfl⟩:=rx;let⟨t',rfl⟩:=ry;refine SB.mul ⟨?_,λh4 h5=>?_,λh4 h5=>?_⟩ λt'' tk=>?_
  .simp;omega
  .simp only[t7,Yq];simp at h4 h5;have hk:2<=k:=by
    simp only[t7,Yq]at h5;omega
   have e:(k.toNat:Int)=k:=N2 (Int.le_of_eq<|N1 c8)<|(Int.self_le_toNat _);have hm:(z.length:Int)*k<=1000000:=by have B0:((z.length*k.toNat:Nat):Int)<=1000000:=Int.ofNat_le.mpr h1;rwa[Int.natCast_mul,e]at B0
   have hd:(z.length:Int)<=9223372036854775807 / k:=Int.le_ediv_of_mul_le c8 c8;show¬((z.length:Int)>(2^63-1) / k);have e3:((2:Int)^63-1)=9223372036854775807:=by decide
   rw[e3];exactλz=>by omega
  .unfold Builtin.Str.tooLong;simp only[t7,Yq,decide_eq_false_iff_not];have hsz:(1000000:Nat)<=bI:=kY;exactλz=>by omega
  .rw[Afy];exact⟨.str _,H,I.tok _,⟨_,rfl⟩,q⟩
 refine aY.imp (aY.or ZyX<|aY.or hs Zzn) λx y H Q ao=>?_;let⟨ι,M,a,b,S,ra,rb,h⟩:=ao;cases a with
 | int i=>cases b with
  |int j=>let⟨hm,h⟩:=yM h;refine .inl ⟨i,j,ra.int_inv,rb.int_inv,?_,aA.ok h S i0.int⟩;simp only[qH,vM,j5,decide_eq_true_eq]at hm;exact hm|_=>cases h
 | str z=>cases b with
  |int k=>let⟨hz,h⟩:=yM h;exact .inr (.inl ⟨z,k,ra.str_inv,rb.int_inv,hz.1,hz.2.1,hz.2.2,aA.ok h S i0.str⟩)|_=>cases h
 | ref n=>cases b with
  |int k=>
   have h:aA X.K H ι Q (YL M[n]? λx=>@ite _ (x.length*k.toNat<=SZ/\k<1000000/\ -1000000<k) (Yz _) (alloc (.L (Yg k.toNat x).flatten) M) .bad):=h;let⟨z,hn,h⟩:=Xs h;let⟨hz,h⟩:=yM h;let⟨p,hp,e'⟩:=ra.fD;let⟨vs,e,r⟩:=S.obj n _ p hn hp;refine .inr (.inr ⟨p,k,vs,e',rb.int_inv,e,?_,?_,by rw[r.length];exact Yx hz.1 kY,λq hq=>?_⟩)
   .exact Jc aaE<|Wo hz.2.2
   .exact Int.lt_of_lt_of_le hz.2.1 aaE
   let⟨x2,S2,r2⟩:=S.L hq<|aB.vF r k.toNat;exact h _ _ _ x2 S2 r2
  |_=>cases h
 |_=>cases b<;>cases h
def ZE(n d:Nat)(hd:d<=n)(o:pe):(match o with|none=>(d:Int)|some i=>gR 0<|jL (if i<0 then i+(n:Int)else i) (n:Int))=((aN n d o:Nat):Int):=by
 cases o with
 |none=>rfl|some v=>
  show gR 0 (jL (if v<0 then v+(n:Int)else v) (n:Int))=(((if v<0 then(v+(n:Int)).toNat else jL v.toNat n):Nat):Int);by_cases h:v<0
  .rw[f_ h,f_ h];exact WY v n h
  .rw[i6 h,i6 h];exact W0 v n h
def ZH(lo hi:pe)(n:Nat):Px lo hi 1 n=(fM<|aN n n hi-aN n 0 lo).map (λk=>aN n 0 lo+k):=by
 have e1:=ZE n 0 (dY _) lo;have e2:=ZE n n (Yn _) hi;have key:Px lo hi 1 n=sliceRange ((aN n 0 lo:Nat):Int) ((aN n n hi:Nat):Int) 1:=by rw[<-e1,<-e2];simp only[Px,show((1:Int)>0)=True from by simp,if_true];cases lo<;>cases hi<;>rfl
 rw[key];generalize aN n 0 lo=a;generalize aN n n hi=b;simp only[sliceRange,show((1:Int)>0)=True from by simp,if_true];by_cases n9:(a:Int)<b
 .have e3:(((b:Int)-a+1-1) / 1).toNat=b-a:=by first|exact iJ c8 (by omega)|(simp;done)|(simp;omega)
  simp only[n9,if_true,e3];refine Na λk _=>?_;exact iJ c8 c8
 .have:b-a=0:=iJ (xX<|NH c8)<|dY _;simp[n9,this]
def Qn(n d:Nat)(hd:d<=n)(o:pe):aN n d o<=n:=by
 cases o with
 |none=>exact hd|some v=>simp only[aN];split <;>omega
def ZqA(z:i4)(lo hi:pe)(l u:Option (Int×jB))(hl:l.map (·.1)=lo)(hu:u.map (·.1)=hi):
  (if((1:Int)==1&&(zZ ⟨pd z⟩ l u Yj).length==(⟨pd z⟩:ak).length)=true then(⟨pd z⟩:ak)else⟨((zZ ⟨pd z⟩ l u Yj).filterMap ((⟨pd z⟩:ak).cps[·]?)).toArray⟩)=⟨(oC z lo hi).toArray⟩:=by
 have e0:zZ ⟨pd z⟩ l u Yj=(fM<|aN z.length z.length hi-aN z.length 0 lo).map (λk=>aN z.length 0 lo+k):=by unfold zZ;rw[hl,hu];simp only[t7,Yq];exact ZH lo hi z.length
 have hb:=Qn z.length z.length (Yn _) hi;rw[e0];have pick:((fM<|aN z.length z.length hi-aN z.length 0 lo).map λk=>aN z.length 0 lo+k).filterMap ((⟨pd z⟩:ak).cps[·]?)=oC z lo hi:=by
  unfold oC;by_cases AU:aN z.length 0 lo<=aN z.length z.length hi
  .have h:=StrLaws.picks z (aN z.length z.length hi-aN z.length 0 lo) (aN z.length 0 lo) c8;simpa using h
  .have:aN z.length z.length hi-aN z.length 0 lo=0:=iJ (xX<|NH c8)<|dY _;rw[this];simp
 rw[pick];split
 .rename_i hc;simp only[Y3,V8,t7,Yq,j5,beq_iff_eq]at hc;have zS:=hc.2;have h0:aN z.length 0 lo=0\/z.length=0:=by omega
  have:oC z lo hi=z:=by
   unfold oC;rcases h0 with h0|h0
   .rw[h0,Wa,Aa c8]
   .have:z=[]:=OD h0;subst this;simp
  rw[this]
 .rfl
def ZyV:kI X (λx lo hi H Q=>∃z:i4,x= .str ⟨pd z⟩/\z.length<=SZ/\Q (.str ⟨(oC z lo hi).toArray⟩) H):=by
 intro c6 s σ H x v vl vu lo hi sl Q I rx hs pl pu h;let⟨z,rfl,hz,q⟩:=h;let⟨t,rfl⟩:=rx;have part:∀{v:Yf} {o:pe},IsPart v o->∃p:Option (Int×jB),v=partValue p/\p.map (·.1)=o:=by
  intro v o h;cases h with
  |none=>exact⟨Yj,rfl,rfl⟩|int i t=>exact⟨O (i,t),rfl,rfl⟩
 let⟨l,rfl,hl⟩:=part pl;let⟨u,rfl,hu⟩:=part pu;refine⟨"str",_,PySem.F.slot_str_getitem.lookup,VR _ _ _,?_⟩;refine wpAny_getItem_str_slice (l:=l) (u:=u) (st:=Yj) hs aaD ?_;unfold sliceMade;refine post_val_or_made (λ_=>?_) λt' k=>?_
 .show((zZ ⟨pd z⟩ l u Yj).filterMap ((⟨pd z⟩:ak).cps[·]?)).toArray.size<=bI;rw[Yq];refine Yx (MR _ _) ?_;show(Px (l.map (·.1)) (u.map (·.1)) 1 (⟨pd z⟩:ak).length).length<=bI;rw[ZH];simp only[Y3,V8,t7,Yq];have:=Qn z.length z.length (Yn _)<|u.map (·.1);have:=kY;omega
 .have e:=ZqA z lo hi l u hl hu;have e':(if(((Yj:Option (Int×jB)).map (·.1)).getD 1==1&&(zZ ⟨pd z⟩ l u Yj).length==(⟨pd z⟩:ak).length)=true then(⟨pd z⟩:ak)else⟨((zZ ⟨pd z⟩ l u Yj).filterMap ((⟨pd z⟩:ak).cps[·]?)).toArray⟩)=⟨(oC z lo hi).toArray⟩:=e;rw[e'];exact⟨.str _,H,I.tok _,⟨_,rfl⟩,q⟩
def ZiY{prog:Y8}{t sl:Ys}{vl vu:Yf}{lo hi:pe}(ht:IsTup s.heap t items)(hs:s.heap.IsSliceOf sl vl vu .none)(pl:IsPart vl lo)(pu:IsPart vu hi)(hw:HT.aN items.size 0 lo=0/\HT.aN items.size items.size hi=items.size)(h:Q (.ref t) s):Y5 (aq prog w) A (tR (.ref t)<|.ref sl) Q E s:=by
 let⟨os,AL,AM,BO⟩:=id hs;have EO:s.TypeIs (.ref sl) "slice":=⟨os,AL,AM⟩;unfold tR
 try with_reducible refine pB ?_
 first|refine Yc (Yo ?_)|skip
 refine Yc<|Mn ht.typeIs aaE ?_;refine Yc (vh (name:=n_ "__getitem__") ht.typeIs Pa
  (vz Pa ht.typeIs N9 ?_<|Oy _ _))
 show Y5 _ _ (Pd (.ref t)>>=_) _ _ s;refine Yc<|tupleItemsOf_ ht ?_;refine Yc<|zW EO ?_;rw[f_ aaE];refine Yc<|HT.SG hs pl pu ?_;have Afz:(((HT.aN items.size 0 lo:Nat):Int)==0&&(1:Int)==1&&(HT.aN items.size items.size hi-HT.aN items.size 0 lo)==items.size)=true:=by rw[hw.1,hw.2];simp
 show Y5 _ _ (if(((HT.aN items.size 0 lo:Nat):Int)==0&&(1:Int)==1&&(HT.aN items.size items.size hi-HT.aN items.size 0 lo)==items.size)=true then _ else _) _ _ s;rw[f_ Afz];unfold Builtin.Tuple.tupleIsExact;refine Yc<|Yc<|zW ht.typeIs<|Yo ?_;rw[f_ aaE];exact Yc<|z6<|Yo ⟨_,rfl,Yo h⟩
def ZxS:kI X (λx lo hi H Q=>∃a xs,x= .ref a/\dD X.K H a xs/\(HT.aN (b9 xs) 0 lo=0/\HT.aN (b9 xs) (b9 xs) hi=b9 xs)/\Q (.ref a) H):=by
 intro c6 s σ H x v vl vu lo hi sl Q I rx hs pl pu h;let⟨a,xs,rfl,hx,hw,q⟩:=h;cases rx;let⟨c_,r,ht,hz⟩:=I.tuple hx;have i7:c_.toArray.size=b9 xs:=by rw[Yq];exact r.length.symm
 refine⟨"tuple",_,PyProof.Rows.slot_tuple_getitem.lookup,ht.typeIs,?_⟩;exact ZiY ht hs pl pu (by rwa[i7]) ⟨.ref a,H,I,rfl,q⟩
def Bv:kI X (rS X.K):=kI.imp (kI.or (kI.or ZzA ZxS)<|kI.or ZwM ZyV) λx lo hi H Q ao=>by
 let⟨ι,M,a,S,ra,h⟩:=ao;have ex:∀n d o,HT.aN n d o=aN n d o:=λn d o=>by cases o<;>rfl
 cases a with
 | U ds=>
  simp only[Zip,Fi,Fj,Ax]at h;let⟨p,vs,rfl,s,r⟩:=ra.jf;by_cases hw:aN (b9 ds) 0 lo=0/\aN (b9 ds) (b9 ds) hi=ds.length
  .refine .inl (.inr ⟨p,vs,rfl,s,by rwa[ex,ex,r.length],?_⟩);have e:oC ds lo hi=ds:=by unfold oC;rw[hw.1,hw.2];simp
   rw[e]at h;exact aA.ok h S<|i0.U s r
  .refine .inl (.inl ⟨p,vs,rfl,s,by rwa[ex,ex,r.length],λq hq=>?_⟩);let⟨x2,S2,r2⟩:=S.xF hq<|Y_ r lo hi;exact h _ _ _ x2 S2 r2
 |cI ds=>simp only[Zip,Fi,Fj,Ax]at h;let⟨p,vs,rfl,s,r⟩:=ra.u5;refine .inr<|.inl ⟨p,vs,rfl,s.sq,λq hq=>?_⟩;let⟨x2,S2,r2⟩:=S.L hq<|Y_ r lo hi;exact h _ _ _ x2 S2 r2|str z=>
  simp only[Zip,Fi,Fj,Ax]at h;split at h
  .rename_i hz;exact .inr<|.inr ⟨z,ra.str_inv,hz,aA.ok h S i0.str⟩
  .exact h.elim
 | ref n=>
  simp only[Zip,Fi,Fj,Ax]at h;cases hn:M[n]? with
  |none=>simp only[hn]at h;cases h|some o=>
   cases o with
   |j3 _=>simp only[hn]at h;cases h|dW _=>simp only[hn]at h;cases h|ins _ _=>simp only[hn]at h;cases h|L ds=>simp only[hn]at h;let⟨p,hp,rfl⟩:=ra.fD;let⟨vs,e,r⟩:=S.obj n _ p hn hp;refine .inr<|.inl ⟨p,vs,rfl,dm.of e,λq hq=>?_⟩;let⟨x2,S2,r2⟩:=S.L hq<|Y_ r lo hi;exact h _ _ _ x2 S2 r2
 |_=>cases h
def Gb{xs:k6}(r:aB K H ι [d] xs):∃x,xs=[x]/\i0 K H ι d x:=by let⟨v,ws,rfl,r1,r2⟩:=r.cons_inv;have:=r2.nil_inv;subst this;exact⟨v,rfl,r1⟩
def AfA:bY X (.builtin "len") (rB X.K a_):=bY.imp ZvI λxs H Q ao=>by
 let⟨ι,M,ds,S,rd,h⟩:=ao;cases ds with
 |nil=>cases h|cons d ds=>
  cases ds with
  |cons _ _=>cases d<;>cases h|nil=>
   let⟨x,rfl,r⟩:=Gb rd;cases d with
   |U z=>let⟨p,vs,rfl,s,r'⟩:=r.jf;exact⟨_,b9 vs,rfl,.inr ⟨vs,s,rfl⟩,by rw[r'.length];exact aA.ok h S i0.int⟩|cI z=>let⟨p,vs,rfl,s,r'⟩:=r.u5;exact⟨_,b9 vs,rfl,.inl ⟨vs,s.sq,rfl⟩,by rw[r'.length];exact aA.ok h S i0.int⟩|str z=>
    simp only[Ay,QB,Xx,Az]at h;split at h
    .rename_i hz;have:=r.str_inv;subst this;refine⟨_,z.length,rfl,⟨?_,?_⟩,aA.ok h S i0.int⟩
     .show z.toArray.size<=bI;rw[Yq];exact Yx hz kY
     .show z.length=z.toArray.size;rw[Yq]
    .exact h.elim
   | ref n=>
    cases hn:M[n]? with
    |none=>rw[Az,hn]at h;cases h|some o=>
     cases o with
     |j3 _=>rw[Az,hn]at h;cases h|dW _=>rw[Az,hn]at h;cases h|ins _ _=>rw[Az,hn]at h;cases h|L z=>simp only[Ay,QB,Xx,Az,hn]at h;let⟨p,hp,rfl⟩:=r.fD;let⟨vs,e,r'⟩:=S.obj n _ p hn hp;exact⟨_,b9 vs,rfl,.inl ⟨vs,dm.of e,rfl⟩,by rw[r'.length];exact aA.ok h S i0.int⟩
   |_=>cases h
def sy:bY X (.type "tuple") (rB X.K jT):=bY.imp ZmH λxs H Q ao=>by
 let⟨ι,M,ds,S,rd,h⟩:=ao;cases ds with
 |nil=>cases h|cons d ds=>
  cases ds with
  |cons _ _=>cases d<;>cases h|nil=>
   let⟨x,rfl,r⟩:=Gb rd;cases d with
   |U z=>let⟨p,vs,rfl,s,r'⟩:=r.jf;exact⟨p,vs,rfl,.inr ⟨s,aA.ok h S<|i0.U s r'⟩⟩|cI z=>let⟨p,vs,rfl,s,r'⟩:=r.u5;refine⟨p,vs,rfl,.inl ⟨s.sq,λq hq=>?_⟩⟩;let⟨x2,S2,r2⟩:=S.xF hq r';exact h _ _ _ x2 S2 r2|ref n=>
    cases hn:M[n]? with
    |none=>rw[Fl,hn]at h;cases h|some o=>
     cases o with
     |j3 _=>rw[Fl,hn]at h;cases h|dW _=>rw[Fl,hn]at h;cases h|ins _ _=>rw[Fl,hn]at h;cases h|L z=>simp only[US,UU,Fl,hn]at h;let⟨p,hp,rfl⟩:=r.fD;let⟨vs,e,r'⟩:=S.obj n _ p hn hp;refine⟨p,vs,rfl,.inl ⟨dm.of e,λq hq=>?_⟩⟩;let⟨x2,S2,r2⟩:=S.xF hq r';exact h _ _ _ x2 S2 r2
   |_=>cases h
def AfB:bY X (.type "list") (rB X.K JF):=bY.imp Zop λxs H Q ao=>by
 let⟨ι,M,ds,S,rd,h⟩:=ao;cases ds with
 |nil=>cases h|cons d ds=>
  cases ds with
  |cons _ _=>cases d<;>cases h|nil=>
   let⟨x,rfl,r⟩:=Gb rd;cases d with
   |U z=>let⟨p,vs,rfl,s,r'⟩:=r.jf;refine⟨p,vs,rfl,.inr s,λq hq=>?_⟩;let⟨x2,S2,r2⟩:=S.L hq r';exact h _ _ _ x2 S2 r2|cI z=>let⟨p,vs,rfl,s,r'⟩:=r.u5;refine⟨p,vs,rfl,.inl s.sq,λq hq=>?_⟩;let⟨x2,S2,r2⟩:=S.L hq r';exact h _ _ _ x2 S2 r2|ref n=>
    cases hn:M[n]? with
    |none=>rw[JG,hn]at h;cases h|some o=>
     cases o with
     |j3 _=>rw[JG,hn]at h;cases h|dW _=>rw[JG,hn]at h;cases h|ins _ _=>rw[JG,hn]at h;cases h|L z=>simp only[UX,Zuw,JG,hn]at h;let⟨p,hp,rfl⟩:=r.fD;let⟨vs,e,r'⟩:=S.obj n _ p hn hp;refine⟨p,vs,rfl,.inl<|dm.of e,λq hq=>?_⟩;let⟨x2,S2,r2⟩:=S.L hq r';exact h _ _ _ x2 S2 r2
   |_=>cases h
end
def ZzU:j_ "len" =O (.builtin "len"):=by decide +kernel
def ZmC:j_ "isinstance" =O (.builtin "isinstance"):=by decide +kernel
def ZI:j_ "int" =O (.type "int"):=by decide +kernel
def Zw5:j_ "list" =O (.type "list"):=by decide +kernel
def sE:j_ "tuple" =O (.type "tuple"):=by decide +kernel
def ZN:j_ "dict" =O (.type "dict"):=by decide +kernel
section
variable {X:Cx} {a:Expr} {pos p p2:aZ} {f:E3}
def wA:uh->String
 | .int=>"int" | .bool=>"bool" | .str=>"str" | .list=>"list" | .tuple=>"tuple"
def Bw(K:Yb)(t:String)(T:uh)(ht:t∈["NoneType","bool","int","str","list","tuple","dict"]):
  LZ K (.type t) (.type<|wA T)=O (t==wA T|| (t== "bool" &&wA T== "int")):=by
 simp only[Yt,vK,or_false]at ht;rcases ht with rfl|rfl|rfl|rfl|rfl|rfl|rfl <;>cases T<;>kernel_rfl
def AfC(T:uh):j_ (wA T)=O (.type<|wA T):=by cases T<;>decide +kernel
def AfD(T:uh)(o:Option MO):Option Bool:=match o with
 |some (.L _)=>O (T== .list)|some (.j3 _)=>O false|some (.dW _)=>Yj|some (.ins _ _)=>Yj
 |none=>Yj
def ZwR{T:uh}{x:V}{b:Bool}(I:c9 X c6 σ H s)(S:aC X.K H ι M)(r:i0 X.K H ι d x)(ru:i5 x u)(e:rT T d M=O b)(h:∀tk,Q (.bool b) {s with toks:=tk}):Y5 (aq X.prog X.w) A (call (.builtin "isinstance") [u,.type<|wA T]) Q E s:=by
 cases d with
 |Z=>rw[r.lq]at ru;exact Eu I ru .Z ((Bw X.K "NoneType" T aaE).trans<|yd (by cases T<;>rfl) e) h|bl c=>rw[r.iU]at ru;exact Eu I ru (.bl c) ((Bw X.K "bool" T aaE).trans<|yd (by cases T<;>rfl) e) h|int i=>rw[r.int_inv]at ru;exact Eu I ru (.int i) ((Bw X.K "int" T aaE).trans<|yd (by cases T<;>rfl) e) h|str z=>rw[r.str_inv]at ru;exact Eu I ru (.str _) ((Bw X.K "str" T aaE).trans<|yd (by cases T<;>rfl) e) h
 |U ds=>let⟨p,vs,c_,_,eu,⟨o,h1,h2,_⟩,_⟩:=yP I r ru;rw[eu];exact qp LV I.eZ ⟨o,h1,h2⟩ ((Bw X.K "tuple" T aaE).trans<|yd (by cases T<;>rfl) e) nofun h|cI ds=>exact e_ e|ref n=>
  have e:AfD T M[n]?=O b:=e;let⟨a,ha,ex⟩:=r.fD;rw[ex]at ru;cases hn:M[n]? with
  |none=>rw[hn]at e;exact e_ e|some o=>
   rw[hn]at e;cases o with
   |L z=>let⟨vs,ev,_⟩:=S.obj n _ a hn ha;exact Eu I ru (.L ev) ((Bw X.K "list" T aaE).trans<|yd (by cases T<;>rfl) e) h|j3 z=>let⟨vs,ev,_⟩:=S.obj n _ a hn ha;exact Eu I ru (.dK ev) ((Bw X.K "dict" T aaE).trans<|yd (by cases T<;>rfl) e) h|dW z=>exact e_ e|ins _ _=>exact e_ e
def Bx(T:uh){x:ak}(hm:X.mg "isinstance" =Yj)(Fh:X.mg x=Yj)(h:C3 X a f)(hx:x=(n_<|wA T):=by rfl)(hg:Gl X "isinstance":=by rfl)(hg2:Gl X x:=by rfl)(hn:x≠ "__name__":=by decide)(hd:(x==("__debug__":ak))=false:=by decide)(hs:Y1 (a::[.Name x p2]) X.env=(false,aU a X.env)::Y1 [.Name x p2] X.env:=by rfl)(px:Y1 (.Name x p2::[]) X.env=(false,aU (.Name x p2) X.env)::Y1 [] X.env:=by rfl)(pv:(fZ pos<|Y1 [.Name x p2] X.env).any (·.1)=false:=by rfl):C3 X (.Call (.Name "isinstance" p) [a,.Name x p2] [] pos) (e1 (jk T) f):=by
 subst hx;have hc:bY X (.builtin "isinstance") (λxs H Q=>∃ι M d x,xs=[x,.ty<|wA T]/\aC X.K H ι M/\i0 X.K H ι d x/\aA X.K H ι Q (jk T d M)):=by
  intro c6 s σ H xs us Q I r q;let⟨ι,M,d,x,rfl,S,rd,q⟩:=q;let⟨u,w',rfl,ru,jN⟩:=vals2 r;cases jN;unfold jk at q;cases e:rT T d M with
  |none=>rw[e]at q;exact q.elim|some b=>rw[e]at q;exact ZwR I S rd ru e λtk=>⟨.bl b,H,I.tok _,rfl,aA.ok q S i0.bl⟩
 refine(SD hc hg hm ZmC (Qm h (Qm (Zxj hg2 Fh (AfC T) (v:=.ty<|wA T) aaD hn hd) Xc px) hs) aaE aaE hs pv).imp λσ H Q ao=>?_;let⟨ι,M,env,S,E,h⟩:=ao;let⟨d,M1,e1,h⟩:=aA.bind h;refine⟨ι,M,env,S,E,?_⟩;rw[e1];intro v H1 ι1 x1 S1 r1;exact⟨ι1,M1,d,v,rfl,S1,r1,h.up x1⟩
end
def ZO(outer:List (ak×NameKind))(N:oB)(scope:Scope)(N':oB)(own:Nat):Bool:=
 (scope.names.all λy=>decide (y.2≠ .cell)&&(decide (y.2≠ .free)|| decide (outer.lookup y.1=O .cell)|| decide (outer.lookup y.1=O .free))&&(decide (y.2≠ .local)|| decide (scope.names.lookup y.1=O .local)))&&
  decide (b9 N'=b9 N+own)&&ZD N N' scope
def BJ{scope:Scope}{N':oB}{own:Nat}(hk:scope.kind= .function)(h:ZO X.env.scope.names X.N scope N' own=true):Bu X scope N' own:=by
 simp only[ZO,j5,decide_eq_true_eq,nY,vM]at h;let⟨⟨h1,h2⟩,h3⟩:=h;refine⟨hk,λy hy=>(h1 y hy).1.1,λy hy e=>?_,λy hy e=>?_,h2,h3⟩
 .rcases(h1 y hy).1.2 with(q|q)|q
  exact oz e q;exact .inl q;exact .inr q
 .rcases(h1 y hy).2 with q|q
  .exact oz e q
  .exact q
def ZZ{h:aF}{mg:ak->oo}(KX:K.In h)(G:h.Ns dI mg){x:ak}{st:Ye1}{f:Ys}{oc:Yf}{od an:qA}{t9:Array oo}{dV kV doc pm oj ct:Yf}(a:PySem.W.nsIn K dI x=O (O<|.ref f))(l:K.lookup f=O ⟨oc,od,.func<|qt x x (nq st) (jq st) (Zq st) dV kV doc pm an oj ct,t9⟩)(c:Dw K oj x=true)(k:rC K (.ref f)=true)(b:Binds K (qt x x (nq st) (jq st) (Zq st) dV kV doc pm an oj ct) ps []):cH K mg x st ps:=⟨f,_,TR l c k,Ymt KX G a,b⟩
def ZabV{l:PySem.W.OpenLaw}{k:Nat}{q:Y8}{loose:oB}{XP:(ak->oo)->aF->Prop}{YP:aX->aF->Prop}{d:DefRec}{K:Params->Yb}(hn:l.most=O 63)(BQ:d.params.defaults=[])(hr:dN k xN)(hY:∀(w:aX) (h:aF),YP w h->(K w.params).In h)(G:∀(w:aX) (mg:ak->oo) (fa:Ys) (h:aF),(K w.params).In h->h.Ns dI mg->mg d.name=O (.ref fa) ->
   ∃fd:mU,(∀(s:Yi) (u:Yf),DR s fd ⟨[u],[]⟩ [("script",u)])/\∀base:aF,(K w.params).In base->base.Ns dI mg->iM l.prog w (K w.params) mg base l_ k fa fd ["script"] (uq (K w.params) 1 F))(hF:∀ns:l8,b9 ns<=63->∃M',F [.cI<|ns.map D.int] []= .ok (.bl true) M'):
  L0 q loose XP YP l.row.toRowW d [] (λf vs=>VV f vs):=
 L2.Zsu (n:=63) (k:=k) (x:="script") (CX:=λ_=>l_) (sp:=λw=>uq (K w.params) 1 F) hn aaE BQ hr hY G (λw H a ns hl hO hS=>by
  let⟨M',e⟩:=hF ns hl;refine⟨[],[],[.cI<|ns.map D.int],⟨rfl,Wb,λn o a h=>by simp at h⟩,aB.cons ?_ aB.nil,rfl,?_⟩
  .refine⟨a,ns.map V.int,rfl,?_,aB.ints ns⟩;rcases hS with(h|⟨o,h⟩)|h
   .rcases hO a with z|⟨ob,xs,z⟩
    .rw[h]at z;cases z
    .rw[h]at z;cases z
   .exact .inl ⟨o,h⟩
   .exact .inr h
  .rw[e]
   exactλv H' ι' _ _ r=>r.iU) λ_ _ _ _ _ z=>z
def Z0{a b:aH}(h:dk a=dk b):a=b:=by
 cases a with
 |inl i=>cases b with
  |inl j=>simp only[dk,Sum.inl.injEq]at h;rw[h]|inr y=>simp[dk]at h
 | inr x=>cases b with
  |inl j=>simp[dk]at h|inr y=>simp only[dk,Sum.inr.injEq,Str.mk.injEq]at h;have:=congrArg Pg h;simp at this;rw[this]
def Gd{b:D}{y:V}{k:aH}(h:gZ b=O k)(r:i0 K H ι b y):y=kV (dk k):=by
 cases b with
 |int i=>cases h;exact r.int_inv|str x=>cases h;exact r.str_inv|_=>exact e_ h
variable{kvs l:l9}{ws:sv}
section
variable {K:Yb} {H H':Hp} {ι ι':l6} {M:c5} {p:Ys}
def cJ.nil:cJ K H ι [] []:=⟨rfl,aB.nil⟩
def cJ.cons{k:aH}{d:D}{v:V}{kvs:l9}{ws:sv}(h:i0 K H ι d v)(r:cJ K H ι kvs ws):cJ K H ι ((k,d)::kvs) ((dk k,v)::ws):=⟨by simp[r.1],aB.cons h r.2⟩
def cJ.cons_inv{q:aH×D}(r:cJ K H ι (q::kvs) ws):∃v Ap,ws=(dk q.1,v)::Ap/\i0 K H ι q.2 v/\cJ K H ι kvs Ap:=by
 let⟨h1,h2⟩:=r;cases ws with
 |nil=>simp at h1|cons w ws=>simp only[Y2,Qr]at h1;let⟨v,us,e,r1,r2⟩:=aB.cons_inv h2;simp only[Y2,Qr]at e;exact⟨w.2,ws,by rw[<-h1.1],e.1▸r1,h1.2,e.2▸r2⟩
def cJ.nil_inv(r:cJ K H ι [] ws):ws=[]:=by simpa using r.1
def cJ.mono(r:cJ K H ι kvs ws)(e:k7 K H ι H' ι'):cJ K H' ι' kvs ws:=⟨r.1,r.2.mono e⟩
def cJ.length(r:cJ K H ι kvs ws):b9 ws=b9 kvs:=by have:=congrArg xU r.1;simpa using this
def cJ.val(k:aH):∀{ws:sv},cJ K H ι kvs ws->match cD kvs k with|some d=>∃v,lE ws (dk k)=O v/\i0 K H ι d v|none=>lE ws (dk k)=Yj:=by
 induction kvs with
 |nil=>intro ws r;rw[r.nil_inv];exact Zu0|cons q kvs ih=>
  intro ws r;let⟨v,Ap,rfl,r1,r2⟩:=r.cons_inv;let⟨k',d⟩:=q;unfold cD;by_cases e:k'=k
  .rw[f_ e];exact⟨v,Qs (by rw[e]),r1⟩
  .rw[i6 e,Qt λz=>e<|Z0 z];exact ih r2
def cJ.append{k1 k2:l9}{w1 w2:sv}(a:cJ K H ι k1 w1)(b:cJ K H ι k2 w2):cJ K H ι (k1++k2) (w1++w2):=⟨by simp[a.1,b.1],by rw[gK,gK];exact a.2.append b.2⟩
def cJ.any(k:aH):∀{ws:sv},cJ K H ι kvs ws->(ws.any λkv=>decide<|kv.1=dk k)=(kvs.any λq=>decide<|q.1=k):=by
 induction kvs with
 |nil=>intro ws r;rw[r.nil_inv];rfl|cons q kvs ih=>
  intro ws r;let⟨v,Ap,rfl,r1,r2⟩:=r.cons_inv;rw[nZ,nZ,ih r2];congr 1;by_cases e:q.1=k
  .simp[e]
  .simp[e];exactλz=>e<|Z0 z
def cJ.put{k:aH}{v:V}(r:cJ K H ι kvs ws)(rd:i0 K H ι d v):cJ K H ι (oI k d kvs) (putK ws (dk k) v):=by
 unfold oI putK;rw[r.any k];by_cases c:(kvs.any λq=>decide<|q.1=k)=true
 .rw[f_ c,f_ c];clear c
  induction kvs generalizing ws with
  |nil=>rw[r.nil_inv];exact cJ.nil|cons q kvs ih=>
   let⟨u,Ap,rfl,r1,r2⟩:=r.cons_inv;rw[Y2,Y2];by_cases e:q.1=k
   .rw[f_ e,f_<|by rw[e]];exact cJ.cons rd<|ih r2
   .rw[i6 e,i6 λz=>e<|Z0 z];exact cJ.cons r1<|ih r2
 .rw[i6 c,i6 c];exact r.append<|cJ.cons rd cJ.nil
def cJ.merge:∀{kvs:l9} {ws us:sv},cJ K H ι l us->cJ K H ι kvs ws->cJ K H ι (l.foldl (λacc p=>oI p.1 p.2 acc) kvs) (Ar ws us):=by
 induction l with
 |nil=>intro kvs ws us r r0;rwa[r.nil_inv]|cons q l ih=>intro kvs ws us r r0;let⟨v,ZT,rfl,r1,r2⟩:=r.cons_inv;exact ih (ws:=putK ws (dk q.1) v) (us:=ZT) r2<|r0.put r1
def aC.j3(S:aC K H ι M)(hp:H p=Yj)(r:cJ K H ι kvs ws):k7 K H ι (k4 H p<|.dK ws) (ι++[p])/\aC K (k4 H p<|.dK ws) (ι++[p]) (M++[.j3 kvs])/\i0 K (k4 H p<|.dK ws) (ι++[p]) (.ref<|b9 M) (.ref p):=by have e:k7 K H ι (k4 H p<|.dK ws) (ι++[p]):=Loose.HY<|.inl hp;exact⟨e,S.new hp ⟨ws,pH,r.mono e⟩,i0.ref (by rw[<-S.len];simp)⟩
def aC.ZU(S:aC K H ι M)(l0:Loose H p)(hn:ι[n]?=O p)(r:cJ K H ι kvs ws):k7 K H ι (k4 H p<|.dK ws) ι/\aC K (k4 H p<|.dK ws) ι (M.set n<|.j3 kvs):=by have e:k7 K H ι (k4 H p<|.dK ws) ι:=Loose.ext l0;exact⟨e,S.put l0 hn ⟨ws,pH,r.mono e⟩⟩
end
section
variable {X:Cx} {a b c e o:Expr} {es:pw} {pos p ow n5 i9:aZ} {f g h:E3} {gl:dg}
def ZY:C3 X (.Dict [] [] pos) XC:=ZuI.imp λσ H Q ⟨ι,M,env,S,E,h⟩ p hp=>by let⟨x1,S1,r1⟩:=S.j3 hp cJ.nil;exact h _ _ _ x1 S1 r1
def rg(hu:X.A.units+80<fH):X.A.units+1<fH:=by omega
def Rm(S:aC K H ι M){a:Ys}(h:jr M[n]?=O kvs)(ha:ι[n]?=O a):∃ws,Rd H a (.dK ws)/\cJ K H ι kvs ws:=by
 cases hn:M[n]? with
 |none=>simp[hn]at h|some ob=>
  cases ob with
  |L _=>simp[hn]at h|j3 k=>
   have e:k=kvs:=by simpa[hn]using h
   subst e;let⟨ws,hw,kr⟩:=S.obj n _ a hn ha;exact⟨ws,.inl hw,kr⟩
  |dW k=>
   have e:k=kvs:=by simpa[hn]using h
   subst e;let⟨ws,⟨o,hw⟩,kr⟩:=S.obj n _ a hn ha;exact⟨ws,.inr ⟨o,hw⟩,kr⟩
  |ins _ _=>simp[hn]at h
def vr(hu:X.A.units+80<fH)(ha:C3 X a f)(hb:C3 X b g)(hs:Xn b:=by exactλ_ _=>rfl):C3 X (.Subscript a b pos) (e2 JD f g):=(ZwA (rg hu) ha hb hs).imp λσ H Q ao=>by
 let⟨ι,M,env,S,E,h⟩:=ao;let⟨d,M1,e1,h⟩:=aA.bind h;let⟨k,M2,e2,h⟩:=aA.bind h;refine⟨ι,M,env,S,E,?_⟩;rw[e1];intro x H1 ι1 x1 S1 r1;refine⟨ι1,M1,env,S1,E.mono x1,?_⟩;rw[e2];intro y H2 ι2 x2 S2 r2;cases d with
 | ref n=>
  simp only[UR]at h;cases hn:jr M2[n]? with
  |none=>simp only[hn]at h;cases h|some kvs=>
   cases hk:gZ k with
   |none=>simp only[hn,hk]at h;cases h|some kk=>
    simp only[hn,hk]at h;cases hv:cD kvs kk with
    |none=>simp only[hv]at h;cases h|some w=>simp only[hv]at h;let⟨ad,ha,rfl⟩:=(r1.mono x2).fD;let⟨ws,hw,kr⟩:=Rm S2 hn ha;have DI:=kr.val kk;rw[hv]at DI;let⟨v,ev,rv⟩:=DI;refine⟨ad,v,rfl,?_,h v H2 ι2 (x1.trans x2) S2 rv⟩;rw[Gd hk r2,<-ev];exact .inl ⟨ws,dk kk,hw,rfl,rfl⟩
 |_=>cases h
def oD{op:D->D->D->c5->R3 D}{Q:VK}(h':aA K H ι Q (e3 op f g h env M)):
  ∃a M1 b M2 c M3,f env M= .ok a M1/\g env M1= .ok b M2/\h env M2= .ok c M3/\aA K H ι Q (op a b c M3):=by
 let⟨a,M1,e1,h'⟩:=aA.bind h';let⟨b,M2,e2,h'⟩:=aA.bind h';let⟨c,M3,e3,h'⟩:=aA.bind h';exact⟨a,M1,b,M2,c,M3,e1,e2,e3,h'⟩
def Z1{D':Ends}(E:b_ K H ι env σ)(h':lM K H ι D' (aG f env M)):aA K H ι (λ_ H'=>D'.nx σ H') (f env M):=by
 unfold aG at h';cases q:f env M with
 |ok d M1=>rw[q]at h';exactλv H1 ι1 x1 S1 r1=>h' σ H1 ι1 x1 S1 (E.mono x1)|exc x M1=>rw[q]at h';exact h'.elim|bad=>rw[q]at h';exact h'.elim
def Zye{i:Expr}(hu:X.A.units+80<fH)(ho:C3 X o f)(hi:C3 X i g)(hv:C3 X e h)(hs:pC e (O<|.Subscript o i ow) pos.line X.env=pure false:=by rfl):CS X (.Assign [.Subscript o i ow] e pos) (QH f g h):=(UA (rg hu) ho hi hv hs).imp λD' σ H ao=>by
 let⟨ι,M,env,S,E,hh⟩:=ao;let⟨d,M1,b,M2,k,M3,e1,e2,e3,hh⟩:=oD<|Z1 E hh;refine⟨ι,M,env,S,E,?_⟩;rw[e1];intro v H1 ι1 x1 S1 r1;refine⟨ι1,M1,env,S1,E.mono x1,?_⟩;rw[e2];intro x H2 ι2 x2 S2 r2;refine⟨ι2,M2,env,S2,(E.mono x1).mono x2,?_⟩;rw[e3];intro y H3 ι3 x3 S3 r3;cases b with
 | ref n=>
  simp only[QD]at hh;cases hn:M3[n]? with
  |none=>simp only[hn]at hh;exact hh.elim|some ob=>
   cases ob with
   |L _=>simp only[hn]at hh;exact hh.elim|dW _=>simp only[hn]at hh;exact hh.elim|ins _ _=>simp only[hn]at hh;exact hh.elim|j3 kvs=>
    cases hk:gZ k with
    |none=>simp only[hn,hk]at hh;exact hh.elim|some kk=>
     simp only[hn,hk]at hh;split at hh
     .rename_i hz;let⟨ad,ha,rfl⟩:=(r2.mono x3).fD;let⟨ws,hw,kr⟩:=S3.obj n _ ad hn ha;let⟨x4,S4⟩:=S3.ZU (.inr<|.inr<|.inl ⟨_,hw⟩) ha<|kr.put (k:=kk)<|(r1.mono x2).mono x3;refine⟨ad,_,rfl,?_,hh .Z _ _ (((x1.trans x2).trans x3).trans x4) S4 i0.Z⟩;rw[Gd hk r3];exact yo.k hw (by rw[kr.length];exact Yy hz kY)
     .exact hh.elim
 |_=>exact hh.elim
end
section
variable {X:Cx} {a b c e o:Expr} {es:pw} {pos p n5 i9:aZ} {f g h:E3} {gl:dg}
def AfE:bY X (.type "int") (rB X.K JL):=bY.imp Zts λxs H Q ao=>by
 let⟨ι,M,ds,S,rd,h⟩:=ao;cases ds with
 |nil=>cases h|cons d ds=>
  cases ds with
  |cons _ _=>cases d<;>cases h|nil=>
   let⟨x,rfl,r⟩:=Gb rd;cases d with
   |int i=>exact .inl ⟨i,by rw[r.int_inv],aA.ok h S i0.int⟩|bl k=>exact .inr ⟨k,by rw[r.iU],aA.ok h S i0.int⟩|_=>cases h
theorem q0{K:Yb}{H:Hp}{ι:l6}:∀{x:h8} {ns:l8} {vs:k6} {us:l5},qI x=O ns->aB K H ι x vs->i3 vs us->IntsAre us ns
 |[],ns,vs,us,h,r,v=>by
  have e:=r.nil_inv;subst e;cases v;have:ns=[]:=by simpa[qI]using h.symm
  subst this;exact .nil
 | .int i::x,ns,vs,us,h,r,v=>by
  let⟨u,Fm,rfl,r1,r2⟩:=r.cons_inv;have e:=r1.int_inv;subst e;cases v with
  | @cons _ z _ ZT rz Z2=>
  let⟨t,rfl⟩:=rz;simp only[qI]at h;cases hx:qI x with
  |none=>rw[hx]at h;cases h|some ms=>
   rw[hx]at h;have:ns=i::ms:=by simpa using h.symm
   subst this;exact .cons i t<|q0 hx r2 Z2
 | .Z::_,_,_,_,h,_,_=>by simp[qI]at h|.bl _::_,_,_,_,h,_,_=>by simp[qI]at h|.str _::_,_,_,_,h,_,_=>by simp[qI]at h|.U _::_,_,_,_,h,_,_=>by simp[qI]at h
 | .cI _::_,_,_,_,h,_,_=>by simp[qI]at h|.ref _::_,_,_,_,h,_,_=>by simp[qI]at h
def Z3{Q:VK}{l:Ys}{x:h8}{ns:l8}(hc:X.calm=true)(I:c9 X c6 σ H s)(sq:dm X.K H l vs)(r:aB X.K H ι x vs)(hx:qI x=O ns)(q:Q (.int ns.sum) H):
  Y5 (aq X.prog X.w) X.A (call (.builtin "sum") [.ref l]) (EP X c6 σ Q) X.xe s:=by
 let⟨c_,rr,pl,zl⟩:=I.list sq;have ia:=q0 hx r rr;let⟨ys,hy⟩:=ia.allInts.items;refine sum_intListG (I.ok.hd hc) (by rw[<-hy];exact pl.isList) λh' tk t' hk=>⟨.int ns.sum,H,I.kept hk,⟨t',?_⟩,q⟩;have e1:ns=ys.toList.map (·.1):=by rw[<-nums_intItems,<-hy];exact(show numsOf c_.toArray.toList=ns from ia.numsOf).symm
 rw[preSum_eq,Aa j0,<-e1]
def Zz1(S:aC K H ι M){a:Ys}(h:(jr M[n]?).isSome=true)(ha:ι[n]?=O a):Xp H a:=by
 cases hn:jr M[n]? with
 |none=>rw[hn]at h;cases h|some kvs=>let⟨ws,hw,_⟩:=Rm S hn ha;exact .inl ⟨ws,hw⟩
def ZvQ{z:V}(kr:cJ K H ι kvs ws)(k:aH)(rd:i0 K H ι d z):i0 K H ι ((cD kvs k).getD d) ((lE ws<|dk k).getD z):=by
 have hv:=kr.val k;cases q:cD kvs k with
 |none=>rw[q]at hv;rwa[hv]|some w=>rw[q]at hv;let⟨v,ev,rv⟩:=hv;rwa[ev]
def Z4{e':Expr}(hu:X.A.units+80<fH)(ho:C3 X o f)(he:C3 X e g)(y4:C3 X e' h)(m:M2 X o "get" n5 e e' i9:=by exact⟨rfl,rfl,rfl,rfl⟩):C3 X (.Call (.Attribute o "get" n5) [e,e'] [] i9) (bA Fo Ba f<|Za g<|Za h Ze):=(ZuL (rg hu) ho he y4 m).imp λσ H Q ao=>by
 let⟨ι,M,env,S,E,hh⟩:=ao;let⟨d,M1,e1,hh⟩:=aA.bind hh;refine⟨ι,M,env,S,E,?_⟩;rw[e1];intro x H1 ι1 x1 S1 r1;cases d with
 | ref n=>
  by_cases hD:(jr M1[n]?).isSome=true
  .simp only[JH,hD,if_true]at hh;let⟨ad,ha,rfl⟩:=r1.fD;let⟨ds,M2,e2,hh⟩:=aA.bind hh;refine⟨ad,rfl,Zz1 S1 hD ha,ι1,M1,env,S1,E.mono x1,?_⟩;cases q:g env M1 with
   |bad=>simp[q]at e2|exc x' M'=>simp[q]at e2|ok b s9=>
    cases q':h env s9 with
    |bad=>simp[q,q']at e2|exc x' M'=>simp[q,q']at e2|ok b' M3'=>
     simp only[Za,q,q',R3.bind,Ze]at e2;cases e2;intro y H2 ι2 x2 S2 r2;refine⟨ι2,s9,env,S2,(E.mono x1).mono x2,?_⟩;rw[q'];intro z H3 ι3 x3 S3 r3;simp only[UZ,QF]at hh;cases hn:jr M2[n]? with
     |none=>simp only[hn]at hh;exact hh.elim|some kvs=>
      cases hk:gZ b with
      |none=>simp only[hn,hk]at hh;exact hh.elim|some kk=>simp only[hn,hk]at hh;let⟨ws,hw,kr⟩:=Rm S3 hn<|x3.pre _ _<|x2.pre _ _ ha;refine⟨lE ws<|dk kk,.inl ⟨ws,dk kk,hw,Gd hk r2,rfl⟩,hh _ H3 ι3 ((x1.trans x2).trans x3) S3<|ZvQ kr kk r3⟩
  .simp only[JH,hD]at hh;exact hh.elim
 |_=>exact hh.elim
end
section
variable {prog:Y8} {w:aX} {A:cC} {E:Yf->Yi->Prop} {s:Yi}
def ZtQ:DP (.type "tuple") (n_ "keys")=pure Yj:=by rw[Vv,Vp];kernel_rfl
set_option maxRecDepth 8000 in
theorem Zo0{a:Ys}{o:aJ}{xs:qB}{k:Nat}{Q:oo->Yi->Prop}(hx:s.heap.get? a=O o)(hc:o.cls= .type "tuple")(xy:o.data= .seq xs k)(hd:o.dict=Yj)(hA:A.handled=Yj)(h:∀h' tk,(∀b u,s.heap.get? b=O u->h'.get? b=O u)->Q Yj {s with heap:=h',toks:=tk}):Y5 (aq prog w) A (Ov (.ref a)<|n_ "keys") Q E s:=by
 let⟨c,j3,dat,sl⟩:=o;simp only at hc xy hd;subst hc xy hd;let⟨hp,g,d,tk,os⟩:=s;have hT:∀tk',(⟨hp,g,d,tk',os⟩:Yi).TypeIs (.ref a) "tuple":=λ_=>⟨_,hx,rfl⟩;have f1:=Mb;have f3:=F.slot_tuple_getattribute.lookup;have f4:=F.slot_tuple_getattribute.bind<|.ref a;have f5:=am_tuple_getattr_none;unfold Ov getAttrBy? getAttrBy
 repeat(any_goals(first|assumption|exact hT _|((with_reducible show Y5 _ _ (call (Value.builtin "tuple.__getattribute__") _ _) _ _ _);refine rF F.slot_tuple_getattribute (hT _) am_entry_tuple_getattribute (F.args_tuple_getattribute_2 _ _) (meets_getattribute_miss_tuple a xs k sl _ _ ZtQ aaE (by rw[qw];decide)) ⟨hx,hA,λh' tk' e sD=>?_⟩)|wp_step))
 let⟨t',u',he⟩:=sD.there;show Y5 _ _ (Od _ _ _ _ _ _ _) _ _ _;unfold Od
 repeat(any_goals(first|assumption|wp_step))
 all_goals exact h _ _ sD.of.keeps
def Rn:entryFor table "dict.update.loop" =O Builtin.«dict.update.loop»:=entryFor_of_tree aaH
def yQ:plainId "dict.update.loop" =true:=by decide +kernel
def Z5(prog:Y8)(w:aX)(h:aF)(v:Yf)(q:Key×Yf):Prop:=∃a o key n,v= .ref a/\h.get? a=O o/\o.cls= .type "tuple" /\o.data= .seq #[key,q.2] n/\(gj prog w).is q.1 key=true
def ZvK{d I ax:Ys}{ps:w8}{res:Yf}(hh:A.in1.handled=Yj)(oq:ax≠I)(Fn:d≠I)(hda:d≠ax)(hl:b9 ps=items.size)(hz:b9 ps<=100000):
  ∀(k i:Nat) (s:Yi) (kvs:w8) {R:vC->Yi->Prop},items.size-i=k->i<=items.size->s.heap.IsTupleIter I ax i->s.heap.IsTuple ax items->s.heap.DictOf (gj prog w) d kvs->b9 kvs<=i ->
   (∀(j:Nat) v q,items[j]?=O v->ps[j]?=O q->Z5 prog w s.heap v q/\v≠ .ref d/\v≠ .ref I) ->
   (∀h' tk,h'.DictOf (gj prog w) d (merged kvs<|ps.drop i)->(∀b o,b≠d->b≠I->s.heap.get? b=O o->h'.get? b=O o)->R (.ok<|.ret res) {s with heap:=h',toks:=tk}) ->
   mV (aq prog w) A (.builtin "dict.update.loop" ⟨[.ref d,.ref I,jo i,res],[]⟩) R s:=by
 have W:=Walks.tuple (prog:=prog) (w:=w) hh I ax oq items;intro k
 induction k with
 |zero=>intro i s kvs R hk hi st U dd Fs hp hR;have y6:i=items.size:=iJ hi c8;subst y6;refine Og Rn ?_;rw[PN yQ _];show Y5 _ A.in1 (ji (.ref I)>>=_) _ _ s;refine Yc<|W.done s _ _ ⟨st,U⟩ λh' tk kk=>?_;show Y5 _ A.in1 (Pf d []>>=_) _ _ _;refine Yc (Yo<|Yo<|hR h' tk ?_ λb o hb hI e=>kk b o (by simpa using hI) e);rw[MS<|xX hl];let⟨o,es,ep,ho,r⟩:=dd;exact⟨o,es,ep,kk d o (by simpa using Fn) ho,r⟩|succ k ih=>
  intro i s kvs R hk hi st U dd Fs hp hR;have n9:i<items.size:=by omega
  have hv:items[i]?=O items[i]:=by simp[n9]
  have hq:ps[i]?=O (ps[i]'(by omega)):=by simp[show i<b9 ps by omega]
  refine Og Rn ?_;rw[PN yQ _];show Y5 _ A.in1 (ji (.ref I)>>=_) _ _ s;refine Yc<|W.item i s _ _ n9 ⟨st,U⟩ λv h1 tk1 hP DT Ge=>?_;rw[hv]at hP;cases hP;let⟨⟨a,o,key,n,ev,ho,hc,hd,vw⟩,nd,ZuP⟩:=hp i _ _ hv hq;have haI:a≠I:=λz=>ZuP (by rw[ev,z]);have had:a≠d:=λz=>nd (by rw[ev,z]);have xA:h1.get? a=O o:=Ge a o (by simpa using haI) ho;have Z6:h1.DictOf (gj prog w) d kvs:=by let⟨o',es,ep,qf,r⟩:=dd;exact⟨o',es,ep,Ge d o' (by simpa using Fn) qf,r⟩
  rw[ev];generalize ps[i]'(by omega)=q at hq vw hd;dsimp only;refine Yc<|pB<|Yc<|wpAny_tryCatch ?_;unfold Pm;refine Yc<|zW (T:="tuple") ⟨o,xA,hc⟩ ?_;rw[f_ aaE];refine Yc ?_;unfold Ot;refine Yc<|VN xA ?_;rw[hd];refine Yo<|Yo ?_;show Y5 _ A.in1 (z8 [key,q.2]<|dictSet d key q.2) _ _ _;refine pB (L9 vw Z6 (λh2 yA sb=>?_) (by rw[qw];omega));refine Yo ⟨Oj yQ _,?_⟩;show mV (aq prog w) A (.builtin "dict.update.loop" ⟨[.ref d,.ref I,jo<|(i:Int)+1,res],[]⟩) R _;have e1:((i:Int)+1)=((i+1:Nat):Int):=rfl;rw[e1];have k2:∀b u,b≠d->b≠I->s.heap.get? b=O u->h2.get? b=O u:=λb u hb hI e=>(sb.2 b hb).trans (Ge b u (by simpa using hI) e);refine ih (i+1) _ (vD kvs q.1 q.2) (iJ c8 c8) n9 ?_ ?_ yA ?_ ?_ ?_
  .let⟨o',e',r⟩:=DT.1;exact⟨o',(sb.2 I<|cF Fn).trans e',r⟩
  .let⟨o',e',r⟩:=DT.2;exact⟨o',(sb.2 ax<|cF hda).trans e',r⟩
  .have:=(show(vD kvs q.1 q.2).length<=b9 kvs+1 from by unfold vD;split <;>simp);omega
  .intro j v q' hj AJ;let⟨⟨a',o',Fu,n',FA,qf,r⟩,H9,ya⟩:=hp j v q' hj AJ;exact⟨⟨a',o',Fu,n',FA,k2 a' o' (λz=>H9<|by rw[FA,z]) (λz=>ya<|by rw[FA,z]) qf,r⟩,H9,ya⟩
  .intro h' tk oF BK;refine hR h' tk ?_ λb u hb hI e=>BK b u hb hI<|k2 b u hb hI e;have hq2:ps.drop i=q::ps.drop (i+1):=by rw[z_ c8];congr 1;rw[Y0 c8]at hq;exact Y9 hq
   rwa[hq2]
def Zqg{ax:Ys}{ps:w8}(hA:A.handled=Yj)(ht:qD s.heap ax items)(hl:b9 ps=items.size)(hz:b9 ps<=100000)(hp:∀(j:Nat) v q,items[j]?=O v->ps[j]?=O q->Z5 prog w s.heap v q)(h:∀h' tk,h'.DictOf (gj prog w) (d4 s) (merged [] ps)->(∀b o,s.heap.get? b=O o->h'.get? b=O o)->Q (.ref<|d4 s) {s with heap:=h',toks:=tk}):
  Y5 (aq prog w) A (call (.type "dict") [.ref ax]) Q E s:=by
 let⟨o,ho,⟨hc,hdn⟩,n,xy⟩:=id ht;have n9:ax<d4 s:=Yw ho;refine callType_codes (Q₁:=λobj s₁=>obj= .ref (d4 s)/\s₁={s with heap:=s.heap.push {cls:=.type "dict",data:=.dict #[]}}) OU (OO _) OS (ME _ ⟨rfl,rfl⟩) ?_;rintro obj s₁ ⟨rfl,rfl⟩;have s_:(s.heap.push {cls:=.type "dict",data:=.dict #[]}).DictOf (gj prog w) (d4 s) []:=WN s.heap;have xB:∀b u,s.heap.get? b=O u->(s.heap.push {cls:=.type "dict",data:=.dict #[]}).get? b=O u:=λb u q=>Yl _ q;refine⟨s_.typeIs,OR _ _,?_⟩;unfold Builtin.«dict.__init__»;refine Yc ?_;unfold Pl;refine Yc<|L7 s_.typeIs ?_;show Y5 _ _ (pure (d4 s,[Value.ref ax])) _ _ _;refine Yo ?_;show Y5 _ _ (PL "dict.__init__" (d4 s) (.ref ax) [] .none) _ _ _;unfold PL;refine Yc<|zW (T:="tuple") ⟨o,xB _ _ ho,hc⟩ ?_;rw[f_ aaE];refine Yc<|Zo0 (xB _ _ ho) hc xy hdn hA λh2 tk2 k2=>?_;simp only[LM,if_true];refine Yc<|z6 ?_;have d2:h2.DictOf (gj prog w) (d4 s) []:=by let⟨o',es,ep,qf,r⟩:=s_;exact⟨o',es,ep,k2 _ _ qf,r⟩
 have t2:h2.IsTuple ax items:=⟨o,k2 _ _<|xB _ _ ho,hc,n,xy⟩;have l2:d4 s<h2.objs.size:=by let⟨o',_,_,qf,_⟩:=d2;exact Yw qf
 refine Yc<|Dz t2 ?_;have k3:∀b u,h2.get? b=O u->(h2.push {cls:=.type "tuple_iterator",data:=.fields #[.ref ax,.int 0 0]}).get? b=O u:=λb u q=>Yl _ q;have t3:(h2.push {cls:=.type "tuple_iterator",data:=.fields #[.ref ax,.int 0 0]}).IsTuple ax items:=by let⟨o',e',r⟩:=t2;exact⟨o',k3 _ _ e',r⟩
 have d3:(h2.push {cls:=.type "tuple_iterator",data:=.fields #[.ref ax,.int 0 0]}).DictOf (gj prog w) (d4 s) []:=by let⟨o',es,ep,qf,r⟩:=d2;exact⟨o',es,ep,k3 _ _ qf,r⟩
 refine Yo ⟨Oj yQ _,ZvK (prog:=prog) (w:=w) (A:=A.in1) (ax:=ax) (items:=items) (ps:=ps) hA (eE<|j4 n9 l2) (eE l2) (rK n9) hl hz items.size 0 _ [] (iJ ((Wk _ _)) c8) (dY _) ⟨_,Y6 _ aaD,rfl,rfl⟩ t3 d3 (dY _) (λj v q hj hq=>?_) λh' tk oF BK=>?_⟩
 .let⟨a,o',key,n',ev,qf,r⟩:=hp j v q hj hq;have B1:a<d4 s:=Yw qf;refine⟨⟨a,o',key,n',ev,k3 _ _<|k2 _ _<|xB _ _ qf,r⟩,λz=>?_,λz=>?_⟩
  .rw[ev]at z;injection z with z;exact oz B1 (by rw[z];exact pG _)
  .rw[ev]at z;injection z with z;exact oz (j4 B1 l2) (by rw[z];exact pG _)
 .refine⟨rfl,h h' tk oF λb u q=>BK b u (eE<|Yw q) (eE<|j4 (Yw q) l2)<|k3 _ _<|k2 _ _<|xB _ _ q⟩
end
section
variable {X:Cx}
def gh{x:h8}(h:kJ (d::x)=O l):∃a b k l',d= .U [a,b]/\gZ a=O k/\kJ x=O l'/\l=(k,b)::l':=by
 cases d with
 | U ds=>cases ds with
  |nil=>exact e_ h|cons a ds=>cases ds with
   |nil=>exact e_ h|cons b ds=>cases ds with
    |cons _ _=>exact e_ h|nil=>
     have h:(match gZ a with|some k=>(kJ x).map λl=>(k,b)::l|none=>Yj)=O l:=h;cases hk:gZ a with
     |none=>rw[hk]at h;exact e_ h|some k=>
      rw[hk]at h;cases hx:kJ x with
      |none=>rw[hx]at h;exact e_ h|some l'=>rw[hx]at h;exact⟨a,b,k,l',rfl,hk,rfl,(Y9 h).symm⟩
 |_=>exact e_ h
def Z7(X:Cx)(H:Hp)(s:Yi)(ι:l6)(l:l9)(us:l5):Prop:=∃(ws:sv) (ps:w8),cJ X.K H ι l ws/\KV ws ps/\ps.length=b9 us/\∀(j:Nat) v q,us[j]?=O v->ps[j]?=O q->Z5 X.prog X.w s.heap v q
def ZqW(I:c9 X c6 σ H s){a b:D}{k:aH}{u:V}{z:Yf}{us:l5}(hk:gZ a=O k)(r:i0 X.K H ι (.U [a,b]) u)(rz:i5 u z)(h:Z7 X H s ι l us):Z7 X H s ι ((k,b)::l) (z::us):=by
 let⟨ws,ps,kr,kv,lp,hp⟩:=h;let⟨ad,xs,eu,sq,rr⟩:=r.jf;rw[eu]at rz;let⟨nI',ys,rfl,ra,rr⟩:=rr.cons_inv;let⟨Zpb,ys,rfl,rb,rr⟩:=rr.cons_inv;rw[rr.nil_inv]at sq;let⟨c_,rv,⟨o,ho,hc,n,hd⟩,_⟩:=I.tuple sq;cases rv with
 | @cons _ u1 _ _ q1 rv=>
 cases rv with
 | @cons _ u2 _ _ q2 rv=>
 cases rv
 refine⟨(dk k,Zpb)::ws,(dk k,u2)::ps,cJ.cons rb kr,.cons ⟨rfl,q2⟩ kv,congrArg Nat.succ lp,λj v q hj hq=>?_⟩;cases j with
 |zero=>rw[<-Y9 hj,<-Y9 hq];exact⟨ad,o,u1,n,rz,ho,hc,hd,Ey<|by rwa[<-Gd hk ra]⟩|succ j=>exact hp j v q hj hq
def pairs_at(I:c9 X c6 σ H s){x:h8}{us:l5}(h:kJ x=O l)(r:aB X.K H ι x vs)(v:i3 vs us):Z7 X H s ι l us:=by
 induction x generalizing l vs us with
 |nil=>rw[r.nil_inv]at v;cases v;rw[<-Y9 h];exact⟨[],[],cJ.nil,.nil,rfl,λj v q h=>e_ h⟩|cons d x ih=>
  let⟨a,b,k,l',ed,hk,hx,el⟩:=gh h;let⟨u,Fm,ev,r1,r2⟩:=r.cons_inv;rw[ev]at v;rw[ed]at r1;rw[el];cases v with
  |cons rz Z2=>exact ZqW I hk r1 rz<|ih hx r2 Z2
def Zy7(hc:X.calm=true):bY X (.type "dict") (rB X.K Fp):=by
 intro c6 s σ H xs us Q I rs ⟨ι,M,ds,S,rd,h⟩;cases ds with
 |nil=>cases h|cons d ds=>
  cases ds with
  |cons _ _=>cases d<;>cases h|nil=>
   let⟨x,rfl,r⟩:=Gb rd;let⟨u,rfl,ru⟩:=vals1 rs;cases d with
   | ref n=>
    cases hn:jr M[n]? with
    |none=>rw[QG,hn]at h;cases h|some kvs=>simp only[QG,XD,hn]at h;let⟨a,ha,rfl⟩:=r.fD;cases ru;let⟨ws,hw,kr⟩:=Rm S hn ha;refine Zwb I hw λp s' hp I'=>⟨.ref p,_,I',rfl,?_⟩;let⟨x2,S2,r2⟩:=S.j3 hp kr;exact h _ _ _ x2 S2 r2
   | U z=>
    simp only[QG,XD]at h;cases hp:kJ z with
    |none=>rw[hp]at h;cases h|some l=>
     rw[hp]at h;dsimp only at h;split at h
     .rename_i hz;let⟨a,vs,rfl,sq,rr⟩:=r.jf;cases ru;let⟨c_,rv,ht,_⟩:=I.RC sq;let⟨ws,ps,kr,kv,lp,hpp⟩:=pairs_at I hp rr rv;have hl:b9 ps=b9 l:=by rw[<-kv.length,kr.length]
      refine Zqg (ps:=ps) (I.ok.hd hc) ht (by simpa using lp) (by rwa[hl]) (λj v q hj hq=>hpp j v q (by simpa using hj) hq) λh' tk dd kk=>⟨.ref<|d4 s,k4 H (d4 s)<|.dK<|Ar [] ws,?_,rfl,?_⟩
      .have hm:=kv.merge (kvs:=[]) (vs:=[]) .nil;refine I.laid kk (Yn _)<|Qv ?_ (beq_eq_false_iff_ne.mpr<|cF<|eE I.big) hm dd;have h1:=Xo ws [];rw[gw]at h1;rw[qw];have:=kr.length;omega
      .let⟨x2,S2,r2⟩:=S.j3 (I.kb.fresh<|Yn _)<|cJ.merge (kvs:=[]) (ws:=[]) kr cJ.nil;exact h _ _ _ x2 S2 r2
     .exact h.elim
   |_=>cases h
end
def BP{xn:rq}:nD X xn oG:=λ_ _ _ _ _ _ ⟨_,_,_,_,_,h⟩=>h.elim
section
variable {X:Cx} {o e:Expr} {es:pw} {n5 i9:aZ} {f:E3} {gl:dg}
theorem aB.erase:∀{ds:h8} {vs:k6} (i:Nat),aB K H ι ds vs->aB K H ι (ds.eraseIdx i) (vs.eraseIdx i)
 |[],_,_,h=>by rw[h.nil_inv];exact aB.nil|d::ds,_,0,h=>by let⟨v,us,rfl,r,t⟩:=h.cons_inv;exact t|d::ds,_,i+1,h=>by let⟨v,us,rfl,r,t⟩:=h.cons_inv;exact aB.cons r<|t.erase i
def aB.dropLast(r:aB K H ι ds vs):aB K H ι ds.dropLast vs.dropLast:=by rw[V4,V4,r.length];exact r.take _
def AfF:pM X "list.pop" (rM X.K vZ):=pM.imp (r:=λx xs H Q=>TB x xs H Q\/Tx x xs H Q) (λc6 s σ H x xs v us Q I rx rs q=>q.elim (ZuK c6 s σ H x xs v us Q I rx rs)<|ZzJ c6 s σ H x xs v us Q I rx rs) λx xs H Q ao=>by
 let⟨ι,M,a,ds,S,ra,rd,h⟩:=ao;cases a with
 | ref n=>
  cases ds with
  | nil=>
   simp only[UY,Xy]at h;cases hn:M[n]? with
   |none=>simp only[hn]at h;cases h|some ob=>
    cases ob with
    |j3 _=>simp only[hn]at h;cases h|dW _=>simp only[hn]at h;cases h|ins _ _=>simp only[hn]at h;cases h|L z=>
     simp only[hn]at h;cases hx:z[z.length-1]? with
     |none=>simp only[hx]at h;cases h|some d=>simp only[hx]at h;let⟨p,hp,rfl⟩:=ra.fD;have:=rd.nil_inv;subst this;let⟨vs,e,rv⟩:=S.obj n _ p hn hp;let⟨y,hy,ry⟩:=rv.get hx;let⟨x2,S2⟩:=S.zO (.inr<|.inl ⟨_,e⟩) hp rv.dropLast;exact .inr ⟨p,vs,y,rfl,rfl,e,by rwa[rv.length],h _ _ _ x2 S2<|ry.mono x2⟩
  | cons d ds=>
   cases ds with
   |cons _ _=>cases d<;>cases h|nil=>
    cases d with
    | int i=>
     simp only[UY,Xy]at h;cases hn:M[n]? with
     |none=>simp only[hn]at h;cases h|some ob=>
      cases ob with
      |j3 _=>simp only[hn]at h;cases h|dW _=>simp only[hn]at h;cases h|ins _ _=>simp only[hn]at h;cases h|L z=>
       simp only[hn]at h;by_cases hb:-1000000<=i/\i<=1000000
       .rw[f_ hb]at h;cases hk:pO z.length i with
        |none=>simp only[hk]at h;cases h|some k=>
         simp only[hk]at h;cases hx:z[k]? with
         |none=>simp only[hx]at h;cases h|some d=>simp only[hx]at h;let⟨p,hp,rfl⟩:=ra.fD;let⟨v,ws,rfl,r1,r2⟩:=rd.cons_inv;have:=r2.nil_inv;subst this;have:=r1.int_inv;subst this;let⟨vs,e,rv⟩:=S.obj n _ p hn hp;let⟨y,hy,ry⟩:=rv.get hx;let⟨x2,S2⟩:=S.zO (.inr<|.inl ⟨_,e⟩) hp<|rv.erase k;let⟨q1,q2,q3,q4⟩:=SI (n:=z.length) (i:=i) (j:=k) hk;exact .inl ⟨p,vs,i,k,y,rfl,rfl,e,c8,c8,by rwa[rv.length],hy,h _ _ _ x2 S2<|ry.mono x2⟩
       .rw[i6 hb]at h;cases h
    |_=>cases h
 |_=>cases ds<;>cases h
end
section
variable {X:Cx} {a b c e o:Expr} {es:pw} {pos p n5 i9:aZ} {f g h:E3} {gl:dg}
def ZmG:bY X (.type "int") (λxs H Q=>∃x n,xs=[.str x]/\intText? x=O n/\x.length<=640/\Q (.int n) H):=by intro c6 s σ H xs us Q I r h;let⟨x,n,rfl,hn,hz,q⟩:=h;let⟨u,rfl,t,rfl⟩:=vals1 r;exact PySem.W.KIN.call_text hn hz ⟨.int n,H,I.tok _,⟨_,rfl⟩,q⟩
def P':bY X (.type "int") (rB X.K v7):=bY.imp (bY.or AfE ZmG) λxs H Q ao=>by
 let⟨ι,M,ds,S,rd,h⟩:=ao
 match ds,rd,h with
 | [.str x],rd,h=>
  let⟨v,rfl,r⟩:=Gb rd;simp only[Zvh,Zul]at h;cases hn:Vw ⟨pd x⟩with
  |none=>rw[hn]at h;cases h|some n=>
   rw[hn]at h;dsimp only at h;split at h
   .rename_i hz;exact .inr ⟨_,n,by rw[r.str_inv],hn,by simpa[t7]using hz,aA.ok h S i0.int⟩
   .exact h.elim
 |[],rd,h=>cases h|[.int i],rd,h=>exact .inl ⟨ι,M,_,S,rd,h⟩|[.bl i],rd,h=>exact .inl ⟨ι,M,_,S,rd,h⟩|[.Z],rd,h=>cases h
 |[.U _],rd,h=>cases h|[.cI _],rd,h=>cases h|[.ref _],rd,h=>cases h|.str _::_::_,rd,h=>cases h
 | .int _::_::_,rd,h=>cases h|.bl _::_::_,rd,h=>cases h|.Z::_::_,rd,h=>cases h|.U _::_::_,rd,h=>cases h
 | .cI _::_::_,rd,h=>cases h|.ref _::_::_,rd,h=>cases h
end
def AfG(K:Yb)(H:Hp)(ι:l6)(it:Be)(J:It):Prop:=∀(i:Nat) H2 ι2 M2,k7 K H ι H2 ι2->aC K H2 ι2 M2->kW it.lk M2=true ->
 (∀d,it.items[i]?=O d->J.go i H2/\∀x H3,J.Qf i H2 x H3->k7 K H2 ι2 H3 ι2/\aC K H3 ι2 M2/\i0 K H3 ι2 d x)/\(i=b9 it.items->J.stop i H2)
def Ke(K:Yb)(H:Hp)(ι:l6)(R:It->Hp->Prop)(r:R3 Be):Prop:=match r with
 | .ok it M'=>∀J H' ι',k7 K H ι H' ι'->aC K H' ι' M'->AfG K H' ι' it J->R J H'|_=>False
def tIL(K:Yb)(g:yD):TI:=λσ H R=>∃ι M env,aC K H ι M/\b_ K H ι env σ/\Ke K H ι R (g env M)
def y0(X:Cx)(tg e:Expr)(g:yD):Prop:=PI X tg e<|tIL X.K g
def Ke.bind{Q:It->Hp->Prop}{r:R3 α}{k:α->c5->R3 Be}(h:Ke K H ι Q (r.bind k)):∃a M,r= .ok a M/\Ke K H ι Q (k a M):=by
 cases r with
 |ok a M=>exact⟨a,M,rfl,h⟩|exc x M=>cases h|bad=>cases h
section
variable {X:Cx} {tg:Expr} {pos:aZ}
def Ro{iter:Expr}{body:rq}{i:yD}{g:G3}{u:S3}(Br:X.xe=λ_ _=>False)(hc:X.calm=true)(hi:y0 X tg iter i)(hg:CG X tg g)(hb:nD X body u)(hs:∀x,zT iter X.env x=pure x:=by intro _;rfl):
  CS X (.For tg iter body [] pos) (yE i g u):=(W6 (by rw[Br];exact WP) hc hi hg hb hs).imp λD σ H ao=>by
 let⟨ι,M,env,S,E,h⟩:=ao;unfold yE at h;cases q:i env M with
 |exc x M1=>rw[q]at h;cases h|bad=>rw[q]at h;cases h|ok it M1=>
  rw[q]at h;refine⟨ι,M,env,S,E,?_⟩;rw[q];intro J H1 ι1 x1 S1 ok;refine⟨λi m σ2 H2=>m=b9 it.items-i/\i<=b9 it.items/\∃ι2 M2 fG,k7 X.K H1 ι1 H2 ι2/\aC X.K H2 ι2 M2/\b_ X.K H2 ι2 fG σ2/\lM X.K H2 ι2 D (ju it.lk g u (it.items.drop i) fG M2),
   ⟨_,rfl,dY _,ι1,M1,env,k7.refl,S1,E.mono x1,lM.up x1 h⟩,?_⟩
  rintro i m σ2 H2 ⟨rfl,hi,ι2,M2,fG,x2,S2,E2,h2⟩;by_cases n9:i<it.items.length
  .have hd:it.items[i]?=O it.items[i]:=by simp[n9]
   rw[z_ n9]at h2
   first|rw[Fx]at h2|rw[Fw]at h2
   by_cases lk:kW it.lk M2=true
   .rw[f_ lk]at h2;let⟨go,yl⟩:=(ok i H2 ι2 M2 x2 S2 lk).1 _ hd;cases eg:g it.items[i] fG with
    |none=>rw[eg]at h2;exact h2.elim|some rA=>
     rw[eg]at h2;refine .inr ⟨go,λσ' H'=>∃ι3 M3 jK,k7 X.K H2 ι2 H' ι3/\aC X.K H' ι3 M3/\b_ X.K H' ι3 jK σ'/\lM X.K H' ι3 D (ju it.lk g u (it.items.drop<|i+1) jK M3),
      λσ' H' ⟨ι3,M3,jK,x3,S3,E3,h3⟩=>⟨b9 it.items-(i+1),c8,rfl,n9,ι3,M3,jK,x2.trans x3,S3,E3,h3⟩,λx H' hy=>?_⟩
     let⟨x7,S7,rx⟩:=yl x H' hy;refine⟨ι2,M2,fG,_,rA,S7,E2.mono x7,rx,eg,λσ' E'=>⟨ι2,M2,rA,S7,E',?_⟩⟩;have wo:=lM.up x7 h2;cases qu:u rA M2 with
     |nx e' M'=>simp only[qu]at wo;exactλσ' H' ι' x' S' E'=>⟨ι',M',e',x7.trans x',S',E',wo.up x'⟩|ct e' M'=>simp only[qu]at wo;exactλσ' H' ι' x' S' E'=>⟨ι',M',e',x7.trans x',S',E',wo.up x'⟩|bk e' M'=>simp only[qu]at wo;exact wo|rt d M'=>simp only[qu]at wo;exact wo
     |exc x' M'=>simp only[qu]at wo;exact wo.elim|bad=>simp only[qu]at wo;exact wo.elim
   .rw[i6 lk]at h2;exact h2.elim
  .have e0:i=b9 it.items:=iJ hi<|tY n9;subst e0;rw[IV]at h2
   first|rw[Fx]at h2|rw[Fw]at h2
   by_cases lk:kW it.lk M2=true
   .rw[f_ lk]at h2;exact .inl ⟨(ok _ H2 ι2 M2 x2 S2 lk).2 aaD,h2 σ2 H2 ι2 k7.refl S2 E2⟩
   .rw[i6 lk]at h2;exact h2.elim
end
def _root_.L2.c9.UT{h':aF}{t':Nat}(I:c9 X c6 σ H s)(k:∀b o,b∉fp->s.heap.get? b=O o->h'.get? b=O o)(hf:∀b∈fp,iK X c6 H b):
  c9 X c6 σ H {s with heap:=h',toks:=t'}:=by
 have Jj:∀b u,H b=O u->b∉fp:=λb u e z=>by rw[(hf b z).1]at e;cases e
 refine I.step (g':=s.gens) (d':=s.drawn) (ch:=fp) (λb hb=>⟨(hf b hb).2.2.2.1,(hf b hb).2.1,(hf b hb).2.2.2.2.1,(hf b hb).2.2.2.2.2⟩) (λb o _ _ hc e _=>k b o hc e) (λb o _ _ hc e _=>⟨o.slots,k b o hc e⟩) (λ_ _ _ _ n=>n)
  (λb o hc e=>⟨o,k b o hc e⟩) (λ_ _ e=>e) (λ_ _ _ e=>e) (λb ps e=>⟨#[],by rw[e];simp⟩) (λm hm=>?_) (λb u e=>?_) I.bare
 .let⟨o,es,ep,ho,r⟩:=hm;exact⟨o,es,ep,k _ o (λz=>(hf _ z).2.1 aaD) ho,r⟩
 .refine(I.kb b u e).rV (λc v hc q=>k c v ?_ q) (λ_ q=>q) λ_ _ q=>q;rcases hc with z|z
  .rw[z];exact Jj b u e
  .exact Jj c _ z
def DU(S:Hp->k6->Prop):It:=⟨λi H=>∃xs x,S H xs/\xs[i]?=O x,λi H x H'=>∃T y,x= .ref T/\H T=Yj/\H'=k4 H T (.U [.int i,y])/\∀xs,S H xs->xs[i]?=O y,λi H=>∃xs,S H xs/\xs.length<=i⟩
def z0{h' B2:aF}{e it:Ys}{i:Nat}{x:V}{tk tk':Nat}(I:c9 X c6 σ H s)(hf:∀b∈[e,it],iK X c6 H b)(he:e<d4 s)(hi:it<d4 s)(ru:i5 x u)(hT:h'.get? (d4 s)=O {cls:=.type "tuple",data:=.seq #[.int i tk,u]})(hk:∀b o,b≠e->b≠it->s.heap.get? b=O o->h'.get? b=O o)(hs:Ah e h' B2):
  c9 X c6 σ (k4 H (d4 s)<|.U [.int i,x]) {s with heap:=B2,toks:=tk'}/\∀b∈[e,it],k4 H (d4 s) (.U [.int i,x]) b=Yj:=by
 have hn:∀b∈[e,it],k4 H (d4 s) (.U [.int i,x]) b=Yj:=λb hb=>by
  have:b≠d4 s:=by
   simp only[Yt,vK,or_false]at hb;rcases hb with rfl|rfl
   .exact eE he
   .exact eE hi
  rw[eF this];exact(hf b hb).1
 refine⟨?_,hn⟩;have I1:c9 X c6 σ (k4 H (d4 s)<|.U [.int i,x]) {s with heap:=s.heap.push {cls:=.type "tuple",data:=.seq ([.int i tk,u]:l5).toArray},toks:=s.toks}:=I.laid (t':=s.toks) (λb o e=>Yl _ e) (Yn _) (show gC X.prog X.w _ _ _ (.U [.int i,x])from⟨by rw[qw];show 2<=_;decide,[.int i tk,u],.cons ⟨tk,rfl⟩<|.cons ru .nil,qD.new _ _⟩);have I3:=I1.UT (t':=tk') (h':=B2) (fp:=[e,it]) (λb o hb q=>by
  have yf:b≠e:=λz=>hb (by simp[z]);have hbi:b≠it:=λz=>hb (by simp[z]);rcases Heap.get?_push_cases q with⟨rfl,rfl⟩|q
  .exact(hs.2 _<|rK he).trans hT
  .exact(hs.2 _ yf).trans (hk b o yf hbi q)) λb hb=>⟨hn b hb,(hf b hb).2⟩
 exact I3
def ZqJ{P:Y8}{es:pw}{k:Nat}{pos:aZ}(a e it:Ys)(oq:e≠it):
  Turn P w K (.Tuple es k pos) (DU λH xs=>dm K H a xs) [e,it] e (λi h=>(∃old,IsEnum h e it i old)/\h.IsListIter it a i)where
 mem:=by simp
 obj:=λi h st b hb=>by
  let⟨⟨old,he⟩,o,ho,c,d⟩:=st;simp only[Yt,vK,or_false]at hb;rcases hb with rfl|rfl
  .exact⟨_,he,λv z=>by cases z⟩
  .exact⟨o,ho,λv z=>by rw[d]at z;cases z⟩
 keep:=λi h h' st k=>by let⟨⟨old,he⟩,qV⟩:=st;exact⟨⟨old,k e j0 _ he⟩,qV.at λo q=>k it j0 o q⟩
 item:=by
  intro X hP hw hK hc i c6 s σ H E I hf st hg;subst hP hw hK;let⟨xs,x,hq,hx⟩:=hg;let⟨c_,rv,p,hz⟩:=I.list hq;let⟨u,hu,ru⟩:=rv.get hx;let⟨⟨old,he⟩,qV⟩:=st;have A9:=Yw he;have Bi:it<d4 s:=by let⟨o,ho,_⟩:=id qV;exact Yw ho
  refine wpAny_pyNext_enum_item he qV p.isList (x:=u) (by simpa using hu) oq λh' ho AV hT hsz hk=>?_;refine⟨_,rfl,L1 (s:={s with heap:=h',toks:=s.toks+1}) ho λB2 Va uk=>?_⟩;let⟨I2,n2⟩:=z0 (x:=x) (tk':=s.toks+1) I hf A9 Bi ru hT hk uk;exact⟨.ref<|d4 s,_,I2,rfl,⟨_,x,rfl,I.kb.fresh<|Yn _,rfl,λys hy=>by rwa[I.RA hy hq]⟩,⟨⟨_,by simpa using Va⟩,AV.extBut uk.extBut<|cF oq⟩,n2⟩
 done:=by intro X hP hw hK hc i c6 s σ H E I hf st hg;subst hP hw hK;let⟨xs,hq,hx⟩:=hg;let⟨c_,rv,p,hz⟩:=I.list hq;let⟨⟨old,he⟩,qV⟩:=st;have hl:=rv.length;exact wpAny_pyNext_enum_end (I.ok.hd hc) he qV p.isList oP λh' eb=>⟨rfl,I.UT (t':=s.toks) (λb o hb q=>eb b o (λz=>hb<|by simp[z]) q) hf⟩
 self:=λ_ _ _ _ _ st h=>by let⟨⟨old,he⟩,_⟩:=st;exact Oe he h
def boot_enumerate:j_ "enumerate" =O (.type "enumerate"):=by decide +kernel
open AutoSeq1 (wpAny_loadPart')
set_option maxRecDepth 100000
section
variable {prog:Y8} {w:aX} {A:cC} {E:Yf->Yi->Prop} {s:Yi}
def u0{it t:Ys}{i:Nat}{x:Yf}(qV:s.heap.IsTupleIter it t i)(ht:s.heap.IsTuple t items)(hx:items[i]?=O x)(hQ:∀h',h'.IsTupleIter it t (i+1)->Ah it s.heap h'->Q x {s with heap:=h'}):Y5 (aq prog w) A (n6<|.ref it) Q E s:=by
 let⟨o,ho,hc,hd⟩:=id qV;let⟨ol,As,_,nl,DV⟩:=ht;unfold n6;refine Yc (vh (name:=n_ "__next__") qV.typeIs DF
  (vz DF qV.typeIs N4 ?_<|Of _))
 show Y5 _ _ (nW (.ref it) 0>>=_) _ _ s;refine Yc<|gQ ho hd (x:=.ref t) aaD ?_;show Y5 _ _ (if(Value.ref t==Value.none)=true then _ else _) _ _ s;rw[i6 (show¬((Value.ref t==Value.none)=true)from lZ)];show Y5 _ _ (nW (.ref it) 1>>=_) _ _ s;refine Yc<|gQ ho hd (x:=.int i 0) aaD ?_;show Y5 _ _ (Ot (.ref t)>>=_) _ _ s;refine Yc<|tM As DV ?_;simp only[t6,hx];refine Yc<|DK ho hd j0<|Yo ⟨x,rfl,Yo<|hQ _ ?_<|P8 ..⟩;exact⟨_,O6 _ ho<|Pr<|Ak hd _,(OX ..).trans hc,by rw[Ak hd];simp[jo]⟩
def Z8{it t:Ys}{i:Nat}(hh:A.handled=Yj)(qV:s.heap.IsTupleIter it t i)(ht:s.heap.IsTuple t items)(hx:items[i]?=Yj)(hE:∀h' e,Heap.ExtBut it s.heap h'->(∃o,h'.get? e=O o/\o.cls= .type "StopIteration")->E (.ref e) {s with heap:=h'}):Y5 (aq prog w) A (n6<|.ref it) Q E s:=by
 let⟨o,ho,hc,hd⟩:=id qV;let⟨ol,As,_,nl,DV⟩:=ht;unfold n6;refine Yc (vh (name:=n_ "__next__") qV.typeIs DF
  (vz DF qV.typeIs N4 ?_<|Of _))
 show Y5 _ _ (nW (.ref it) 0>>=_) _ _ s;refine Yc<|gQ ho hd (x:=.ref t) aaD ?_;show Y5 _ _ (if(Value.ref t==Value.none)=true then _ else _) _ _ s;rw[i6 (show¬((Value.ref t==Value.none)=true)from lZ)];show Y5 _ _ (nW (.ref it) 1>>=_) _ _ s;refine Yc<|gQ ho hd (x:=.int i 0) aaD ?_;show Y5 _ _ (Ot (.ref t)>>=_) _ _ s;refine Yc<|tM As DV ?_;simp only[t6,hx];refine Yc<|z6<|Yc<|DK ho hd j0 ?_;show Y5 _ _ (newExc (.type "StopIteration") []>>=_) _ _ _;refine Yc ?_;simp only[newExc,newTuple];refine Yc (vp ?_<|by size_fits);refine Yc (m:=firstArgMember _ _) (wpAny_of_eq (a:=Value.none) (by first|rfl|(simp only[firstArgMember];rfl)) ?_);refine vp ?_ (by size_fits);simp only[raiseNew];refine Yc (wpAny_handled ?_)
 first|rw[show A.in1.handled=Yj from hh]|rw[hh]
 refine Yc<|Yo<|VF ?_;exact hE _ _ (((P8 ..).extBut.push _).push _) ⟨_,Y6 _ aaD,rfl⟩
end
def ZoL{prog:Y8}(hh:A.handled=Yj)(it l:Ys)(oq:l≠it)(items:qB):
  Draws prog w A it [it,l] items.size (λi v=>items[i]?=O v) (λi h=>h.IsTupleIter it l i/\h.IsTuple l items)where
 live:=λ_ _ st=>let⟨o,ho,_⟩:=st.1;⟨o,ho⟩
 frame:=λ_ _ _ st hk=>⟨st.1.at λo e=>hk it j0 o e,st.2.at λo e=>hk l j0 o e⟩
 item:=λi s Q E hi st hQ=>by refine u0 st.1 st.2 (x:=items[i]) (by simp[hi]) λh' AV vS=>?_;exact hQ _ h' s.toks (by simp[hi]) ⟨AV,st.2.extBut vS.extBut oq⟩ vS
 done:=λs Q E st hE=>Z8 hh st.1 st.2 j0 hE
def ZhK(l:Ys)(items:qB)(n:Nat)(j3:qA)(sl:Array oo):
  Meets (Builtin.«enumerate.__new__» ⟨[.type "enumerate",.ref l],[]⟩) (λ_ R s=>s.heap.get? l=O {cls:=.type "tuple",dict:=j3,data:=.seq items n,slots:=sl}/\
   R (.ok<|.ret<|.ref (s.heap.push {cls:=.type "tuple_iterator",data:=.fields #[.ref l,.int 0 0]}).objs.size)
    {s with heap:=(s.heap.push {cls:=.type "tuple_iterator",data:=.fields #[.ref l,.int 0 0]}).push {cls:=.type "enumerate",data:=.fields #[.none,.bool false,.ref<|d4 s,jo 0,.none,.none]}}):=
 .of_wp λprog w A R s h=>by
  let⟨hp,g,d,tk,os⟩:=s;let⟨hl,h⟩:=h;have xC:=sub_enumerate;have hL:Heap.IsTuple (WX ⟨hp,g,d,tk,os⟩) l items:=⟨_,hl,rfl,n,rfl⟩
  wp_walk using vm hl
  refine wpAny_stack_any λst=>Yo ?_;split
  .rename_i c _ _ _ _ _;cases(c==Value.type "enumerate")
   .wp_walk using vm hl,Dz hL
    exact⟨_,rfl,h⟩
   .wp_walk using vm hl,Dz hL
    exact⟨_,rfl,h⟩
  .wp_walk using vm hl,Dz hL
   exact⟨_,rfl,h⟩
theorem ZhI{prog:Y8}{l:Ys}(hL:s.heap.IsTuple l items)(h:∀h',IsEnum h' (d4 s+1) (d4 s) 0 .none->h'.IsTupleIter (d4 s) l 0->h'.objs.size=d4 s+2 ->
   (∀b o,s.heap.get? b=O o->h'.get? b=O o)->Q (.ref<|d4 s+1) {s with heap:=h'}):
  Y5 (aq prog w) A (call (.type "enumerate") [.ref l]) Q E s:=by
 let⟨⟨c,j3,dt,sl⟩,hl,hc,n,hd⟩:=hL;replace hc:c= .type "tuple":=hc;replace hd:dt= .seq items n:=hd;subst hc hd;refine callType_new F.called_enumerate aaE (F.typeCall_enumerate_1 _) (F.newCall_enumerate_1 _) (λobj=>F.args_object_init_2 obj _) F.entry_enumerate_new
  (ZhK l items n j3 sl) ⟨hl,?_⟩
 have hz:(s.heap.push {cls:=.type "tuple_iterator",data:=.fields #[.ref l,.int 0 0]}).objs.size=d4 s+1:=xV ..;show _/\_;rw[hz];have he:IsEnum ((s.heap.push {cls:=.type "tuple_iterator",data:=.fields #[.ref l,.int 0 0]}).push
   {cls:=.type "enumerate",data:=.fields #[.none,.bool false,.ref<|d4 s,jo 0,.none,.none]}) (d4 s+1) (d4 s) 0 .none:=by
  have:=Y6 (s.heap.push {cls:=.type "tuple_iterator",data:=.fields #[.ref l,.int 0 0]})
   (o:={cls:=.type "enumerate",data:=.fields #[.none,.bool false,.ref<|d4 s,jo 0,.none,.none]}) aaD
  rwa[hz]at this
 refine⟨⟨_,he,rfl⟩,h _ he ⟨_,Yl _<|Y6 _ aaD,rfl,rfl⟩ (by rw[xV,hz]) λb o x=>Yl _<|Yl _ x⟩
theorem ZqK{P:Y8}{es:pw}{k:Nat}{pos:aZ}(a e it:Ys)(oq:e≠it):
  Turn P w K (.Tuple es k pos) (DU λH xs=>dD K H a xs) [e,it] e (λi h=>(∃old,IsEnum h e it i old)/\h.IsTupleIter it a i)where
 mem:=by simp
 obj:=λi h st b hb=>by
  let⟨⟨old,he⟩,o,ho,c,d⟩:=st;simp only[Yt,vK,or_false]at hb;rcases hb with rfl|rfl
  .exact⟨_,he,λv z=>by cases z⟩
  .exact⟨o,ho,λv z=>by rw[d]at z;cases z⟩
 keep:=λi h h' st k=>by let⟨⟨old,he⟩,qV⟩:=st;exact⟨⟨old,k e j0 _ he⟩,qV.at λo q=>k it j0 o q⟩
 item:=by
  intro X hP hw hK hc i c6 s σ H E I hf st hg;subst hP hw hK;let⟨xs,x,hq,hx⟩:=hg;let⟨c_,rv,p,hz⟩:=I.tuple hq;let⟨u,hu,ru⟩:=rv.get hx;let⟨⟨old,he⟩,qV⟩:=st;have A9:=Yw he;have Bi:it<d4 s:=by let⟨o,ho,_⟩:=id qV;exact Yw ho
  have pt:s.heap.IsTuple a c_.toArray:=p;have hae:e≠a:=by rintro rfl;let⟨o,ho,hc,_⟩:=pt;rw[he]at ho;cases ho;exact oz hc j0
  have hai:a≠it:=by rintro rfl;let⟨o,ho,hc,_⟩:=pt;let⟨o',qf,r9,_⟩:=qV;rw[qf]at ho;cases ho;rw[r9]at hc;exact oz hc j0
  have D:=ZoL (prog:=X.prog) (w:=X.w) (A:=X.A.in1) (I.ok.hd hc) it a hai c_.toArray;refine wpAny_pyNext_enum_itemD D he ⟨qV,pt⟩ (by simpa using(Yd.mp hu).1) oq (by simp[oq,hae]) λy h' tk hy ho sf hT hsz hk=>?_;have ey:y=u:=by
   have:c_.toArray[i]?=O u:=by simpa using hu
   rw[this]at hy;cases hy;rfl
  subst ey;refine⟨_,rfl,L1 (s:={s with heap:=h',toks:=tk+1}) ho λB2 Va uk=>?_⟩;let⟨I2,n2⟩:=z0 (x:=x) (tk':=tk+1) I hf A9 Bi ru hT hk uk;exact⟨.ref<|d4 s,_,I2,rfl,⟨_,x,rfl,I.kb.fresh<|Yn _,rfl,λys hy=>by rwa[I.Uw hy hq]⟩,⟨⟨_,by simpa using Va⟩,sf.1.extBut uk.extBut<|cF oq⟩,n2⟩
 done:=by
  intro X hP hw hK hc i c6 s σ H E I hf st hg;subst hP hw hK;let⟨xs,hq,hx⟩:=hg;let⟨c_,rv,p,hz⟩:=I.tuple hq;let⟨⟨old,he⟩,qV⟩:=st;have hl:=rv.length;have pt:s.heap.IsTuple a c_.toArray:=p;have hT:s.TypeIs (.ref e) "enumerate":=⟨_,he,rfl⟩;unfold ji;refine Yc (Ip (vh (name:=n_ "__next__") hT OL
   (vz OL hT F.entry_enumerate_next ?_<|F.args_enumerate_next_1 _)))
  show Y5 _ _ (nW (.ref e) 2>>=_) _ _ _;refine Yc<|gQ he aaD (x:=.ref it) aaD ?_;refine Yc<|Z8 (I.ok.hd hc) qV pt oP λh' x y4 sD=>?_;let⟨o,ho,hc⟩:=sD;refine Yc<|Vu (T:="StopIteration") (b:=true) ⟨o,ho,hc⟩ Vy ?_;exact Yo ⟨rfl,I.UT (t':=s.toks) (λb o hb q=>y4 b o (λz=>hb<|by simp[z]) q) hf⟩
 self:=λ_ _ _ _ _ st h=>by let⟨⟨old,he⟩,_⟩:=st;exact Oe he h
section
variable {X:Cx} {es:pw} {k:Nat} {a:Expr} {p pos w_:aZ} {f:E3}
def Zy6(K:Yb)(ta:TA):TI:=λσ H R=>ta σ H λvs H1=>∃b,vs=[.ref b]/\((∃xs,dm K H1 b xs/\R (DU λH xs=>dm K H b xs) H1)\/∃xs,dD K H1 b xs/\R (DU λH xs=>dD K H b xs) H1)
def Zxe{ta:TA}(hg:Gl X "enumerate")(hm:X.mg "enumerate" =Yj)(ha:PA X [a] ta)(hs:Y1 [a] X.env=[(false,aU a X.env)]:=by rfl):PI X (.Tuple es k w_) (.Call (.Name "enumerate" p) [a] [] pos) (Zy6 X.K ta):=by
 intro c6 s σ H R I h;refine Call_<|Am I hg hm boot_enumerate<|Jd (aV (ha pos c6 s σ H _ I h) λus s1 ⟨vs,H1,I1,r1,q1⟩=>?_) hs aaD;let⟨b,e,q⟩:=q1;subst e;cases r1 with
 | cons r rr=>
  cases rr
  cases r
  have fp:∀{h':aF} {s2:Yi},∀c∈[d4 s1+1,d4 s1],iK X c6 H1 c:=λ{h' s2} c hc=>by
   have r9:d4 s1<=c:=by simp only[Yt,vK,or_false]at hc;rcases hc with rfl|rfl <;>omega
   exact I1.xx r9<|I1.kb.fresh r9
  rcases q with⟨xs,hq,q⟩|⟨xs,hq,q⟩
  .let⟨c_,rv,pl,hz⟩:=I1.list hq;refine call_enumerate_list pl.isList λh' hE hI hsz hk=>?_;have I2:c9 X c6 σ H1 {s1 with heap:=h'}:=I1.kept (t':=s1.toks) hk;exact Oe (s:={s1 with heap:=h'}) hE ⟨_,[d4 s1+1,d4 s1],_,_,H1,rfl,I2,ZqJ b _ _<|NN _,⟨⟨_,hE⟩,hI⟩,fp (h':=h') (s2:=s1),q⟩
  .let⟨c_,rv,pl,hz⟩:=I1.tuple hq;refine ZhI (show s1.heap.IsTuple b c_.toArray from pl) λh' hE hI hsz hk=>?_;have I2:c9 X c6 σ H1 {s1 with heap:=h'}:=I1.kept (t':=s1.toks) hk;exact Oe (s:={s1 with heap:=h'}) hE ⟨_,[d4 s1+1,d4 s1],_,_,H1,rfl,I2,ZqK b _ _<|NN _,⟨⟨_,hE⟩,hI⟩,fp (h':=h') (s2:=s1),q⟩
def Rp(hm:X.mg "enumerate" =Yj)(h:C3 X a f)(hg:Gl X "enumerate":=by rfl)(hs:Y1 [a] X.env=[(false,aU a X.env)]:=by rfl)(vS:Y1 (a::[]) X.env=(false,aU a X.env)::Y1 [] X.env:=by rfl):y0 X (.Tuple es k w_) (.Call (.Name "enumerate" p) [a] [] pos) (Bf f):=
 PI.imp (Zxe hg hm (Zb h Zf vS) hs) λσ H R ao=>by
  let⟨ι,M,env,S,E,h⟩:=ao;let⟨d,M1,e1,h⟩:=Ke.bind h;refine⟨ι,M,env,S,E,?_⟩;have e2:Za f Ze env M= .ok [d] M1:=by unfold Za;rw[e1];rfl
  rw[e2];intro vs H1 ι1 x1 S1 r1;let⟨v,ws,rfl,r,q⟩:=r1.cons_inv;have:=q.nil_inv;subst this;cases d with
  | U ds=>
   let⟨b,vs,rfl,s,r⟩:=r.jf;refine⟨b,rfl,.inr ⟨vs,s,h _ H1 ι1 x1 S1 ?_⟩⟩;intro i H2 ι2 M2 x S2 _;refine⟨λd hd=>?_,λhl=>⟨vs,x.U _ _ s,by rw[r.length,hl,X7];exact Yn _⟩⟩;rw[X6]at hd;cases hq:ds[i]? with
   |none=>rw[hq]at hd;cases hd|some ZyJ=>rw[hq]at hd;simp only[LP,qz,NV]at hd;subst hd;let⟨v,hv,rv⟩:=r.get hq;refine⟨⟨vs,v,x.U _ _ s,hv⟩,λy H3 hy=>?_⟩;let⟨T,y',rfl,hT,rfl,uj⟩:=hy;have e:=uj vs<|x.U _ _ s;rw[hv]at e;cases e;exact S2.xF hT<|aB.cons i0.int<|aB.cons (rv.mono x) aB.nil
  | ref n=>
   cases hm:M1[n]? with
   |none=>simp only[hm]at h;cases h|some o=>
    cases o with
    |j3 kvs=>simp only[hm]at h;cases h|dW kvs=>simp only[hm]at h;cases h|ins _ _=>simp only[hm]at h;cases h|L ds=>
     simp only[hm]at h;let⟨b,ha,rfl⟩:=r.fD;let⟨vs,q,r⟩:=S1.obj n _ b hm ha;refine⟨b,rfl,.inl ⟨vs,dm.of q,h _ H1 ι1 x1 S1 ?_⟩⟩;intro i H2 ι2 M2 x S2 lk;have YG:M2[n]?=O (.L ds):=by simpa[kW]using lk
     let⟨An,q2,r2⟩:=S2.obj n _ b YG<|x.pre _ _ ha;refine⟨λd hd=>?_,λhl=>⟨An,dm.of q2,by rw[r2.length,hl,X7];exact Yn _⟩⟩;rw[X6]at hd;cases hq:ds[i]? with
     |none=>rw[hq]at hd;cases hd|some ZyJ=>rw[hq]at hd;simp only[LP,qz,NV]at hd;subst hd;let⟨v,hv,rv⟩:=r2.get hq;refine⟨⟨An,v,dm.of q2,hv⟩,λy H3 hy=>?_⟩;let⟨T,y',rfl,hT,rfl,uj⟩:=hy;have e:=uj An<|dm.of q2;rw[hv]at e;cases e;exact S2.xF hT<|aB.cons i0.int<|aB.cons rv aB.nil
  |_=>cases h
end
end L3
namespace L3
open PySem PySem.Spec PyProof.Rows L2
section
variable {X:Cx}
def ZzH:j_ "max" =O (.builtin "max"):=by decide +kernel
def ZxT{K:Yb}{H:Hp}{ι:l6}{i j:Int}{xs:k6}(r:aB K H ι [.int i,.int j] xs):xs=[.int i,.int j]:=by let⟨v1,vs1,rfl,q1,r⟩:=r.cons_inv;let⟨v2,An,rfl,q2,r⟩:=r.cons_inv;have:=r.nil_inv;subst this;have e1:=q1.int_inv;have e2:=q2.int_inv;subst e1 e2;rfl
def AfH(hc:X.calm=true):bY X (.builtin "max") (rB X.K Fy):=bY.imp (Ztn hc) λxs H Q ao=>by
 let⟨ι,M,ds,S,rd,h⟩:=ao;unfold Fy at h;split at h
 .exact⟨_,_,ZxT rd,h _ H ι k7.refl S i0.int⟩
 .exact h.elim
def Rq:Yf->D
 | .int i _=>.int i|.bool b=>.bl b|.str x _=>.str x.cps.toList|_=>.Z
def E1{K:Yb}{H:Hp}{ι:l6}{d:D}{v:V}{y:Yf}(hf:fc d=true)(r:i0 K H ι d v)(rv:i5 v y):Rq y=d:=by
 cases d with
 |Z=>have:=r.lq;subst this;cases rv;rfl|bl b=>have:=r.iU;subst this;cases rv;rfl|int i=>have:=r.int_inv;subst this;let⟨t,rfl⟩:=rv;rfl|str x=>have:=r.str_inv;subst this;let⟨t,rfl⟩:=rv;rfl
 |_=>simp[fc]at hf
theorem l7{K:Yb}{H:Hp}{ι:l6}{a:D}:∀{ds:h8} {vs:k6} {c_:l5},aB K H ι ds vs->i3 vs c_->ds.all fc=true->(ds.any λy=>eU y a)=c_.any λy=>eU (Rq y) a
 |[],vs,c_,r,rv,_=>by have:=r.nil_inv;subst this;cases rv;rfl|d::ds,vs,c_,r,rv,hf=>by
  let⟨v,ws,rfl,r1,r2⟩:=r.cons_inv;cases rv with
  |cons q rv=>simp only[Ae,j5]at hf;simp only[nZ,l7 r2 rv hf.2,E1 hf.1 r1 q]
end
open AutoSeq1 (wpAny_loadPart')
set_option maxRecDepth 100000
def Zi7(l:Ys)(items:qB)(n:Nat)(b:Ys)(rj:qB)(n2:Nat)(sl:Array oo)(hl:¬(!items.isEmpty&&Ej (items.size+rj.size))=true)(hz:items.size<=bI)(B3:items.size+rj.size<=bI+1):
  Meets (Builtin.«list.extend» ⟨[.ref l,.ref b],[]⟩) (λ_ R s=>s.heap.get? l=O {cls:=.type "list",data:=.seq items n}/\s.heap.get? b=O {cls:=.type "tuple",data:=.seq rj n2,slots:=sl}/\
   R (.ok<|.ret .none) {s with heap:=s.heap.update l<|Pu λx=>x++rj}):=
 .of_wp λprog w A R s h=>by
  let⟨hp,g,d,tk,os⟩:=s;let⟨h1,h2,h⟩:=h
  wp_walk using vm h1,vm h2
  rw[show(Pu (λx=>x++rj) {cls:=Value.type "list",data:=Data.seq items n}).data.pastItsLine=Yj by show(if(items++rj).size>bI+1 then O "sequence:memory" else Yj)=Yj;rw[i6 (by rw[Array.size_append];exactλz=>by omega)]];exact Yo<|Yo ⟨_,rfl,h⟩
section
variable {X:Cx} {o e:Expr} {es:pw} {n5 i9:aZ} {f:E3} {gl:dg}
def oL(K:Yb):V->k6->Hp->VK->Prop:=λx vs H Q=>∃l b xs zs,x= .ref l/\vs=[.ref b]/\H l=O (.L xs)/\dD K H b zs/\xs.length+b9 zs<=bI/\Q .Z (k4 H l<|.L<|xs++zs)
def Zrf:pM X "list.extend" (oL X.K):=by
 intro c6 s σ H x vs v us Q I rx rv h;let⟨l,b,xs,zs,rfl,rfl,hH,hB,hz,q⟩:=h;cases rx;let⟨u,rfl,ru⟩:=rv.one;cases ru;let⟨z,c_,n,r,hl,e⟩:=I.u_ hH;let⟨oQ,r2,⟨⟨c,dc,dt,sl⟩,e2,⟨hc,hd⟩,n2,hs⟩,z2⟩:=I.RC hB;replace hc:c= .type "tuple":=hc;replace hd:dc=Yj:=hd;replace hs:dt= .seq oQ.toArray n2:=hs;subst hc hd hs;have sP:=r2.length;have hsz:c_.toArray.size+oQ.toArray.size<=bI:=by rw[Yq,Yq];omega
 have HW:¬(!c_.toArray.isEmpty&&Ej (c_.toArray.size+oQ.toArray.size))=true:=by rw[Xj hsz,Eh];exact lZ
 refine rF OQ ⟨_,e,rfl⟩ OP (ON _ _)
  (Zi7 l c_.toArray n b oQ.toArray n2 sl HW BH c8) ⟨e,e2,?_⟩
 refine⟨.Z,_,I.HX (its':=c_++oQ) hH e j0 (r.append r2) ?_,rfl,q⟩;rwa[Ye]
def ZvB:pM X "list.extend" (rM X.K oM):=pM.imp (r:=λx xs H Q=>Ts x xs H Q\/oL X.K x xs H Q) (λc6 s σ H x xs v us Q I rx rs q=>q.elim (Zs1 c6 s σ H x xs v us Q I rx rs)<|Zrf c6 s σ H x xs v us Q I rx rs) λx xs H Q ao=>by
 let⟨ι,M,a,ds,S,ra,rd,h⟩:=ao;cases a with
 | ref n=>
  cases ds with
  |nil=>cases h|cons d ds=>
   cases ds with
   |cons _ _=>cases d<;>cases h|nil=>
    let⟨v,ws,rfl,r1,r2⟩:=rd.cons_inv;have:=r2.nil_inv;subst this;let⟨p,hp,rfl⟩:=ra.fD;cases hn:M[n]? with
    |none=>cases d<;>first|cases h|(rw[Bg,hn]at h;cases h)|(rw[Fz,hn]at h;cases h)
    | some o=>
     cases o with
     |j3 _=>cases d<;>first|cases h|(rw[Bg,hn]at h;cases h)|(rw[Fz,hn]at h;cases h)
     |dW _=>cases d<;>first|cases h|(rw[Bg,hn]at h;cases h)|(rw[Fz,hn]at h;cases h)
     |ins _ _=>cases d<;>first|cases h|(rw[Bg,hn]at h;cases h)|(rw[Fz,hn]at h;cases h)
     | L z=>
      let⟨vs,e,rv⟩:=S.obj n _ p hn hp;cases d with
      | U y=>
       simp only[Bg,Fz,hn]at h;split at h
       .rename_i hz;let⟨b,ys,rfl,sb,ry⟩:=r1.jf;let⟨x2,S2⟩:=S.zO (.inr<|.inl ⟨_,e⟩) hp<|rv.append ry;exact .inr ⟨p,b,vs,ys,rfl,rfl,e,sb,by rw[rv.length,ry.length];exact Yx hz<|NJ<|NL kY,h _ _ _ x2 S2 i0.Z⟩
       .exact h.elim
      | ref m=>
       simp only[Bg,Fz,hn]at h;cases hm:M[m]? with
       |none=>simp only[hm]at h;cases h|some o2=>
        cases o2 with
        |j3 _=>simp only[hm]at h;cases h|dW _=>simp only[hm]at h;cases h|ins _ _=>simp only[hm]at h;cases h|L y=>
         simp only[hm]at h;split at h
         .rename_i hz;let⟨b,hb,rfl⟩:=r1.fD;let⟨ys,eb,ry⟩:=S.obj m _ b hm hb;let⟨x2,S2⟩:=S.zO (.inr<|.inl ⟨_,e⟩) hp<|rv.append ry;exact .inl ⟨p,b,vs,ys,rfl,rfl,e,eb,by rw[rv.length,ry.length];exact Yx hz.2<|NJ<|NL kY,h _ _ _ x2 S2 i0.Z⟩
         .exact h.elim
      |_=>cases h
 |_=>cases ds<;>cases h
def Kf(ho:C3 X o f)(ha:CA X (e::es) gl)(qk:rE o "extend" X.env (aU o X.env)=aU o X.env:=by rfl)(ue:((fZ i9<|Y1 (e::es) X.env).all (λx=>!x.1)&&(z7 i9<|zY [] X.env).all (λx=>x.1.isSome)
   &&decide ((e::es).length+([]:List Keyword).length+(if([]:List Keyword).isEmpty then 0 else 1)<30))=true:=by rfl)(qo:(n5.endLine==i9.line)=true:=by rfl)(hs:Y1 (e::es) X.env=(false,aU e X.env)::Y1 es X.env:=by rfl)(qS:(fZ i9<|Y1 es X.env).any (·.1)=false:=by rfl):
  C3 X (.Call (.Attribute o "extend" n5) (e::es) [] i9) (bA bO oM f gl):=
 (Xi Pj PySem.F.slot_list_extend PySem.F.type_list_extend ZvB ho ha qk ue qo hs qS).imp (YV Rk)
def ZxW{K:Yb}{T:String}{ty:D->c5->Bool}{m:D->h8->c5->R3 D}(xh:∀H ι M a x,aC K H ι M->i0 K H ι a x->ty a M=true->Ew K T x H)(σ:St)(H:Hp)(Q:VK)(h:pY K (bA ty m f Ze) σ H Q):SY K T (rM K m) (pY K f) σ H Q:=by
 let⟨ι,M,env,S,E,h⟩:=h;let⟨a,M1,e1,h⟩:=aA.bind h;refine⟨ι,M,env,S,E,?_⟩;rw[e1];intro v H1 ι1 x1 S1 r1;by_cases ht:ty a M1=true
 .rw[f_ ht]at h;exact⟨xh _ _ _ _ _ S1 r1 ht,ι1,M1,a,[],S1,r1,aB.nil,h.up x1⟩
 .rw[i6 ht]at h;cases h
def tB(ho:C3 X o f)(qk:rE o "pop" X.env (aU o X.env)=aU o X.env:=by rfl)(qo:(n5.endLine==i9.line)=true:=by rfl):C3 X (.Call (.Attribute o "pop" n5) [] [] i9) (bA bO vZ f Ze):=(Zzs Pj PySem.F.slot_list_pop PySem.F.type_list_pop AfF ho qk qo).imp<|ZxW Rk
end
end L3
namespace L3
open PySem PySem.Spec PyProof.Rows L2
set_option maxRecDepth 100000
section
variable {X:Cx} {es:pw} {k:Nat} {a b:Expr} {p pos w_:aZ} {f g:E3}
def ZtD:j_ "zip" =O (.type "zip"):=by decide +kernel
end
open PySem PySem.W PyProof.Rows
section
variable {M:Model} {A:cC} {E:Yf->Yi->Prop} {G:Yi->Prop}
def TT(M:Model)(A:cC)(E:Yf->Yi->Prop)(G:Yi->Prop){α:Type}(m:StateT SortSt mW α)(Q:α->SortSt->Prop)(st:SortSt):Prop:=∀s,G s->kasC M A E m (λa vv s'=>Q a vv/\G s') st s
end
end L3
namespace L3
open PySem PySem.Spec PyProof.Rows L2
abbrev nm(f:i4):ak:=⟨pd f⟩
variable{f:i4}
def qn{g:i4}(h:nm f=nm g):f=g:=by have:=congrArg (λs:ak=>s.cps.toList) h;simpa using this
section
variable {K:Yb} {H H':Hp} {ι ι':l6} {fs:xi} {gs:uB}
def gU.mono(e:k7 K H ι H' ι')(h:gU K H ι fs gs):gU K H' ι' fs gs:=⟨h.1,h.2.mono e⟩
def gU.nil:gU K H ι [] []:=⟨rfl,aB.nil⟩
def gU.nil_inv(h:gU K H ι [] gs):gs=[]:=List.map_eq_nil_iff.mp h.1
def gU.cons_inv{d:D}(h:gU K H ι ((f,d)::fs) gs):∃v y8,gs=(nm f,v)::y8/\i0 K H ι d v/\gU K H ι fs y8:=by
 cases gs with
 |nil=>cases h.1|cons p y8=>let⟨g,v⟩:=p;let⟨h1,h2⟩:=h;rw[Y2,Y2]at h1 h2;let⟨e1,e2⟩:=WT h1;let⟨v',ws,e,r,q⟩:=h2.cons_inv;let⟨rfl,rfl⟩:=WT e;exact⟨v,y8,by rw[show g=nm f from e1],r,e2,q⟩
def gU.cons{f:i4}{d:D}{v:V}(r:i0 K H ι d v)(h:gU K H ι fs gs):gU K H ι ((f,d)::fs) ((nm f,v)::gs):=⟨by rw[Y2,Y2,h.1],aB.cons r h.2⟩
def gU.length(h:gU K H ι fs gs):b9 gs=b9 fs:=by have:=congrArg xU h.1;simpa using this
theorem gU.look:∀{fs:xi} {gs:uB},gU K H ι fs gs->(fs.lookup f=Yj->gs.lookup (nm f)=Yj)/\∀d,fs.lookup f=O d->∃v,gs.lookup (nm f)=O v/\i0 K H ι d v
 |[],_,h=>by rw[h.nil_inv];exact⟨λ_=>rfl,λd e=>by cases e⟩|(g,x)::fs,_,h=>by
  let⟨v,y8,rfl,r,t⟩:=h.cons_inv;rw[lY,lY];by_cases e:f=g
  .subst e;rw[beq_self_eq_true,beq_self_eq_true];exact⟨λq=>(by cases q),λd q=>(by cases q;exact⟨v,rfl,r⟩)⟩
  .rw[beq_false_of_ne e,beq_false_of_ne λq=>e<|qn q];exact t.look
theorem gU.put{d:D}{v:V}(r:i0 K H ι d v):∀{fs:xi} {gs:uB},gU K H ι fs gs->gU K H ι (v8 f d fs) (jM (nm f) v gs)
 |[],_,h=>by rw[h.nil_inv];exact gU.cons r gU.nil|(g,x)::fs,_,h=>by
  let⟨w,y8,rfl,r',t⟩:=h.cons_inv;unfold v8 jM;by_cases e:g=f
  .subst e;rw[f_ aaD,f_ aaD];exact gU.cons r t
  .rw[i6 e,i6 λq=>e<|qn q];exact gU.cons r'<|t.put r
end
structure yR(K:Yb)(c:i4)(C:Ys):Prop where
 oE:ClsAt K c C
 cls:vW K C
 nz:c.head?≠O 0
variable{C:Ys}{c:i4}
def yR.same{K:Yb}{C':Ys}(h:yR K c C)(q:ClsAt K c C'):C'=C:=by have:=q.symm.trans h.oE;cases this;rfl
variable{H:Hp}{fd:mU}{ps:oB}{ι:l6}{F:F3}
section
variable {X:Cx} {o e:Expr} {es:pw} {f g:E3} {gl:dg} {c m:i4} {C:Ys} {fn:ak} {pos ow n5 p:aZ} {x:ak}
def Z9{M:c5}{n:Nat}{a:Ys}(kc:yR X.K c C)(S:aC X.K H ι M)(ha:ι[n]?=O a){fs:xi}(hn:M[n]?=O (.ins c fs)):∃dx gs,H a=O (.ins C dx gs)/\gU X.K H ι fs gs:=by
 rcases S.obj n _ a hn ha with⟨C',dx,gs,q,ca,fr⟩|⟨_,_,_,z,_⟩
 .rw[kc.same ca.1]at q;exact⟨dx,gs,q,fr⟩
 .exact oz z kc.nz
def uw(kc:yR X.K c C)(nf:pJ X.K C (nm m))(he:C3 X e f)(hf:fn=nm m:=by decide +kernel)(hb:rE e fn X.env (aU e X.env)=aU e X.env:=by rfl):C3 X (.Attribute e fn pos) (e1 (lK c m) f):=by
 subst hf;refine(Zz6 he hb).imp λσ H Q ao=>?_;let⟨ι,M,env,S,E,h⟩:=ao;let⟨d,M1,e1,hh⟩:=aA.bind h;refine⟨ι,M,env,S,E,?_⟩;rw[e1];intro v H1 ι1 x1 S1 r1;cases d with
 | ref n=>
  simp only[FJ]at hh;cases hn:M1[n]? with
  |none=>simp only[hn]at hh;exact hh.elim|some ob=>
   cases ob with
   | ins c' fs=>
    simp only[hn]at hh;split at hh
    .rename_i ec;subst ec;let⟨a,ha,rfl⟩:=r1.fD;let⟨dx,gs,q,fr⟩:=Z9 kc S1 ha hn;split at hh
     .rename_i d hl;let⟨w,lw,jN⟩:=(fr.look (f:=m)).2 d hl;exact⟨a,C,dx,gs,w,rfl,q,kc.cls,nf,lw,hh w H1 ι1 x1 S1 jN⟩
     .exact hh.elim
    .exact hh.elim
   |_=>simp only[hn]at hh;exact hh.elim
 |_=>exact hh.elim
def Gf(kc:yR X.K c C)(nf:pJ X.K C (nm m))(ho:C3 X o f)(hv:C3 X e g)(hf:fn=nm m:=by decide +kernel)(hs:pC e (O<|.Attribute o fn ow) pos.line X.env=pure false:=by rfl):CS X (.Assign [.Attribute o fn ow] e pos) (Bh c m f g):=by
 subst hf;refine(Zy8 ho hv hs).imp λD' σ H ao=>?_;let⟨ι,M,env,S,E,hh⟩:=ao;have hh:=Z1 E hh;let⟨d,M1,e1,hh⟩:=aA.bind hh;let⟨b,M2,e2,hh⟩:=aA.bind hh;refine⟨ι,M,env,S,E,?_⟩;rw[e1];intro y H1 ι1 x1 S1 r1;refine⟨ι1,M1,env,S1,E.mono x1,?_⟩;rw[e2];intro w H2 ι2 x2 S2 r2;cases b with
 | ref n=>
  simp only[X8]at hh;cases hn:M2[n]? with
  |none=>simp only[hn]at hh;exact hh.elim|some ob=>
   cases ob with
   | ins c' fs=>
    simp only[hn]at hh;split at hh
    .rename_i ec;let⟨ec,lf⟩:=ec;subst ec;let⟨a,ha,rfl⟩:=r2.fD;let⟨dx,gs,q,fr⟩:=Z9 kc S2 ha hn;have l0:Loose H2 a:=.inr<|.inr<|.inr ⟨C,dx,gs,q⟩;have x3:k7 X.K H2 ι2 (k4 H2 a<|.ins C dx<|jM (nm m) y gs) ι2:=l0.ext;have S3:aC X.K (k4 H2 a<|.ins C dx<|jM (nm m) y gs) ι2 (M2.set n<|.ins c'<|v8 m d fs):=S2.put l0 ha<|.inl ⟨C,dx,_,pH,⟨kc.oE,kc.nz⟩,(fr.put<|r1.mono x2).mono x3⟩;exact⟨a,C,dx,gs,rfl,q,kc.cls,nf,by rwa[fr.length],hh .Z _ _ ((x1.trans x2).trans x3) S3 i0.Z⟩
    .exact hh.elim
   |_=>simp only[hn]at hh;exact hh.elim
 |_=>exact hh.elim
def AfI(P:Y8)(w:aX)(K:Yb)(mg:ak->oo)(base:aF)(k:Nat)(C:Ys)(m:ak)(ps:oB)(F:F3):Prop:=(∀ds M,b9 ds≠b9 ps->F ds M= .bad)/\∃f fd,Meth K C m f/\Binds K fd ps []/\iM P w K mg base l_ k f fd ps (uq K (b9 ps) F)
def ZvZ{ps:oB}{F:F3}{a:D}{M1:c5}{n:Nat}(hi:v9 c m a M1=true):∃n fs,a= .ref n/\M1[n]?=O (.ins c fs)/\fs.lookup m=Yj:=by
 cases a with
 | ref n=>
  simp only[VU]at hi;cases hn:M1[n]? with
  |none=>simp[hn]at hi|some ob=>
   cases ob with
   |ins c' fs=>simp only[hn,j5,decide_eq_true_eq,Option.isNone_iff_eq_none]at hi;let⟨rfl,hl⟩:=hi;exact⟨n,fs,rfl,hn,hl⟩|_=>simp[hn]at hi
 |_=>exact ft hi
def Zz0{k:Nat}{fa:Ys}(oE:ClsAt X.K c C/\c.head?≠O 0)(Aa5:Mk X.K C fa)(hF:∀ds M,b9 ds≠b9 ps->F ds M= .bad)(ok:iM X.prog X.w X.K X.mg X.base l_ k fa fd ps (uq X.K (b9 ps) F))(bi:Binds X.K fd ps [])(hm:X.mg x=O (.ref C))(hr:dN (k+1) X.A)(ha:CA X (e::es) gl)(hg:Gl X x:=by rfl)(sg:(x==("__debug__":ak))=false:=by decide)(he:Y1 (e::es) X.env=(false,aU e X.env)::Y1 es X.env:=by rfl)(pv:(fZ pos<|Y1 es X.env).any (·.1)=false:=by rfl):C3 X (.Call (.Name x p) (e::es) [] pos) (JT c F gl):=by
 refine(Zxo Aa5 ok hr hg hm bi .nil TN ha sg he pv).imp λσ H Q ao=>?_;let⟨ι,M,env,S,E,h⟩:=ao;let⟨ds,M1,e1,h⟩:=aA.bind h;refine⟨ι,M,env,S,E,?_⟩;rw[e1];intro vs H1 ι1 x1 S1 r1 y dx hy hd ne;have y2:k4 H1 dx (.own y) y=Yj:=by rwa[eF<|cF ne]
 have x2:k7 X.K H1 ι1 (k4 H1 dx<|.own y) ι1:=Loose.ext<|.inl hd;have S2:aC X.K (k4 H1 dx<|.own y) ι1 M1:=S1.other (.inl hd)<|S1.fresh hd;have x3:k7 X.K (k4 H1 dx<|.own y) ι1 (k4 (k4 H1 dx<|.own y) y<|.ins C dx []) (ι1++[y]):=Loose.HY<|.inl y2;have S3:aC X.K (k4 (k4 H1 dx<|.own y) y<|.ins C dx []) (ι1++[y]) (M1++[.ins c []]):=S2.new y2<|.inl ⟨C,dx,[],pH,oE,gU.nil⟩;have ER:(ι1++[y])[b9 M1]?=O y:=by rw[<-S1.len];simp
 have rr:i0 X.K (k4 (k4 H1 dx<|.own y) y<|.ins C dx []) (ι1++[y]) (.ref<|b9 M1) (.ref y):=i0.ref ER;cases q:F (.ref (b9 M1)::ds) (M1++[.ins c []])with
 |bad=>simp only[q]at h;cases h|exc _ _=>simp only[q]at h;cases h|ok d M2=>
  have hl:(D.ref (b9 M1)::ds).length=b9 ps:=by refine Jf λz=>?_;rw[hF _ _ z]at q;cases q
  refine⟨ι1++[y],M1++[.ins c []],.ref (b9 M1)::ds,S3,by rw[gJ];exact aB.cons rr<|(r1.mono x2).mono x3,hl,?_⟩;rw[q];simp only[q]at h;cases d with
  |Z=>intro v H4 ι4 x4 S4 r4;exact⟨r4.lq,h _ H4 ι4 (((x1.trans x2).trans x3).trans x4) S4<|rr.mono x4⟩|_=>cases h
end
def yS(s:Ye1):rq:=match s with
 | .ClassDef _ _ _ b _ _ _ _ _ _ _=>b|_=>[]
def oR(K:Yb)(C:Ys)(m qual:ak)(st:Ye1)(ps:oB):Prop:=∃f fd,rP K m qual st f fd/\Meth K C m f/\Binds K fd ps []
def Z_(K:Yb)(C:Ys)(qual:ak)(st:Ye1)(ps:oB):Prop:=∃f fd,rP K "__init__" qual st f fd/\Mk K C f/\Binds K fd ps []
def Gg(P:Y8)(w:aX)(K:Yb)(mg:ak->oo)(base:aF)(k:Nat)(C:Ys)(ps:oB)(F:F3):Prop:=(∀ds M,b9 ds≠b9 ps->F ds M= .bad)/\∃f fd,Mk K C f/\Binds K fd ps []/\iM P w K mg base l_ k f fd ps (uq K (b9 ps) F)
section
variable {P:Y8} {w:aX} {K:Yb} {mg:ak->oo} {base:aF} {C f:Ys} {m qual:ak} {st:Ye1} {N ps:oB} {k:Nat} {body:S3} {oc:Yf} {od an:qA} {t9:Array oo} {dV kV doc pm oj ct:Yf}
def BR(a:gP K (.ref C) m=O (O<|.ref f))(i:Dy K (.ref f)=true)(l:K.lookup f=O ⟨oc,od,.func<|qt m qual (nq st) (jq st) (Zq st) dV kV doc pm an oj ct,t9⟩)(c:Dw K oj qual=true)(kp:rC K (.ref f)=true)(b:Binds K (qt m qual (nq st) (jq st) (Zq st) dV kV doc pm an oj ct) ps []):oR K C m qual st ps:=⟨f,_,⟨⟨oc,od,dV,kV,doc,pm,an,oj,ct,t9,rfl,l,c⟩,kp⟩,⟨a,i,kp⟩,b⟩
def Zw8(mk:N8 K C=true)(kc:rC K (.ref C)=true)(a:gP K (.ref C) "__init__" =O (O<|.ref f))(i:Dy K (.ref f)=true)(l:K.lookup f=O ⟨oc,od,.func<|qt "__init__" qual (nq st) (jq st) (Zq st) dV kV doc pm an oj ct,t9⟩)(c:Dw K oj qual=true)(kp:rC K (.ref f)=true)(b:Binds K (qt "__init__" qual (nq st) (jq st) (Zq st) dV kV doc pm an oj ct) ps []):Z_ K C qual st ps:=⟨f,_,⟨⟨oc,od,dV,kV,doc,pm,an,oj,ct,t9,rfl,l,c⟩,kp⟩,⟨mk,a,i,kc⟩,b⟩
def Gg.of(d:Z_ K C qual st ps)(S:bZ N ps (Zq st))(hb:∀(f:Ys) (oj:Yf) (A:cC) (outer:rL) (s:Yi) (H:Hp) (E:XK),dN k (A.deeper<|mY qual (Zq st) (d4 s) f oj)->nD (pK l_ P w K mg base N qual (Zq st) f oj A outer s H E).iC (jq st) body):
  Gg P w K mg base (k+1) C ps (aK (b9 ps) (b9 N) body):=by
 let⟨f,fd,F,mk,bi⟩:=d;exact⟨λds M h=>i6 h,f,fd,mk,bi,YF F S<|hb f⟩
end
def AfJ{X:Cx}{e:Expr}{es:pw}{gl:dg}{pos p:aZ}{x:ak}{k:Nat}(kc:yR X.K c C)(G:Gg X.prog X.w X.K X.mg X.base k C ps F)(hm:X.mg x=O (.ref C))(hr:dN (k+1) X.A)(ha:CA X (e::es) gl)(hg:Gl X x:=by rfl)(sg:(x==("__debug__":ak))=false:=by decide)(he:Y1 (e::es) X.env=(false,aU e X.env)::Y1 es X.env:=by rfl)(pv:(fZ pos<|Y1 es X.env).any (·.1)=false:=by rfl):C3 X (.Call (.Name x p) (e::es) [] pos) (JT c F gl):=by let⟨hF,f,fd,mk,bi,ok⟩:=G;exact Zz0 ⟨kc.oE,kc.nz⟩ mk hF ok bi hm hr ha hg sg he pv
def r5{P:Y8}{w:aX}{h:aF}{e:Ys}{dd:qA}(x:Bl e C dd h):gC P w H h e (uo e C dd):=⟨x,(let⟨o,_,q,_⟩:=x;⟨o,q⟩),λ_ _ z k=>let⟨o,vs,a,b,c⟩:=z;⟨o,vs,k o a,b,c⟩⟩
def Xa{P:Y8}{w:aX}{h:aF}{a:Ys}{o:HO}(x:gC P w H h a o):∃u,h.get? a=O u:=by
 cases o with
 |L xs=>let⟨_,_,_,_,e⟩:=x;exact⟨_,e⟩|U xs=>let⟨_,_,_,o,e,_⟩:=x;exact⟨o,e⟩|dK kvs=>let⟨_,_,_,_,o,_,_,e,_⟩:=x;exact⟨o,e⟩|dT kvs=>let⟨_,_,_,_,o,_,_,e,_⟩:=x;exact⟨o,e⟩
 |set S n=>let⟨o,_,_,_,e,_⟩:=x;exact⟨o,e⟩|ins C dx fs=>let⟨_,_,_,e,_⟩:=x;exact⟨_,e⟩|own y=>exact x|xd fs=>let⟨_,⟨o,_,_,e,_⟩,_⟩:=x;exact⟨o,e⟩
 |Qa lo hi=>let⟨_,_,_,e⟩:=x;exact⟨_,e⟩|fO ob u=>let⟨e,_⟩:=x;exact⟨_,e⟩|ye ps=>exact⟨_,x⟩|met f y=>exact⟨_,x⟩
 |ext φ=>exact x.2.1
def Dct(e:Ys)(dd:qA)(h:aF):Prop:=∃o,h.get? e=O o/\o.dict=dd
def sG(B:aF)(l:rL)(e C:Ys)(dd:qA)(a0:Yf)(h:aF):Prop:=B.StaysIn h/\B.get? e=Yj/\h.FunFrames B l/\Dct e dd h/\∃fl,h.TracedAtW B e (.ref C) a0 fl
def sH(B:aF)(l:rL)(e C:Ys)(dd:qA)(h:aF):Prop:=∃a0,sG B l e C dd a0 h\/(B.StaysIn h/\B.get? e=Yj/\h.FunFrames B l/\∃oe vs,h.get? e=O oe/\oe.cls= .ref C/\oe.data= .fields vs/\vs[0]?=O a0/\vs[1]?=O .none/\oe.dict=dd)
section
variable {B h h':aF} {l:rL} {e C:Ys} {dd:qA}
def sG.yU{a0:Yf}(f:sG B l e C dd a0 h):Bl e C dd h:=by let⟨_,_,_,⟨o',a',d'⟩,_,o,vs,_,_,_,a,b,c,_⟩:=f;rw[a]at a';cases a';exact⟨_,vs,a,b.1,c,d'⟩
def sG.tail{a0:Yf}{env:dJ}(f:sG B (env::l) e C dd a0 h):sG B l e C dd a0 h:=let⟨a,b,⟨_,_,c⟩,d⟩:=f;⟨a,b,c,d⟩
def sH.stays(f:sH B l e C dd h):B.StaysIn h:=by
 obtain⟨a0,f|f⟩:=f
 .exact f.1
 .exact f.1
def sH.yU(f:sH B l e C dd h):Bl e C dd h:=by
 obtain⟨a0,f|⟨_,_,_,oe,vs,a,b,c,_,_,d⟩⟩:=f
 .exact f.yU
 .exact⟨oe,vs,a,b,c,d⟩
end
section
variable {M:Model} {A:cC} {E:Yf->Yi->Prop} {s:Yi} {B:aF} {env:dJ} {outer l:rL} {L e C:Ys} {dd:qA} {Q:Unit->Yi->Prop}
def ZvE(f:qB->qB)(o:aJ):(t_ f o).dict=o.dict:=by let⟨c,d,hz5,sl⟩:=o;cases hz5<;>rfl
def y5{oe:aJ}{vs:qB}{head a0:Yf}{y9:Bool}(ve:A.frames=O (env::outer))(hl:s.heap.FunFrames B (env::outer))(hf:env.frame=O L)(he:s.heap.get? e=O oe)(hkb:B.StaysIn s.heap)(σ6:B.get? e=Yj)(hc:oe.cls= .ref C)(hd:oe.data= .fields vs)(hsz:1<vs.size)(h0:vs[0]?=O a0)(sx:oe.dict=dd)(hQ:∀h',sG B (env::outer) e C dd a0 h'->s.heap.UpToSlots h'->Q () {s with heap:=h'}):
  Y5 M A (do let a ←frameOf env;let pl ←entryPlaceOf L y9;let b ←P9 head a .none (jo L) .none pl;setField (.ref e) 1 b) Q E s:=by
 have AdJ:e∉(env::outer).filterMap (·.frame):=λz=>by let⟨_,o,q,nf⟩:=hl.mem z;rw[he]at q;cases q;exact nf vs hd
 refine Yc<|wpAny_frameOf_fun ve hl hf λk only=>Yc<|wpAny_entryPlaceOf λpl pv=>?_;unfold P9 newFields;refine Yc<|vp ?_<|pv.sizeOk5 _ _ _ _ _;have ke:k.get? e=O oe:=(only.2.1 e AdJ).trans he;have kB:B.StaysIn k:=λb o q=>(only.2.1 b λz=>by rw[(hl.mem z).1]at q;cases q).trans<|hkb b o q;generalize hT:({cls:=.type "traceback",dict:=Yj,data:=.fields ([head,.ref L,.none,jo L,.none]++(if pl.isEmpty then Yg 6 Value.none else pl)).toArray}:aJ)=tb;have H6:=Yl (h:=k) tb ke;have ne:k.objs.size≠e:=rK<|Yw ke;have tbd:tb.data= .fields ([head,.ref L,.none,jo L,.none]++(if pl.isEmpty then Yg 6 Value.none else pl)).toArray:=by rw[<-hT]
 have fr:tb.isFreed=false:=by rw[<-hT];rfl
 have d3:=Ak hd (·.setIfInBounds 1 (Value.ref k.objs.size));have e3:=O6 (t_ (·.setIfInBounds 1 (Value.ref k.objs.size))) H6<|Pr d3;have t3:=(Ed (k.push tb) (t_ (·.setIfInBounds 1 (Value.ref k.objs.size)))<|cF ne).trans<|Y6 k fr;have rV:∀b o,b≠e->k.get? b=O o->((k.push tb).update e<|t_ (·.setIfInBounds 1 (Value.ref k.objs.size))).get? b=O o:=λb o hb q=>(Ed _ _<|cF hb).trans<|Yl _ q;have nr:∀b o,s.heap.get? b=O o->(∀vs,o.data≠ .fields vs)->b≠e:=λb o q nf z=>by rw[z,he]at q;cases q;exact nf vs hd
 refine DK H6 hd hsz (hQ _ ⟨λb o q=>rV b o (λz=>by rw[z,σ6]at q;cases q)<|kB b o q,σ6,hl.of_keeps λb o q nf=>?_,⟨_,e3,?_⟩,jo L,_,_,k.objs.size,_,_,e3,⟨(OX _ _).trans hc,?_⟩,d3,?_,kB.fresh,ne,t3,tbd,?_⟩ λb o q nf=>?_)
 .let⟨sl,z⟩:=only.2.2 b o q;exact⟨_,rV b _ (nr b o q nf) z,rfl⟩
 .exact(ZvE _ _).trans sx
 .rwa[Array.getElem?_setIfInBounds_ne aaE]
 .simp[hsz]
 .first
   |(simp;done)
   |(rcases pv with rfl|⟨_,_,_,_,_,_,_,rfl⟩<;>simp)
 .let⟨sl,z⟩:=only.2.2 b o q;exact⟨sl,rV b _ (nr b o q nf) z⟩
def FC(ve:A.frames=O (env::outer))(hf:env.frame=O L)(f:sH B (env::outer) e C dd s.heap)(hQ:∀h' a0,sG B (env::outer) e C dd a0 h'->s.heap.UpToSlots h'->Q () {s with heap:=h'}):Y5 M A (tQ (.ref e) env) Q E s:=by
 obtain⟨a0,f|⟨f1,f2,f3,oe,vs,he,hc,hd,h0,h1,sx⟩⟩:=f
 .have f0:=f;let⟨f1,f2,f3,dc,fl,ht⟩:=f;by_cases q:fl=jo L
  .rw[q]at ht;exact wpAny_noteFrame_againW hf ht<|hQ s.heap a0 f0<|Heap.UpToSlots.refl _
  .let⟨oe,vs,T,oT,ts,he,⟨w9,h0⟩,hd,h1,AW,zd,hT,vi,h3⟩:=ht;let⟨o',qf,sx⟩:=dc;rw[he]at qf;cases qf;unfold tQ;simp only[hf];refine Yc<|gQ he hd h1 ?_;rw[f_<|show(Value.ref T !=Value.none)=true from by simp];refine Yc<|gQ hT vi h3 ?_;rw[i6 (show¬((fl==jo L)=true)from by simpa using q)];refine Yc<|DK hT vi (Je.mp h3).1 ?_;have other:∀b,b≠T->(s.heap.update T<|t_ (·.setIfInBounds 3 Value.none)).get? b=s.heap.get? b:=λb hb=>Ed _ _<|cF hb;have nr:∀b o,s.heap.get? b=O o->(∀vs,o.data≠ .fields vs)->b≠T:=λb o hb tj q=>by
    rw[q,hT]at hb;injection hb with hb;subst hb;exact tj ts vi
   exact y5 ve (f3.of_keeps λb o hb tj=>⟨o,(other b<|nr b o hb tj).trans hb,rfl⟩) hf ((other e<|cF zd).trans he)
    (λb o AX=>(other b λq=>by rw[q,AW]at AX;cases AX).trans<|f1 b o AX) f2 w9 hd (Je.mp h1).1 h0 sx λh' BV sl=>hQ h' a0 BV λb o hb tj=>sl b o ((other b<|nr b o hb tj).trans hb) tj
 .unfold tQ;simp only[hf];refine Yc<|gQ he hd h1 ?_;rw[i6 aaE];exact y5 ve f3 hf he f1 f2 hc hd (Je.mp h1).1 h0 sx λh' x y=>hQ h' a0 x y
def FD{a0:Yf}{fo:qA}(f:sG B l e C dd a0 s.heap)(hQ:∀h',sG B l e C dd a0 h'->s.heap.UpToSlots h'->Q () {s with heap:=h'}):Y5 M A (Ou (.ref e) fo) Q E s:=by
 let⟨f1,f2,f3,⟨o',qf,sx⟩,fl,oe,vs,T,oT,ts,he,w9,hd,h1,AW,zd,hT,vi,h3⟩:=f;rw[he]at qf;cases qf;have hsz:3<ts.size:=(Je.mp h3).1;unfold Ou;refine Yc<|gQ he hd h1 ?_;rw[f_<|show(Value.ref T !=Value.none)=true from by simp];generalize hv:(fo.elim Value.none λf=>jo f)=fv;have other:∀b,b≠T->(s.heap.update T<|t_ (·.setIfInBounds 3 fv)).get? b=s.heap.get? b:=λb hb=>Ed _ _<|cF hb;have nr:∀b o,s.heap.get? b=O o->(∀vs,o.data≠ .fields vs)->b≠T:=λb o hb tj q=>by rw[q,hT]at hb;injection hb with hb;subst hb;exact tj ts vi
 exact DK hT vi hsz (hQ _ ⟨λb o AX=>(other b λq=>by rw[q,AW]at AX;cases AX).trans<|f1 b o AX,f2,f3.of_keeps λb o hb tj=>⟨o,(other b<|nr b o hb tj).trans hb,rfl⟩,⟨_,(other e<|cF zd).trans he,sx⟩,fv,_,vs,T,_,_,(other e<|cF zd).trans he,w9,hd,h1,AW,zd,
  O6 _ hT (Pr<|Ak vi _),Ak vi _,by simp[hsz]⟩ λb o hb tj=>⟨o.slots,(other b<|nr b o hb tj).trans hb⟩)
def Zwx(ve:A.frames=O (env::outer))(hf:env.frame=O L)(f:sH B (env::outer) e C dd s.heap)(hQ:∀h',sH B outer e C dd h'->s.heap.UpToSlots h'->Q () {s with heap:=h'}):Y5 M A (Ox env<|.ref e) Q E s:=by unfold Ox;exact Yc<|FC ve hf f λh1 a0 x y=>FD x λh' z y'=>hQ h' ⟨a0,.inl z.tail⟩<|y.trans y'
end
structure yV(B:aF)(fs ex:l6)(H₀:Hp)(h₀:aF)(H:Hp)(e:Ys):Prop where
 yg:∀b,H b≠Yj->b≠e->∃o,B.get? b=O o
 old:∀b o,h₀.get? b=O o->H₀ b=Yj->b∉fs->b∉ex->B.get? b=O o
 there:∀b o,h₀.get? b=O o->b∉fs->b∉ex->∃o',B.get? b=O o'
section
variable {B h h' h₀:aF} {fs ex:l6} {H H₀:Hp} {e C:Ys} {dd:qA} {P:Y8} {w:aX}
def yV.kb(c:yV B fs ex H₀ h₀ H e)(ok:eY P w H h)(he:H e=O (uo e C dd))(s1:B.StaysIn h)(s2:B.StaysIn h')(x:Bl e C dd h'):eY P w H h':=λb u q=>by
 by_cases hb:b=e
 .subst hb;rw[he]at q;cases q;exact r5 x
 .refine(ok b u q).rV (λd v hd z=>?_) (λ_ z=>z) λ_ _ z=>z;have sR:H d≠Yj/\d≠e:=by
   rcases hd with rfl|hd
   .exact⟨by rw[q];simp,hb⟩
   .exact⟨by rw[hd];simp,by rintro rfl;rw[he]at hd;cases hd⟩
  let⟨o,ho⟩:=c.yg d sR.1 sR.2;have:=(s1 d o ho).symm.trans z;cases this;exact s2 d _ ho
def yV.un(c:yV B fs ex H₀ h₀ H e)(u:Un fs ex H₀ H h₀ h)(s2:B.StaysIn h')(sl:h.UpToSlots h')(nf:∀b∈fs,H₀ b=Yj/\∀o,h₀.get? b=O o->∀vs,o.data≠ .fields vs):Un fs ex H₀ H h₀ h' where
 keep:=λb o q n hb hx=>s2 b o<|c.old b o q n hb hx
 slot:=λb o q n hb hx=>by let⟨s,e1⟩:=u.slot b o q n hb hx;let⟨s',e2⟩:=sl b _ e1<|(nf b hb).2 o q;exact⟨s',e2⟩
 free:=u.free
 there:=λb o q hx=>by
  by_cases hb:b∈fs
  .let⟨s,e1⟩:=u.slot b o q (nf b hb).1 hb hx;let⟨s',e2⟩:=sl b _ e1<|(nf b hb).2 o q;exact⟨_,e2⟩
  .exact let⟨o',z⟩:=c.there b o q hb hx;⟨o',s2 b o' z⟩
 ri:=u.ri
 nR:=u.nR
 ph:=u.ph
end
def uz(P:Y8)(w:aX):qG:=λouter H s E ev s'=>∃e C dd H' B,ev= .ref e/\s'.os=s.os/\t8 s'.gens/\Un (ti outer) [] H H' s.heap s'.heap/\eY P w H' s'.heap/\H' e=O (uo e C dd)/\
 sH B outer e C dd s'.heap/\yV B (ti outer) [] H s.heap H' e/\E (.ref C) (O e) H'
def FE(X:Cx)(e C:Ys)(H':Hp)(s':Yi):Prop:=∃dd,H' e=O (uo e C dd)/\∃B,sH B X.stack e C dd s'.heap/\yV B X.fs X.ex X.H₀ X.s₀.heap H' e/\∀p∈X.pn,B.get? p.1=O p.2
def XW(X:Cx)(σ:St)(e C:Ys)(H':Hp):Prop:=∀c6 s',c9 X c6 σ H' s'->FE X e C H' s'->X.xe (.ref e) s'
def EX(X:Cx)(σ:St):XK:=λcv oe H'=>∀e C,cv= .ref C->oe=O e->XW X σ e C H'
section
variable {X:Cx} {c6:oy} {σ:St} {H:Hp} {s s':Yi}
def Gh(I:c9 X c6 σ H s){b:Ys}{o:aJ}(q:X.s₀.heap.get? b=O o)(hb:b∉X.fs):b∉ti X.stack:=λz=>by
 rcases Yt.mp (I.xq b z)with e|e
 .exact oz (Yy (Yw q) I.ok.above) (by rw[e];exact pG _)
 .exact hb e
def q6(I:c9 X c6 σ H s):∀b∈X.fs,X.H₀ b=Yj/\∀o,X.s₀.heap.get? b=O o->∀vs,o.data≠ .fields vs:=λb hb=>⟨I.ok.rN b hb,λo q=>by let⟨_,o',ho,hd⟩:=I.ok.lU.mem hb;rw[ho]at q;cases q;exact hd⟩
def AfK(I:c9 X c6 σ H s){E:XK}{ev:Yf}(h:uz X.prog X.w X.stack H s E ev s'):∃e C H',ev= .ref e/\c9 X c6 σ H' s'/\FE X e C H' s'/\E (.ref C) (O e) H':=by
 let⟨e,C,dd,H',B,rfl,os,bare,un,kb,he,fl,cv,hE⟩:=h;refine⟨e,C,H',rfl,I.uC os un kb bare nofun,⟨dd,he,B,fl,⟨cv.yg,λb o q n hb hx=>?_,λb o q hb hx=>?_⟩,λp hp=>?_⟩,hE⟩
 .exact cv.old b o (I.base.keep b o q n hb hx) (I.base.free b o q n hx) (Gh I q hb) nofun
 .let⟨o1,q1⟩:=I.base.there b o q hx;exact cv.there b o1 q1 (Gh I q hb) nofun
 .let⟨e,n,ne,nf,_⟩:=I.pin p<|vJ _ hp;exact cv.old p.1 p.2 e n (λz=>(Yt.mp<|I.xq p.1 z).elim ne nf) nofun
def Zw1(I:c9 X c6 σ H s){h':aF}{e:Ys}{vs:l5}(m:Heap.MadeExcOf s.heap h' e (.ref C) vs):
  H e=Yj/\c9 X c6 σ (k4 H e<|uo e C Yj) {s with heap:=h'}/\FE X e C (k4 H e<|uo e C Yj) {s with heap:=h'}:=by
 have hn:H e=Yj:=by
  cases q:H e with
  |none=>rfl|some u=>let⟨o,ho⟩:=Xa<|I.kb e u q;rw[m.new]at ho;cases ho
 let⟨t,ht,_,_⟩:=m.there;have xo:Bl e C Yj h':=⟨_,_,ht,rfl,rfl,rfl⟩;have ne:∀b o,s.heap.get? b=O o->b≠e:=λb o q z=>by subst z;rw[m.new]at q;cases q
 have un:Un X.fs [] H (k4 H e<|uo e C Yj) s.heap h':=
  ⟨λb u q _ _ _=>m.keeps b u q,
   λb u q _ _ _=>⟨u.slots,m.keeps b u q⟩,
   λb u q n _=>by rwa[eF<|ne b u q],
   λb u q _=>⟨u,m.keeps b u q⟩,
   λb xs q=>by rwa[eF<|uc q hn],
   λb u xs q=>by rwa[eF<|uc q hn],
   λb ps q=>⟨#[],by rw[eF<|uc q hn,q];simp⟩⟩
 have kb:eY X.prog X.w (k4 H e<|uo e C Yj) h':=λb u q=>by
  by_cases hb:b=e
  .subst hb;rw[pH]at q;cases q;exact r5 xo
  .rw[eF hb]at q;exact(I.kb b u q).rV (λc v _ z=>m.keeps c v z) (λc z=>by rwa[eF<|uc z hn]) λc xs z=>by rwa[eF<|uc z hn]
 refine⟨hn,I.un (t':=s.toks) un kb,Yj,pH,pq s.heap<|ti X.stack,⟨.ref t,.inr ⟨λb o q=>m.keeps b o<|N5 _ q,?_,?_,_,_,ht,rfl,rfl,rfl,rfl,rfl⟩⟩,⟨λb hb oq=>?_,λb o q n hb hx=>?_,λb o q hb hx=>?_⟩,λp hp=>?_⟩
 .cases q:(pq s.heap<|ti X.stack).get? e with
  |none=>rfl|some o=>have:=N5 _ q;rw[m.new]at this;cases this
 .exact(PySem.W.funFrames_hide I.stack λenv he a ha=>Ac.mpr ⟨env,he,ha⟩).of_keeps λb o hb _=>⟨o,m.keeps b o hb,rfl⟩
 .rw[eF oq]at hb;let⟨u,q⟩:=Option.ne_none_iff_exists'.mp hb;let⟨o,ho⟩:=Xa<|I.kb b u q;exact⟨o,Dv _ ho λz=>hb<|I.UJ b z⟩
 .exact Dv _ (I.base.keep b o q n hb hx)<|Gh I q hb
 .let⟨o1,q1⟩:=I.base.there b o q hx;exact⟨o1,Dv _ q1<|Gh I q hb⟩
 .let⟨e,n,ne,nf,_⟩:=I.pin p<|vJ _ hp;exact Dv _ e λz=>(Yt.mp<|I.xq p.1 z).elim ne nf
end
def ig(K:Yb)(H:Hp)(ι:l6)(Q:VK)(E:XK)(r:R3 D):Prop:=match r with
 | .ok d M'=>∀v H' ι',k7 K H ι H' ι'->aC K H' ι' M'->i0 K H' ι' d v->Q v H'|.exc x M'=>∀e C H' ι',k7 K H ι H' ι'->aC K H' ι' M'->i0 K H' ι' x.arg (.ref e)->ClsAt K x.cls C->E (.ref C) (O e) H'|.bad=>False
def ig.up{K:Yb}{H1:Hp}{ι1:l6}{Q:VK}{E:XK}{r:R3 D}(e:k7 K H ι H1 ι1)(h:ig K H ι Q E r):ig K H1 ι1 Q E r:=by
 cases r with
 |ok d M=>exactλv H' ι' e' S r=>h v H' ι' (e.trans e') S r|exc x M=>exactλa C H' ι' e' S r=>h a C H' ι' (e.trans e') S r|bad=>exact h
def aA.x{K:Yb}{H:Hp}{ι:l6}{Q:VK}{E:XK}{r:R3 D}(h:aA K H ι Q r):ig K H ι Q E r:=by
 cases r with
 |ok d M=>exact h|exc x M=>cases h|bad=>exact h
def Rr(K:Yb)(n:Nat)(F:F3):Sp:=λvs H Q E=>∃ι M ds,aC K H ι M/\aB K H ι ds vs/\ds.length=n/\ig K H ι Q E (F ds M)
def AfL(X:Cx)(f:E3):TE:=λσ H Q=>∃ι M env,aC X.K H ι M/\b_ X.K H ι env σ/\ig X.K H ι Q (EX X σ) (f env M)
def mK(X:Cx)(any:Bool)(σ:St)(H:Hp)(ι:l6)(E:Ends)(r:O3):Prop:=match r with
 | .nx env' M'=>∀σ' H' ι',k7 X.K H ι H' ι'->aC X.K H' ι' M'->b_ X.K H' ι' env' σ'->E.nx σ' H'|.bk env' M'=>∀σ' H' ι',k7 X.K H ι H' ι'->aC X.K H' ι' M'->b_ X.K H' ι' env' σ'->E.bk σ' H'|.ct env' M'=>∀σ' H' ι',k7 X.K H ι H' ι'->aC X.K H' ι' M'->b_ X.K H' ι' env' σ'->E.ct σ' H'|.rt d M'=>∀v H' ι',k7 X.K H ι H' ι'->aC X.K H' ι' M'->i0 X.K H' ι' d v->E.rt v H'
 | .exc x M'=>∀σ' e C H' ι',(any=false->σ'=σ)->k7 X.K H ι H' ι'->aC X.K H' ι' M'->i0 X.K H' ι' x.arg (.ref e)->ClsAt X.K x.cls C->XW X σ' e C H'|.bad=>False
def w7(X:Cx)(any:Bool)(f:S3):TS:=λE σ H=>∃ι M env,aC X.K H ι M/\b_ X.K H ι env σ/\mK X any σ H ι E (f env M)
def oU(X:Cx)(e:Expr)(f:E3):Prop:=PE X e<|AfL X f
def qO(X:Cx)(any:Bool)(st:Ye1)(f:S3):Prop:=PS X st<|w7 X any f
def nG(X:Cx)(any:Bool)(st:rq)(f:S3):Prop:=kj X st<|w7 X any f
variable{σ:St}
def mK.up{X:Cx}{any:Bool}{σ1:St}{H1:Hp}{ι1:l6}{Q:Ends}{r:O3}(e:k7 X.K H ι H1 ι1)(hs:any=false->σ1=σ)(h:mK X any σ H ι Q r):mK X any σ1 H1 ι1 Q r:=by
 cases r with
 |nx d M=>exactλv H' ι' e' S r=>h v H' ι' (e.trans e') S r|bk d M=>exactλv H' ι' e' S r=>h v H' ι' (e.trans e') S r|ct d M=>exactλv H' ι' e' S r=>h v H' ι' (e.trans e') S r|rt d M=>exactλv H' ι' e' S r=>h v H' ι' (e.trans e') S r
 |exc x M=>exactλσ' a C H' ι' z e' S r=>h σ' a C H' ι' (λq=>(z q).trans<|hs q) (e.trans e') S r|bad=>exact h
def FF{f:S3}{X:Cx}{any:Bool}{env:Zz}{M:c5}{E:Ends}(h:mK X any σ H ι E (jb f env M)):lM X.K H ι E (f env M):=by
 unfold jb at h;cases q:f env M with
 |exc x M1=>rw[q]at h;cases h|bad=>rw[q]at h;cases h|nx e M1=>rwa[q]at h|rt e M1=>rwa[q]at h
 |bk e M1=>rwa[q]at h|ct e M1=>rwa[q]at h
section
variable {X:Cx} {any:Bool} {st:Ye1} {xn:rq} {e c1:Expr} {f:E3} {u w:S3} {pos:aZ}
def yW(h:CS X.iC st u):qO X any st (jb u):=λc6 s σ H D I z=>by let⟨ι,M,env,S,E,hf⟩:=z;exact gq (h c6 s σ H D (I.p9 _) ⟨ι,M,env,S,E,FF (X:=X) hf⟩) (λ_ _ q=>q.nQ) λ_ _ z=>gM z
def Kg(h:nD X.iC xn u):nG X any xn (jb u):=λc6 s σ H D I z=>by let⟨ι,M,env,S,E,hf⟩:=z;exact gq (h c6 s σ H D (I.p9 _) ⟨ι,M,env,S,E,FF (X:=X) hf⟩) (λ_ _ q=>q.nQ) λ_ _ z=>gM z
def iu(h:qO X any st u):nG X any [st] u:=RF h
def jx(h1:qO X true st u)(h2:nG X true xn w):nG X true (st::xn) (Zx u w):=(RE h1 h2).imp λD σ H ao=>by
 let⟨ι,M,env,S,E,h⟩:=ao;refine⟨ι,M,env,S,E,?_⟩;unfold Zx at h;cases q:u env M with
 |nx e M1=>rw[q]at h;exactλσ' H' ι' x S' E'=>⟨ι',M1,e,S',E',mK.up x nofun h⟩|rt e M1=>rwa[q]at h|bk e M1=>rwa[q]at h|ct e M1=>rwa[q]at h
 |exc x M1=>rwa[q]at h|bad=>rwa[q]at h
def wB{x y:rq}(hc:CT X.iC c1 f)(ha:nG X any x u)(hb:nG X any y w):qO X any (.If c1 x y pos) (aQ (bR f) u w):=(W5 (PT.iC hc) ha hb).imp λD σ H ao=>by
 let⟨ι,M,env,S,E,h⟩:=ao;refine⟨ι,M,env,S,E,?_⟩;unfold aQ bR at h;cases q:f env M with
 | ok d M1=>
  rw[q]at h;cases d with
  |bl k=>
   intro H1 ι1 x1 S1;cases k with
   |true=>rw[f_ aaD];exact⟨ι1,M1,env,S1,E.mono x1,mK.up x1 (λ_=>rfl) h⟩|false=>rw[i6 aaE];exact⟨ι1,M1,env,S1,E.mono x1,mK.up x1 (λ_=>rfl) h⟩
  |_=>cases h
 |exc x M1=>rw[q]at h;cases h|bad=>rw[q]at h;cases h
def jG(h:oU X e f)(hs:pC e Yj pos.line X.env=pure false:=by rfl):qO X any (.Expr e pos) (aG f):=(RH h hs).imp λD σ H ao=>by
 let⟨ι,M,env,S,E,h⟩:=ao;refine⟨ι,M,env,S,E,?_⟩;unfold aG at h;cases q:f env M with
 |ok d M1=>rw[q]at h;exactλv H1 ι1 x1 S1 r1=>h σ H1 ι1 x1 S1 (E.mono x1)|exc x M1=>rw[q]at h;exactλa C H' ι' x1 S1 r1 c1 a' C' e1 e2=>by cases e1;cases e2;exact h σ a C H' ι' (λ_=>rfl) x1 S1 r1 c1|bad=>rw[q]at h;cases h
def FG(i:Nat){x:ak}{ow:aZ}(hN:X.N.Nodup)(he:oU X e f)(hi:X.N[i]?=O x:=by rfl)(hx:Loc X.env.scope x:=by first|exact Or.inl rfl|exact Or.inr aaD)(hs:pC e (O (.Name x ow)) pos.line X.env=pure false:=by rfl)(hf:X.fn x=true\/X.env.scope.names.lookup x=O .local:=by first|exact .inl rfl|exact .inr aaD):qO X any (.Assign [.Name x ow] e pos) (aD i f):=(RS hN hi hx he hs hf).imp λD σ H ao=>by
 let⟨ι,M,env,S,E,h⟩:=ao;refine⟨ι,M,env,S,E,?_⟩;unfold aD at h;cases q:f env M with
 |ok d M1=>rw[q]at h;exactλv H1 ι1 x1 S1 r1=>h _ H1 ι1 x1 S1 ((E.mono x1).set i r1)|exc x M1=>rw[q]at h;exactλa C H' ι' x1 S1 r1 c1 a' C' e1 e2=>by cases e1;cases e2;exact h σ a C H' ι' (λ_=>rfl) x1 S1 r1 c1|bad=>rw[q]at h;cases h
end
variable{N:oB}
section
variable {P:Y8} {w:aX} {K:Yb} {mg:ak->oo} {base:aF}
def Zwk{qual:ak}{scope:Scope}{f:Ys}{cd:Yf}{A:cC}{outer:rL}{s:Yi}{E:XK}{e:Ys}{H':Hp}(hE:E (.ref C) (O e) H'):
  XW (pK (uz P w) P w K mg base N qual scope f cd A outer s H E) σ e C H':=λc6 s' I x=>by
 let⟨dd,he,B,fl,cv,_⟩:=x;show Y5 _ _ (Ox _<|.ref e) _ _ s';refine Zwx I.ok.frames aaD fl λh' BV sl=>?_;exact⟨e,C,dd,H',B,rfl,I.os,I.bare,cv.un I.base BV.stays sl<|q6 I,cv.kb I.kb he fl.stays BV.stays BV.yU,he,BV,cv,hE⟩
def pg{H':Hp}{ι':l6}{M M':c5}{Q:VK}{E:XK}{d:D}{v:V}(S:aC K H ι M)(x:k7 K H ι H' ι')(S':aC K H' ι' M')(r:i0 K H' ι' d v)(h:ig K H ι Q E (tidy M d M')):Q v H':=YD S x S' r (by unfold tidy at h |-;split at h<;>(rename_i c;first|rw[f_ c]|rw[i6 c])<;>exact h)
theorem sa{x qual:ak}{st:Ye1}{f:Ys}{k:Nat}{body:S3}(F:rP K x qual st f fd)(S:bZ N ps (Zq st))(hb:∀(oj:Yf) (A:cC) (outer:rL) (s:Yi) (H:Hp) (E:XK),dN k (A.deeper<|mY qual (Zq st) (d4 s) f oj)->nG (pK (uz P w) P w K mg base N qual (Zq st) f oj A outer s H E) true (jq st) body):
  iM P w K mg base (uz P w) (k+1) f fd ps (Rr K (b9 ps)<|aK (b9 ps) (b9 N) body):=by
 let⟨oc,od,dV,kV,doc,pm,an,oj,ct,t9,rfl,lk,vt⟩:=F.ex;refine SA lk vt S (λvs H Q E ⟨ι,M,ds,_,r,l,_⟩=>by rw[r.length,l]) λA outer s H vs Q E hr ao=>?_;let⟨ι,M,ds,SR,r,l,h⟩:=ao;refine⟨_,hb oj A outer s H E hr,ι,M,ds.map O++Yg (b9 N-b9 ps) Yj,SR,?_,?_⟩
 .have e:L2.start N vs=vs.map O++Yg (b9 N-b9 ps) Yj:=by unfold L2.start;rw[r.length,l]
  rw[e];exact b_.start r _
 .unfold aK at h;rw[f_ l]at h;cases q:body (ds.map O++Yg (b9 N-b9 ps) Yj) M with
  |nx env' M'=>rw[q]at h;exactλσ' H' ι' x S' E'=>pg SR x S' i0.Z h|rt d M'=>rw[q]at h;exactλv H' ι' x S' r'=>pg SR x S' r' h|bk _ _=>rw[q]at h;cases h|ct _ _=>rw[q]at h;cases h
  |exc _ _=>rw[q]at h;exactλσ' a C H' ι' _ x S' r' c'=>Zwk (h a C H' ι' x S' r' c')|bad=>rw[q]at h;cases h
end
section
variable {P:Y8} {w:aX} {K:Yb} {mg:ak->oo} {base:aF}
def tr{k n:Nat}{f:Ys}(G:iM P w K mg base (uz P w) k f fd ps (Rr K n F)):iM P w K mg base l_ k f fd ps (uq K n F):=
 ⟨λvs H Q E z=>let⟨ι,M,ds,S,r,l,h⟩:=z;G.len vs H Q E0 ⟨ι,M,ds,S,r,l,h.x⟩,λA outer s H args us vs Q E hr he hb hv z=>let⟨ι,M,ds,S,r,l,h⟩:=z;DN (G.run A outer s H args us vs Q E0 hr he hb hv ⟨ι,M,ds,S,r,l,h.x⟩) λr s' z=>by
  cases r with
  |error e=>exfalso;let⟨_,_,_,_,_,_,_,_,_,_,_,_,_,z⟩:=z;exact z|ok fl=>cases fl<;>exact z⟩
def sI(P:Y8)(w:aX)(K:Yb)(mg:ak->oo)(base:aF)(k:Nat)(x:ak)(ps:oB)(F:F3):Prop:=(∀ds M,b9 ds≠b9 ps->F ds M= .bad)/\∃f fd,mg x=O (.ref f)/\rC K (.ref f)=true/\Binds K fd ps []/\iM P w K mg base (uz P w) k f fd ps (Rr K (b9 ps) F)
def eX(P:Y8)(w:aX)(K:Yb)(mg:ak->oo)(base:aF)(k:Nat)(C:Ys)(m:ak)(ps:oB)(F:F3):Prop:=(∀ds M,b9 ds≠b9 ps->F ds M= .bad)/\∃f fd,Meth K C m f/\Binds K fd ps []/\iM P w K mg base (uz P w) k f fd ps (Rr K (b9 ps) F)
def sI.fn{k:Nat}{x:ak}(h:sI P w K mg base k x ps F):au P w K mg base k x ps F:=let⟨n,f,fd,a,b,c,d⟩:=h;⟨n,f,fd,a,b,c,tr d⟩
def eX.BW{k:Nat}{x:ak}(h:eX P w K mg base k C x ps F):AfI P w K mg base k C x ps F:=let⟨n,f,fd,a,b,d⟩:=h;⟨n,f,fd,a,b,tr d⟩
theorem sI.of{x:ak}{st:Ye1}{k:Nat}{body:S3}(d:cH K mg x st ps)(S:bZ N ps (Zq st))(hb:∀(f:Ys) (oj:Yf) (A:cC) (outer:rL) (s:Yi) (H:Hp) (E:XK),dN k (A.deeper<|mY x (Zq st) (d4 s) f oj)->nG (pK (uz P w) P w K mg base N x (Zq st) f oj A outer s H E) true (jq st) body):
  sI P w K mg base (k+1) x ps (aK (b9 ps) (b9 N) body):=by
 let⟨f,fd,F,m,bi⟩:=d;exact⟨λds M h=>i6 h,f,fd,m,F.kp,bi,sa F S<|hb f⟩
def eX.of{m qual:ak}{st:Ye1}{k:Nat}{body:S3}(d:oR K C m qual st ps)(S:bZ N ps (Zq st))(hb:∀(f:Ys) (oj:Yf) (A:cC) (outer:rL) (s:Yi) (H:Hp) (E:XK),dN k (A.deeper<|mY qual (Zq st) (d4 s) f oj)->nG (pK (uz P w) P w K mg base N qual (Zq st) f oj A outer s H E) true (jq st) body):
  eX P w K mg base (k+1) C m ps (aK (b9 ps) (b9 N) body):=by
 let⟨f,fd,F,mt,bi⟩:=d;exact⟨λds M h=>i6 h,f,fd,mt,bi,sa F S<|hb f⟩
end
section
variable {X:Cx} {o e:Expr} {es:pw} {f:E3} {gl:dg} {c m:i4} {C:Ys} {fn x:ak} {pos ow n5 p:aZ} {k:Nat} {ps:oB} {F:F3}
def CR{fa:Ys}{sp:Sp}{c6:oy}{s:Yi}{Q:VK}{us:l5}{vs:k6}(G:iM X.prog X.w X.K X.mg X.base (uz X.prog X.w) k fa fd ps sp)(hr:dN k X.A)(hb:Binds X.K fd ps [])(I:c9 X c6 σ H s)(r:i3 vs us)(h:sp vs H Q (EX X σ)):Y5 (aq X.prog X.w) X.A (call (.ref fa) us) (EP X c6 σ Q) X.xe s:=by
 have hl:(us++[]).length=b9 ps:=by rw[gJ,<-r.length];exact G.len _ _ _ _ h
 have mc:=hb s us I.eZ hl;rw[gJ]at mc;refine VP<|DN (G.run X.A X.stack s H ⟨us,[]⟩ us vs Q (EX X σ) hr I.env0 mc r h) λr s' hq=>?_;cases r with
 |error e=>let⟨e,C,H',rfl,I',x,hE⟩:=AfK I hq;exact hE e C aaD aaD c6 s' I' x|ok fl=>
  cases fl with
  |ret u=>exact I.after hq|next=>exact gM hq|brk=>exact gM hq|cont=>exact gM hq
def FH{es:pw}{c6:oy}{s:Yi}{M M1:c5}{env:Zz}{ds:h8}{R:l5->Yi->Prop}(ha:CA X.iC es gl)(I:c9 X c6 σ H s)(S:aC X.K H ι M)(E:b_ X.K H ι env σ)(q:gl env M= .ok ds M1)(h:∀us s1 vs H1 ι1,c9 X c6 σ H1 s1->i3 vs us->k7 X.K H ι H1 ι1->aC X.K H1 ι1 M1->aB X.K H1 ι1 ds vs->R us s1):Y5 (aq X.prog X.w) X.A (spliced<|fZ pos<|Y1 es X.env) R X.xe s:=by
 refine gq (ha pos c6 s σ H (λvs H1=>∃ι1,k7 X.K H ι H1 ι1/\aC X.K H1 ι1 M1/\aB X.K H1 ι1 ds vs) (I.p9 _) ⟨ι,M,env,S,E,?_⟩) (λus s1 z=>?_) λ_ _ z=>gM z
 .rw[q];exactλvs H1 ι1 x1 S1 r1=>⟨ι1,x1,S1,r1⟩
 .let⟨vs,H1,I1,r,ι1,x1,S1,r1⟩:=z;exact h us s1 vs H1 ι1 I1.nQ r x1 S1 r1
def hJ(G:sI X.prog X.w X.K X.mg X.base k x ps F)(hr:dN k X.A)(ha:CA X.iC (e::es) gl)(hg:Gl X x:=by rfl)(sg:(x==("__debug__":ak))=false:=by decide)(he:Y1 (e::es) X.env=(false,aU e X.env)::Y1 es X.env:=by rfl)(pv:(fZ pos<|Y1 es X.env).any (·.1)=false:=by rfl):oU X (.Call (.Name x p) (e::es) [] pos) (Zr F<|cB gl):=by
 let⟨hn,fa,fd,hm,kp,bi,ok⟩:=G;intro c6 s σ H Q I h;let⟨ι,M,env,S,E,h⟩:=h;refine Il<|Es I hg hm ?_ sg;unfold Zr cB at h;cases q:gl env M with
 |exc _ _=>rw[q]at h;cases h|bad=>rw[q]at h;cases h|ok ds M1=>
  rw[q]at h;have h:ig X.K H ι Q (EX X σ) (F ds M1):=h;have hl:b9 ds=b9 ps:=by refine Jf λz=>?_;rw[hn ds M1 z]at h;cases h
  exact N6 (h₀:=X.base) I.ok.mod.vR kp (FH ha I S E q λus s1 vs H1 ι1 I1 r x1 S1 r1=>⟨I1.eZ,CR ok hr bi I1 r ⟨ι1,M1,ds,S1,r1,hl,h.up x1⟩⟩) he pv
def iw{pl:mW Bool}(kc:yR X.K c C)(G:eX X.prog X.w X.K X.mg X.base k C fn ps F)(hr:dN k X.A)(ho:C3 X.iC o f)(ha:CA X.iC (e::es) gl)(hf:fn=nm m:=by decide +kernel)(sf:Y1 (e::es) X.env=(false,aU e X.env)::Y1 es X.env:=by rfl)(pv:(fZ pos<|Y1 es X.env).any (·.1)=false:=by rfl)(ht:aU (.Call (.Attribute o fn n5) (e::es) [] pos) X.env=(do
   let ov ←aU o X.env
   Iv n5.atName
   let(f,first) ←z8 [ov] (V0 ov fn pl)
   callWith pos f first (fZ pos<|Y1 (e::es) X.env) (z7 pos<|zY [] X.env)):=by rfl):oU X (.Call (.Attribute o fn n5) (e::es) [] pos) (cM c m F (bR f)<|cB gl):=by
 subst hf;let⟨hn,fa,fd,mt,bi,ok⟩:=G;intro c6 s σ H Q I h;let⟨ι,M,env,S,E,h⟩:=h;refine PySem.W.methodCall_KW (pl:=pl) ?_ ht;unfold cM bR cB at h;cases q:f env M with
 |exc _ _=>rw[q]at h;cases h|bad=>rw[q]at h;cases h|ok a M1=>
  rw[q]at h;refine gq (ho c6 s σ H (λv H1=>∃ι1,k7 X.K H ι H1 ι1/\aC X.K H1 ι1 M1/\i0 X.K H1 ι1 a v) (I.p9 _) ⟨ι,M,env,S,E,by rw[q];exactλv H1 ι1 x1 S1 r1=>⟨ι1,x1,S1,r1⟩⟩) (λu s1 z=>?_) λ_ _ z=>gM z;let⟨v,H1,I1,rv,ι1,x1,S1,r1⟩:=z;have I1:=I1.nQ;simp only[R3.bind]at h;split at h
  .rename_i hi;let⟨n,fs,rfl,hm,hl⟩:=ZvZ (ps:=ps) (F:=F) (n:=0) hi;let⟨pa,hp,rfl⟩:=r1.fD;let⟨dx,gs,ea,fr⟩:=Z9 kc S1 hp hm;obtain rfl:u=Value.ref pa:=rv;refine Zqo I1 ea kc.cls mt ((fr.look (f:=m)).1 hl) ?_;cases q2:gl env M1 with
   |exc _ _=>rw[q2]at h;cases h|bad=>rw[q2]at h;cases h|ok ds M2=>
    rw[q2]at h;have h:ig X.K H ι Q (EX X σ) (F (.ref n::ds) M2):=h;have hl:(D.ref n::ds).length=b9 ps:=by refine Jf λz=>?_;rw[hn _ M2 z]at h;cases h
    exact N6 (first:=[.ref pa]) (h₀:=X.base) I.ok.mod.vR mt.kp (FH ha I1 S1 (E.mono x1) q2 λus s2 vs H2 ι2 I2 r x2 S2 r2=>⟨I2.eZ,CR (us:=.ref pa::us) (vs:=.ref pa::vs) ok hr bi I2 (.cons aaD r) ⟨ι2,M2,.ref n::ds,S2,aB.cons (i0.ref<|x2.pre _ _ hp) r2,hl,h.up<|x1.trans x2⟩⟩) sf pv
  .exact h.elim
end
abbrev FI:l5:=[.type "ValueError",.type "Exception",.type "BaseException",.type "object"]
def FK(K:Yb)(c:i4)(C:Ys):Prop:=ClsAt K c C/\∃(na q:ak) (N:Ys) (bs bm:l5) (hdct:Bool) (sn:oB) (sub:l5) (ab:Bool) (col:Option Bool) (dd:qA) (k0 k1 k2 k3 k5:oo),
 K.lookup C=O (Ir na q C N bs bm hdct sn sub ab col dd k0 k1 k2 k3 k5 "ValueError.__new__")/\(∀h:aF,K.In h->∃mN,h.Ns N mN/\mN "__init__" =Yj)/\∀h:aF,K.In h->OwnTail h FI bm
def σ8{X:Cx}{any:Bool}{x:ak}{np i9 pos:aZ}{a:Expr}{as:pw}{gl:dg}(pj:FK X.K c C)(hm:X.mg x=O (.ref C))(ha:CA X.iC (a::as) gl)(hc:X.calm=true:=by rfl)(hg:Gl X x:=by rfl)(sg:(x==("__debug__":ak))=false:=by decide)(he:Y1 (a::as) X.env=(false,aU a X.env)::Y1 as X.env:=by rfl)(pv:(fZ i9<|Y1 as X.env).any (·.1)=false:=by rfl):qO X any (.Raise (O<|.Call (.Name x np) (a::as) [] i9) Yj pos) (FN c gl):=by
 let⟨oE,na,q,N,bs,bm,hdct,sn,sub,ab,col,dd,k0,k1,k2,k3,k5,lk,hN,hT⟩:=pj;intro c6 s σ H D I z;let⟨ι,M,env,S,E,h⟩:=z;unfold FN at h;cases qg:gl env M with
 |exc _ _=>rw[qg]at h;cases h|bad=>rw[qg]at h;cases h|ok ds M1=>
  rw[qg]at h
  match ds,h,qg with
  |[],h,_=>cases h|_::_::_,h,_=>cases h|[d],h,qg=>
   let⟨mN,yi,hni⟩:=hN X.base I.ok.mod.vR;refine wpAny_Raise_call_subU (C:=C) (nm:=na) (q:=q) (N:=N) (bs:=bs) (bm:=bm) (hdct:=hdct) (sn:=sn) (sub:=sub) (ab:=ab) (col:=col) (dd:=dd) (k0:=k0) (k1:=k1) (k2:=k2) (k3:=k3) (k5:=k5)
    OF (bmB:=FI) aaE OF (mN:=mN) ((hT X.base I.ok.mod.vR).hasType aaE) (I.ok.hd hc) (by rw[he];show(false|| (fZ i9<|Y1 as X.env).any (·.1))=false;rw[pv];rfl) hni (Es I hg hm ⟨rfl,?_⟩ sg)
   have key:=FH (pos:=i9) (R:=λus s2=>b9 us<=bI/\s2.heap.get? C=O (Ir na q C N bs bm hdct sn sub ab col dd k0 k1 k2 k3 k5 "ValueError.__new__")/\s2.heap.Ns N mN/\OwnTail s2.heap FI bm/\∀h' e,Heap.MadeExcOf s2.heap h' e (.ref C) us->X.xe (.ref e) {s2 with heap:=h'}) ha I S E qg (λus s1 vs H1 ι1 I1 r x1 S1 r1=>by
    refine⟨?_,I1.eZ _ _ lk,yi.keeps I1.bk,hT _ I1.eZ,λh' e mk=>?_⟩
    .rw[<-r.length,r1.length];exact(by decide:1<=bI)
    .let⟨hn,I2,Kh⟩:=Zw1 I1 mk;exact h σ e C _ (ι1++[e]) (λ_=>rfl) (x1.trans<|Loose.HY<|.inl hn) (S1.new hn<|.inr ⟨C,Yj,pH,rfl,oE,.inl aaD⟩) (i0.ref (by rw[<-S1.len];simp)) oE c6 _ I2 Kh)
   rw[he]at key |-;exact Pz (gq key (λvs s₂ h₂=>⟨rfl,h₂⟩) λ_ _ y=>y)
abbrev FO(X:Cx)(A':cC)(E':Yf->Yi->Prop):Cx:={X with A:=A',calm:=false,xe:=E'}
abbrev Ru(X:Cx)(Rv:oy)(E':Yf->Yi->Prop):Cx:={X with pn:=Rv,xe:=E'}
variable{E':Yf->Yi->Prop}{tL:oy}
section
variable {X:Cx} {c6:oy} {σ:St} {H:Hp} {s:Yi}
def H8(I:c9 X c6 σ H s)(A':cC)(E':Yf->Yi->Prop)(hf:A'.frames=X.A.frames):c9 (FO X A' E') c6 σ H s:=
 let ok:=I.ok
 ⟨⟨ok.mod,ok.kind,ok.glob,ok.blt,ok.above,ok.inj,ok.has,ok.AG,nofun,hf.trans ok.frames,ok.Ep,ok.Er,ok.bs,ok.pI,ok.zN,ok.xu,ok.lU,ok.rN⟩,I.os,I.bare,I.base,I.loc,I.cell,I.free,I.mR,I.pin,I.kb,I.len⟩
def Zuj{σ':St}{H':Hp}{s':Yi}{A':cC}(I:c9 X c6 σ H s)(J:c9 (FO X A' E') tL σ' H' s'):c9 X tL σ' H' s':=⟨I.ok,J.os,J.bare,J.base,J.loc,J.cell,J.free,J.mR,J.pin,J.kb,J.len⟩
def ZxR(I:c9 X c6 σ H s)(E':Yf->Yi->Prop):c9 (Ru X (X.pn++c6) E') [] σ H s:=
 let ok:=I.ok
 ⟨⟨ok.mod,ok.kind,ok.glob,ok.blt,ok.above,ok.inj,ok.has,ok.AG,ok.hd,ok.frames,ok.Ep,ok.Er,ok.bs,ok.pI,ok.zN,ok.xu,ok.lU,ok.rN⟩,I.os,I.bare,I.base,I.loc,I.cell,I.free,I.mR,λp hp=>I.pin p (by simpa using hp),I.kb,I.len⟩
def Kl{σ':St}{H':Hp}{s':Yi}(I:c9 X c6 σ H s)(J:c9 (Ru X (X.pn++c6) E') tL σ' H' s'):c9 X c6 σ' H' s':=⟨I.ok,J.os,J.bare,J.base,J.loc,J.cell,J.free,J.mR,λp hp=>J.pin p<|vJ _ hp,J.kb,J.len⟩
def ZwL{D:Ends}{f:Flow}{s':Yi}(I:c9 X c6 σ H s)(h:SP (Ru X (X.pn++c6) E') tL D f s'):SP X c6 D f s':=by
 cases f with
 |next=>let⟨σ',H',J,q⟩:=h;exact⟨σ',H',Kl I J,q⟩|brk=>let⟨σ',H',J,q⟩:=h;exact⟨σ',H',Kl I J,q⟩|cont=>let⟨σ',H',J,q⟩:=h;exact⟨σ',H',Kl I J,q⟩|ret u=>let⟨v,σ',H',J,r,q⟩:=h;exact⟨v,σ',H',Kl I J,r,q⟩
def Rw{B h':aF}{e:Ys}{dd:qA}(I:c9 X c6 σ H s)(he:H e=O (uo e C dd))(s1:B.StaysIn s.heap)(cv:yV B X.fs X.ex X.H₀ X.s₀.heap H e)(hp:∀p∈X.pn++c6,B.get? p.1=O p.2)(s2:B.StaysIn h')(sl:s.heap.UpToSlots h')(xo:Bl e C dd h'):c9 X c6 σ H {s with heap:=h'}:=by
 have cellK:∀c v,s.heap.IsCell c v->h'.IsCell c v:=λc v z=>by
  let⟨o,ho,hd⟩:=z;let⟨s3,e3⟩:=sl c o ho λvs q=>by rw[hd]at q;cases q
  exact⟨_,e3,hd⟩
 refine⟨I.ok,I.os,I.bare,cv.un I.base s2 sl<|q6 I,?_,λx c z=>?_,I.free,I.mR,λp hq=>⟨s2 _ _<|hp p hq,(I.pin p hq).2⟩,cv.kb I.kb he s1 s2 xo,I.len⟩
 .let⟨m,hn,hl⟩:=I.loc;refine⟨m,sl.ns hn,λi x v e1 e2 e3=>?_⟩;let⟨u,r,l⟩:=hl i x v e1 e2 e3;refine⟨u,r,?_⟩;rcases l with l|⟨k,c,e,z⟩
  .exact .inl l
  .exact .inr ⟨k,c,e,cellK _ _ z⟩
 .let⟨v,q⟩:=I.cell x c z;exact⟨v,cellK _ _ q⟩
end
end L3
namespace PySem.W
open PySem PySem.Spec PySem.Calls PyProof.Rows Builtin Builtin.ObjectAttr Builtin.Getset_descriptor
section
variable {prog:Y8} {w:aX} {K:Frag} {x D:Ys}
def AfM{C CE:Ys}{cd:ClassData}(cl:clsIn K CE=O cd)(ty:typeIn K (.ref CE)=O (.type "type"))(bs:subIn K (.ref CE) (.type "BaseException")=O true)(sb:subIn K (.ref C) (.ref CE)=O true):exmOne K (.ref C) (.ref CE)=O true:=by unfold exmOne;rw[bs,f_<|by rfl];show(if((clsIn K CE).isSome&&typeIn K (.ref CE)==O (.type "type"))=true then subIn K (.ref C) (.ref CE)else Yj)=O true;rwa[cl,ty,f_<|by rfl]
end
end PySem.W
namespace L3
open PySem PySem.Spec PyProof.Rows L2
structure nI(K:Yb)(C:Ys):Prop where
 ga:gP K (.ref C) "__getattribute__" =O (O<|.builtin "BaseException.__getattribute__")
 ZlH:gP K (.ref C) "__getattr__" =O Yj
 be:zQ K C (.type "BaseException")=O true
 cl:(Ob K C).isSome=true
 fa:gP K (.ref C) "__class__" =O (O<|.builtin "object.__class__")
 sp:Vk K (.builtin "object.__class__") "__get__" =O (O<|.builtin "getset_descriptor.__get__")
 tk:Vm K (.builtin "object.__class__")=O true
 mo:zQ K C (.type "object")=O true
def Km(es:Array DictEntry):Bool:=es.toList.all λe=>match e.key with
 | .str _ _=>true|_=>false
def Zw4{es:Array DictEntry}(h:Km es=true):StrKeys es:=λe he=>by
 have:=nY.mp h e<|OB.mpr he;split at this
 .rename_i n t q;exact⟨n,t,q⟩
 .cases this
section
variable {K:Yb} {h:aF} {a:Ys} {oc:Yf} {od:qA} {es:Array DictEntry} {ep:Nat} {sl:Array oo}
def Rx(X:K.In h)(l:K.lookup a=O ⟨oc,od,.dict es ep,sl⟩)(sk:Km es=true):h.Ns a (Iw es):=⟨_,es,ep,X _ _ l,rfl,Zw4 sk,λ_=>rfl⟩
def ZsJ{c:i4}{C C':Ys}(x:ClsAt K c C)(y:ClsAt K c C'):C'=C:=by have:=y.symm.trans x;cases this;rfl
def ZxV{P:Ys->Prop}:∀c C,([]:k9).contains c=true->ClsAt K c C->P C:=λc C z=>by cases z
def Zww{P:Ys->Prop}{k:i4}{ks:k9}{C1:Ys}(x:ClsAt K k C1)(p:P C1)(t:∀c C,ks.contains c=true->ClsAt K c C->P C):∀c C,(k::ks).contains c=true->ClsAt K c C->P C:=λc C z oE=>by
 rw[Nl,vM]at z;rcases z with z|z
 .rw[beq_iff_eq.mp z]at oE;rwa[ZsJ x oE]
 .exact t c C z oE
end
variable{body:rq}
section
variable {X:Cx} {tg:Expr} {pos:aZ}
def ZxK{iter:Expr}{i:I3}{g:G3}{u:S3}(hp:Oq (aq X.prog X.w) X.A X.env X.xe)(hc:X.calm=true)(hi:CI X tg iter i)(hg:CG X tg g)(hb:nG X true body u)(hs:∀x,zT iter X.env x=pure x:=by intro _;rfl):
  qO X true (.For tg iter body [] pos) (JV i g u):=(W6 hp hc hi hg hb hs).imp λD σ H ao=>by
 let⟨ι,M,env,S,E,h⟩:=ao;unfold JV at h;cases q:i env M with
 |exc x M1=>rw[q]at h;cases h|bad=>rw[q]at h;cases h|ok it M1=>
  rw[q]at h;refine⟨ι,M,env,S,E,?_⟩;rw[q];intro J H1 ι1 x1 S1 ok;refine⟨λi m σ2 H2=>m=b9 it.items-i/\i<=b9 it.items/\∃ι2 M2 fG,k7 X.K H1 ι1 H2 ι2/\aC X.K H2 ι2 M2/\b_ X.K H2 ι2 fG σ2/\mK X true σ2 H2 ι2 D (dF it g u (it.items.drop i) fG M2),
   ⟨_,rfl,dY _,ι1,M1,env,k7.refl,S1,E.mono x1,mK.up x1 nofun h⟩,?_⟩
  rintro i m σ2 H2 ⟨rfl,hi,ι2,M2,fG,x2,S2,E2,h2⟩;by_cases n9:i<it.items.length
  .have hd:it.items[i]?=O it.items[i]:=by simp[n9]
   rw[z_ n9]at h2
   first|rw[oH]at h2|rw[pW]at h2
   by_cases lk:i8 it M2=true
   .rw[f_ lk]at h2;let⟨go,yl⟩:=(ok i H2 ι2 M2 x2 S2 lk).1 _ hd;cases eg:g it.items[i] fG with
    |none=>rw[eg]at h2;exact h2.elim|some rA=>
     rw[eg]at h2;refine .inr ⟨go,λσ' H'=>∃ι3 M3 jK,k7 X.K H2 ι2 H' ι3/\aC X.K H' ι3 M3/\b_ X.K H' ι3 jK σ'/\mK X true σ' H' ι3 D (dF it g u (it.items.drop<|i+1) jK M3),
      λσ' H' ⟨ι3,M3,jK,x3,S3,E3,h3⟩=>⟨b9 it.items-(i+1),c8,rfl,n9,ι3,M3,jK,x2.trans x3,S3,E3,h3⟩,λx H' hy=>?_⟩
     let⟨rfl,rx⟩:=yl x H' hy;refine⟨ι2,M2,fG,_,rA,S2,E2,rx,eg,λσ' E'=>⟨ι2,M2,rA,S2,E',?_⟩⟩;cases qu:u rA M2 with
     |nx e' M'=>simp only[qu]at h2;exactλσ' H' ι' x' S' E'=>⟨ι',M',e',x',S',E',h2.up x' nofun⟩|ct e' M'=>simp only[qu]at h2;exactλσ' H' ι' x' S' E'=>⟨ι',M',e',x',S',E',h2.up x' nofun⟩|bk e' M'=>simp only[qu]at h2;exact h2|rt d M'=>simp only[qu]at h2;exact h2
     |exc x' M'=>simp only[qu]at h2;exactλσ'' a C H' ι' _=>h2 σ'' a C H' ι' nofun|bad=>simp only[qu]at h2;exact h2.elim
   .rw[i6 lk]at h2;exact h2.elim
  .have e0:i=b9 it.items:=iJ hi<|tY n9;subst e0;rw[IV]at h2
   first|rw[oH]at h2|rw[pW]at h2
   by_cases lk:i8 it M2=true
   .rw[f_ lk]at h2;exact .inl ⟨(ok _ H2 ι2 M2 x2 S2 lk).2 aaD,h2 σ2 H2 ι2 k7.refl S2 E2⟩
   .rw[i6 lk]at h2;exact h2.elim
end
def Ko(K:Yb)(d:oB)(v:Yf):Bool:=match v with
 | .ref a=>(match K.lookup a with
  |some o=>o.cls== .type "tuple" &&o.dict.isNone&&(match o.data with| .seq vs _=>decide (vs.size<=1000)&&KTD.strsLook vs.toList d|_=>false)
  |none=>false)
 |_=>false
def AfN(K:Yb)(d:oB)(v:Yf):Prop:=∃a,v= .ref a/\∀H,dD K H a<|d.map V.str
def ZsH:∀{vs:l5} {d:oB},StrsAre vs d->i3 (d.map V.str) vs:=by
 intro vs d h
 induction h with
 |nil=>exact .nil|cons _ _ _ ih=>exact .cons ⟨_,rfl⟩ ih
variable{K:Yb}
def Zxl{d:oB}{v:Yf}(h:Ko K d v=true):AfN K d v:=by
 unfold Ko at h;split at h
 .rename_i a;refine⟨a,rfl,λH=>?_⟩;split at h
  .rename_i o ho;simp only[j5]at h;let⟨⟨h1,h2⟩,h3⟩:=h;split at h3
   .rename_i vs n hd;simp only[j5,decide_eq_true_eq]at h3;exact .inr ⟨o,vs,n,ho,⟨beq_iff_eq.mp h1,by simpa using h2⟩,hd,Yx h3.1 (by rw[qw];decide),ZsH<|KTD.strs_of_look h3.2⟩
   .cases h3
  .cases h
 .cases h
theorem yb{K:Yb}{H:Hp}{ι:l6}:∀ds:k9,aB K H ι (ds.map D.str)<|(ds.map λy=>(⟨pd y⟩:ak)).map V.str
 |[]=>aB.nil|_::ds=>aB.cons i0.str<|yb ds
variable{δ:Type}{Q:oo->Yi->Prop}
section
variable {prog:Y8} {w:aX} {A:cC} {E:Yf->Yi->Prop} {s:Yi} {a:Ys} {K:Yb} {t:Afi} {x:i4} {tk:jB}
def FR{R:δ->Yf->Prop}{T:List (ak×δ)}(h:yc R s.heap a T):s.TypeIs (.ref a) "dict":=let⟨_,o,_,_,ho,hc,_⟩:=h;⟨o,ho,hc.1⟩
def ZuG{R:δ->Yf->Prop}{T:List (ak×δ)}{k:ak}(h:yc R s.heap a T)(hs:∀d v,vO k T=O d->R d v->Q (O v) {s with toks:=s.toks+1})(hn:vO k T=Yj->Q Yj {s with toks:=s.toks+1}):Y5 (aq prog w) A (DW a<|.str k tk) Q E s:=by
 let⟨_,o,es,ep,ho,hc,hd,hr⟩:=h;unfold DW
 try with_reducible refine pB ?_
 refine Yc (MC<|Yc<|KTD.kt_dictFind_strs (s:={s with toks:=s.toks+1}) ho hd (by let⟨es⟩:=es;simpa using hr.exact) ?_);have key:Q (findBy (λq v=>v.isStr q) es k) {s with toks:=s.toks+1}:=by
  rw[show findBy (λq v=>v.isStr q) es k=(es.toList.find? λz=>z.key.isStr k).map (·.val)by let⟨es⟩:=es;simp[findBy]];cases e:vO k T with
  |none=>rw[hr.find_none e];exact hn e|some d=>let⟨v,hv,r⟩:=hr.find_some e;rw[hv];exact hs d v e r
 rw[findBy_of_findIdx?]at key;cases e:es.findIdx? λz=>z.key.isStr k with
 |none=>rw[e]at key;exact Yo key|some j=>rw[e]at key;exact Yc<|MA (s:={s with toks:=s.toks+1}) ho hd<|Yo key
end
set_option maxRecDepth 100000
def fL(b:Bool)(h:aF)(l:Ys)(c_:qB):Prop:=match b with
 |true=>h.IsList l c_|false=>h.IsTuple l c_
def dM(b:Bool)(h:aF)(it l:Ys)(i:Nat):Prop:=match b with
 |true=>h.IsListIter it l i|false=>h.IsTupleIter it l i
def BX(b:Bool)(K:Yb)(H:Hp)(l:Ys)(xs:k6):Prop:=match b with
 |true=>dm K H l xs|false=>dD K H l xs
def Kp:Bool->String
 |true=>"list_iterator"|false=>"tuple_iterator"
variable{b:Bool}{c_:qB}{l:Ys}{h:aF}
def fL.keep{h':aF}(k:∀o,h.get? l=O o->h'.get? l=O o)(x:fL b h l c_):fL b h' l c_:=by
 cases b with
 |true=>exact Heap.IsList.at x k|false=>exact Heap.IsTuple.at x k
variable{i:Nat}{it:Ys}
def dM.keep{h':aF}(k:∀o,h.get? it=O o->h'.get? it=O o)(x:dM b h it l i):dM b h' it l i:=by
 cases b with
 |true=>exact Heap.IsListIter.at x k|false=>exact Heap.IsTupleIter.at x k
def dM.there(x:dM b h it l i):∃o,h.get? it=O o/\∀v,o.data≠ .cell v:=by
 cases b with
 |true=>let⟨o,ho,_,d⟩:=x;exact⟨o,ho,λv z=>by rw[d]at z;cases z⟩|false=>let⟨o,ho,_,d⟩:=x;exact⟨o,ho,λv z=>by rw[d]at z;cases z⟩
def fL.there(x:fL b h l c_):l<h.objs.size:=by
 cases b with
 |true=>let⟨o,ho,_⟩:=x;exact Yw ho|false=>let⟨o,ho,_⟩:=x;exact Yw ho
variable{c6:oy}
def BX.at{X:Cx}{σ:St}{H:Hp}{s:Yi}{xs:k6}(I:c9 X c6 σ H s)(x:BX b X.K H l xs):∃c_:l5,i3 xs c_/\fL b s.heap l c_.toArray:=by
 cases b with
 |true=>let⟨c_,r,p,_⟩:=I.list x;exact⟨c_,r,p.isList⟩|false=>let⟨c_,r,p,_⟩:=I.tuple x;exact⟨c_,r,p⟩
variable{k1 k2:Nat}{b1 b2:Bool}{xs ys:qB}
section
variable {prog:Y8} {w:aX} {A:cC} {E:Yf->Yi->Prop} {s:Yi}
def nextK{x:Yf}{Q:Yf->Yi->Prop}(hi:dM b s.heap it l i)(ho:fL b s.heap l c_)(hx:c_[i]?=O x)(hQ:∀h',dM b h' it l (i+1)->Ah it s.heap h'->Q x {s with heap:=h'}):Y5 (aq prog w) A (n6<|.ref it) Q E s:=by
 cases b with
 |true=>exact wpAny_nextOf_list_item hi ho hx hQ|false=>exact u0 hi ho hx hQ
def Ry{Q:Yf->Yi->Prop}(hh:A.handled=Yj)(hi:dM b s.heap it l i)(ho:fL b s.heap l c_)(hx:c_[i]?=Yj)(hE:∀h' e,Heap.ExtBut it s.heap h'->(∃o,h'.get? e=O o/\o.cls= .type "StopIteration")->E (.ref e) {s with heap:=h'}):Y5 (aq prog w) A (n6<|.ref it) Q E s:=by
 cases b with
 |true=>exact wpAny_nextOf_list_end hh hi ho hx hE|false=>exact Z8 hh hi ho hx hE
def d0{Q:Yf->Yi->Prop}(ho:fL b s.heap l c_)(h:Q (.ref<|d4 s) {s with heap:=s.heap.push {cls:=.type<|Kp b,data:=.fields #[.ref l,.int 0 0]}}):
  Y5 (aq prog w) A (DY<|.ref l) Q E s:=by
 cases b with
 |true=>exact Me ho h|false=>exact Dz ho h
def dM.new(e:h.get? it=O {cls:=.type<|Kp b,data:=.fields #[.ref l,.int 0 0]}):dM b h it l 0:=by
 cases b with
 |true=>exact⟨_,e,rfl,rfl⟩|false=>exact⟨_,e,rfl,rfl⟩
def ZtL{z TI TO i1 i2 l1 l2:Ys}{x y a b:Yf}{Q:Yf->Yi->Prop}(D:ZipApart z TI TO i1 i2 l1 l2)(hz:lz s.heap z TI TO .none)(ua:gH s.heap TI (.ref i1) (.ref i2))(sA:gH s.heap TO a b)(h1:dM b1 s.heap i1 l1 k1)(h2:dM b2 s.heap i2 l2 k2)(rl:fL b1 s.heap l1 xs)(sP:fL b2 s.heap l2 ys)(hx:xs[k1]?=O x)(hy:ys[k2]?=O y)(hQ:∀h',lz h' z TI TO (jo<|d4 s)->gH h' TO x y->dM b1 h' i1 l1 (k1+1)->dM b2 h' i2 l2 (k2+1)->gH h' (d4 s) x y ->
   (∀c o,c≠z->c≠TO->c≠i1->c≠i2->s.heap.get? c=O o->h'.get? c=O o)->Q (.ref<|d4 s) {s with heap:=h'}):
  Y5 (aq prog w) A (Builtin.«zip.__next__» ⟨[.ref z],[]⟩) (λpV s'=>∃v,pV= .done (.ret v)/\Q v s') E s:=by
 show Y5 _ _ (nW (.ref z) 2>>=λo=>_) _ _ _;refine Yc<|gQ hz aaD (x:=.bool false) aaD (show Y5 _ _ (nW (.ref z) 3>>=λo=>_) _ _ _ from ?_);refine Yc<|gQ hz aaD (x:=.ref TI) aaD<|Yc<|tM ua aaD ?_;refine(show Y5 _ _ (xY (.ref z)>>=λo=>_) _ _ _ from Yc ?_);unfold xY;refine Yc<|gQ hz aaD (x:=.none) aaD<|Yo ?_;simp only[if_true];refine Yc<|z6<|Yc<|gQ hz aaD (x:=.ref TO) aaD ?_;refine Yc<|zR hz j0 λg1 wa r_=>Yc ?_;replace wa:lz g1 z TI TO .ellipsis:=wa;simp only[NF,NG,IW,O5];refine Yc<|Yc<|Ol (show Y5 _ _ (n6 (.ref i1)>>=λo=>_) _ _ _ from ?_);refine Yc<|nextK (h1.keep λo q=>r_.extBut _ o D.i1z q) (rl.keep λo q=>r_.extBut _ o D.l1z q) hx λg2 B4 px=>Yo ?_;have H_:gH g2 TO a b:=px.extBut _ _ D.TOi1<|r_.extBut _ _ D.TOz sA;refine Yc<|tM H_ aaD<|Yc<|Vq H_ λg3 NQ si=>?_;replace NQ:gH g3 TO x b:=NQ;refine Yc<|VG<|Yo<|Yc<|Yc<|Ol (show Y5 _ _ (n6 (.ref i2)>>=λo=>_) _ _ _ from ?_);refine Yc<|nextK (h2.keep λo q=>si.extBut _ o D.TOi2.symm<|px.extBut _ o D.i12.symm<|r_.extBut _ o D.i2z q) (sP.keep λo q=>si.extBut _ o D.l2TO<|px.extBut _ o D.l2i1<|r_.extBut _ o D.l2z q) hy λg4 h24 uD=>Yo ?_;have Mc:gH g4 TO x b:=uD.extBut _ _ D.TOi2 NQ;refine Yc<|tM Mc aaD<|Yc<|Vq Mc λg5 NT yX=>?_;replace NT:gH g5 TO x y:=NT;refine Yc<|VG<|Yo<|Yo<|Yc<|tM NT aaD<|Yc<|wpAny_newTuple ?_;have hsz:g5.objs.size=d4 s:=by rw[yX.1,uD.1,si.1,px.1,r_.1]
 have da:lz g5 z TI TO .ellipsis:=yX.extBut _ _ D.TOz.symm<|uD.extBut _ _ D.i2z.symm<|si.extBut _ _ D.TOz.symm<|px.extBut _ _ D.i1z.symm wa;have hk5:∀c o,c≠z->c≠TO->c≠i1->c≠i2->s.heap.get? c=O o->g5.get? c=O o:=λc o c1 c2 c3 c4 e=>yX.extBut _ _ c2<|uD.extBut _ _ c4<|si.extBut _ _ c2<|px.extBut _ _ c3<|r_.extBut _ _ c1 e;have h15:dM b1 g5 i1 l1 (k1+1):=B4.keep λo q=>yX.extBut _ o D.TOi1.symm<|uD.extBut _ o D.i12<|si.extBut _ o D.TOi1.symm q;have h25:dM b2 g5 i2 l2 (k2+1):=h24.keep λo q=>yX.extBut _ o D.TOi2.symm q;have B5:z<g5.objs.size:=Yw da;refine(show Y5 _ _ (NW (.ref z) (.ref g5.objs.size)>>=λo=>_) _ _ _ from Yc ?_);unfold NW;have hz6:lz (g5.push {cls:=.type "tuple",data:=.seq #[x,y]}) z TI TO .ellipsis:=Yl _ da;refine Yc<|zR hz6 j0 λg7 FU ei=>?_;replace FU:lz g7 z TI TO (jo g5.objs.size):=FU;refine zR FU j0 λg8 DZ b4=>?_;replace DZ:lz g8 z TI TO (jo g5.objs.size):=DZ;have up:∀c o,c≠z->g5.get? c=O o->g8.get? c=O o:=λc o c1 e=>b4.extBut _ _ c1<|ei.extBut _ _ c1<|Yl _ e;have xl:gH g8 g5.objs.size x y:=b4.extBut _ _ (rK B5)<|ei.extBut _ _ (rK B5)<|Y6 _ aaD;rw[hsz]at DZ xl;refine Yo ⟨_,rfl,(show Q (.ref g5.objs.size) _ from ?_)⟩;rw[hsz];exact hQ g8 DZ (up _ _ D.TOz NT) (h15.keep λo e=>up _ o D.i1z e) (h25.keep λo e=>up _ o D.i2z e) xl λc o c1 c2 c3 c4 e=>up c o c1<|hk5 c o c1 c2 c3 c4 e
def ZvU{z TI TO i1 i2 l1 l2:Ys}{a b:Yf}{Q:Fin->Yi->Prop}(hh:A.handled=Yj)(D:ZipApart z TI TO i1 i2 l1 l2)(hz:lz s.heap z TI TO .none)(ua:gH s.heap TI (.ref i1) (.ref i2))(sA:gH s.heap TO a b)(h1:dM b1 s.heap i1 l1 k1)(h2:dM b2 s.heap i2 l2 k2)(rl:fL b1 s.heap l1 xs)(sP:fL b2 s.heap l2 ys)(tS:xs[k1]?=Yj\/ys[k2]?=Yj)(hE:∀h' e,(∀c o,c≠z->c≠TO->c≠i1->c≠i2->s.heap.get? c=O o->h'.get? c=O o)->(∃o,h'.get? e=O o/\o.cls= .type "StopIteration")->E (.ref e) {s with heap:=h'}):
  Y5 (aq prog w) A (Builtin.«zip.__next__» ⟨[.ref z],[]⟩) Q E s:=by
 show Y5 _ _ (nW (.ref z) 2>>=λo=>_) _ _ _;refine Yc<|gQ hz aaD (x:=.bool false) aaD (show Y5 _ _ (nW (.ref z) 3>>=λo=>_) _ _ _ from ?_);refine Yc<|gQ hz aaD (x:=.ref TI) aaD<|Yc<|tM ua aaD ?_;refine(show Y5 _ _ (xY (.ref z)>>=λo=>_) _ _ _ from Yc ?_);unfold xY;refine Yc<|gQ hz aaD (x:=.none) aaD<|Yo ?_;simp only[if_true];refine Yc<|z6<|Yc<|gQ hz aaD (x:=.ref TO) aaD ?_;refine Yc<|zR hz j0 λg1 wa r_=>Yc ?_;replace wa:lz g1 z TI TO .ellipsis:=wa;simp only[NF,NG,IW,O5];refine Yc<|Yc<|Ol (show Y5 _ _ (n6 (.ref i1)>>=λo=>_) _ _ _ from ?_);have B6:dM b1 g1 i1 l1 k1:=h1.keep λo q=>r_.extBut _ o D.i1z q;have Ia:fL b1 g1 l1 xs:=rl.keep λo q=>r_.extBut _ o D.l1z q;cases hx:xs[k1]? with
 |none=>
  refine Yc<|Ry hh B6 Ia hx λg2 e px he=>?_;let⟨oe,AY,B7⟩:=he;have B3:lz g2 z TI TO .ellipsis:=px _ _ D.i1z.symm wa;have FV:e≠z:=λq=>by subst q;rw[B3]at AY;cases AY;simp at B7
  exact zR B3 j0 λg3 _ si=>hE g3 e (λc o c1 _ c3 _ q=>si.extBut _ _ c1<|px _ _ c3<|r_.extBut _ _ c1 q) ⟨oe,si.extBut _ _ FV AY,B7⟩
 |some x=>
  have hy:ys[k2]?=Yj:=by rcases tS with q|q;rw[hx]at q;cases q;exact q
  refine Yc<|nextK B6 Ia hx λg2 B4 px=>Yo ?_;have H_:gH g2 TO a b:=px.extBut _ _ D.TOi1<|r_.extBut _ _ D.TOz sA;refine Yc<|tM H_ aaD<|Yc<|Vq H_ λg3 NQ si=>?_;refine Yc<|VG<|Yo<|Yc<|Yc<|Ol (show Y5 _ _ (n6 (.ref i2)>>=λo=>_) _ _ _ from ?_);refine Yc<|Ry hh (h2.keep λo q=>si.extBut _ o D.TOi2.symm<|px.extBut _ o D.i12.symm<|r_.extBut _ o D.i2z q) (sP.keep λo q=>si.extBut _ o D.l2TO<|px.extBut _ o D.l2i1<|r_.extBut _ o D.l2z q) hy λg4 e uD he=>?_;let⟨oe,AY,B7⟩:=he;have yk:lz g4 z TI TO .ellipsis:=uD _ _ D.i2z.symm<|si.extBut _ _ D.TOz.symm<|px.extBut _ _ D.i1z.symm wa;have FV:e≠z:=λq=>by subst q;rw[yk]at AY;cases AY;simp at B7
  exact zR yk j0 λg5 _ yX=>hE g5 e (λc o c1 c2 c3 c4 q=>yX.extBut _ _ c1<|uD _ _ c4<|si.extBut _ _ c2<|px.extBut _ _ c3<|r_.extBut _ _ c1 q) ⟨oe,yX.extBut _ _ FV AY,B7⟩
def Zol{z TI TO i1 i2 l1 l2:Ys}{x y a b:Yf}(D:ZipApart z TI TO i1 i2 l1 l2)(hz:lz s.heap z TI TO .none)(ua:gH s.heap TI (.ref i1) (.ref i2))(sA:gH s.heap TO a b)(h1:dM b1 s.heap i1 l1 k1)(h2:dM b2 s.heap i2 l2 k2)(rl:fL b1 s.heap l1 xs)(sP:fL b2 s.heap l2 ys)(hx:xs[k1]?=O x)(hy:ys[k2]?=O y)(hQ:∀h',lz h' z TI TO (jo<|d4 s)->gH h' TO x y->dM b1 h' i1 l1 (k1+1)->dM b2 h' i2 l2 (k2+1)->gH h' (d4 s) x y ->
   (∀c o,c≠z->c≠TO->c≠i1->c≠i2->s.heap.get? c=O o->h'.get? c=O o)->Q (O<|.ref<|d4 s) {s with heap:=h'}):
  Y5 (aq prog w) A (ji<|.ref z) Q E s:=by
 have hT:s.TypeIs (.ref z) "zip":=⟨_,hz,rfl⟩;unfold ji;exact Yc (Ip (vh (name:=n_ "__next__") hT x_ (vz x_ hT Pq
  (ZtL D hz ua sA h1 h2 rl sP hx hy λh' a1 a2 a3 a4 a5 a6=>Yo<|hQ h' a1 a2 a3 a4 a5 a6) (Pn _))))
def ZpU{z TI TO i1 i2 l1 l2:Ys}{a b:Yf}(hh:A.handled=Yj)(D:ZipApart z TI TO i1 i2 l1 l2)(hz:lz s.heap z TI TO .none)(ua:gH s.heap TI (.ref i1) (.ref i2))(sA:gH s.heap TO a b)(h1:dM b1 s.heap i1 l1 k1)(h2:dM b2 s.heap i2 l2 k2)(rl:fL b1 s.heap l1 xs)(sP:fL b2 s.heap l2 ys)(tS:xs[k1]?=Yj\/ys[k2]?=Yj)(hQ:∀h',(∀c o,c≠z->c≠TO->c≠i1->c≠i2->s.heap.get? c=O o->h'.get? c=O o)->Q Yj {s with heap:=h'}):Y5 (aq prog w) A (ji<|.ref z) Q E s:=by
 have hT:s.TypeIs (.ref z) "zip":=⟨_,hz,rfl⟩;unfold ji;refine Yc (Ip (vh (name:=n_ "__next__") hT x_ (vz x_ hT Pq
  (ZvU hh D hz ua sA h1 h2 rl sP tS λh' e hk he=>?_) (Pn _))))
 let⟨o,ho,hc⟩:=he;exact Yc<|Vu (T:="StopIteration") (b:=true) ⟨o,ho,hc⟩ Vy<|Yo<|hQ _ hk
end
abbrev kZ(b:Bool)(h:aF)(l:Ys):aF:=h.push {cls:=.type<|Kp b,data:=.fields #[.ref l,.int 0 0]}
abbrev Gi(b1 b2:Bool)(h:aF)(l1 l2:Ys):aF:=(kZ b2 (kZ b1 h l1) l2).push {cls:=.type "tuple",data:=.seq #[.ref h.objs.size,.ref (kZ b1 h l1).objs.size]}
abbrev Kq(b1 b2:Bool)(h:aF)(l1 l2:Ys):aF:=(Gi b1 b2 h l1 l2).push {cls:=.type "tuple",data:=.seq #[.none,.none]}
abbrev uE(b1 b2:Bool)(h:aF)(l1 l2:Ys):aF:=(Kq b1 b2 h l1 l2).push {cls:=.type "zip",data:=.fields #[.none,.bool false,.bool false,.ref (kZ b2 (kZ b1 h l1) l2).objs.size,.ref (Gi b1 b2 h l1 l2).objs.size]}
def ZqX(b1 b2:Bool)(l1 l2:Ys)(xs ys:qB):
  Meets (Builtin.«zip.__new__» ⟨[.type "zip",.ref l1,.ref l2],[]⟩) (λ_ R s=>fL b1 s.heap l1 xs/\fL b2 s.heap l2 ys/\R (.ok<|.ret<|.ref (Kq b1 b2 s.heap l1 l2).objs.size) {s with heap:=uE b1 b2 s.heap l1 l2}):=
 .of_wp λprog w A R s h=>by
  let⟨hp,g,d,tk,os⟩:=s;let⟨rl,sP,h⟩:=h;have xC:=sub_zip;have hL1:fL b1 (WX ⟨hp,g,d,tk,os⟩) l1 xs:=rl;have hL2:fL b2 (WX ⟨kZ b1 hp l1,g,d,tk,os⟩) l2 ys:=sP.keep λo q=>Yl _ q
  wp_walk using d0 hL1,d0 hL2
  exact⟨_,rfl,h⟩
theorem ZtE{prog:Y8}{w:aX}{A:cC}{E:Yf->Yi->Prop}{s:Yi}{l1 l2:Ys}{Q:Yf->Yi->Prop}(rl:fL b1 s.heap l1 xs)(sP:fL b2 s.heap l2 ys)(h:∀h',lz h' (d4 s+4) (d4 s+2) (d4 s+3) .none->gH h' (d4 s+2) (.ref<|d4 s) (.ref<|d4 s+1) ->
   gH h' (d4 s+3) .none .none->dM b1 h' (d4 s) l1 0->dM b2 h' (d4 s+1) l2 0->(∀c o,s.heap.get? c=O o->h'.get? c=O o)->Q (.ref<|d4 s+4) {s with heap:=h'}):
  Y5 (aq prog w) A (call (.type "zip") [.ref l1,.ref l2]) Q E s:=by
 refine callType_new F.called_zip aaE (F.typeCall_zip_2 _ _) (F.newCall_zip_2 _ _) (λobj=>F.args_object_init_3 obj _ _) F.entry_zip_new (ZqX b1 b2 l1 l2 xs ys) ⟨rl,sP,?_⟩;have z1:(kZ b1 s.heap l1).objs.size=d4 s+1:=xV ..;have z2:(kZ b2 (kZ b1 s.heap l1) l2).objs.size=d4 s+2:=(xV ..).trans (by rw[z1]);have z3:(Gi b1 b2 s.heap l1 l2).objs.size=d4 s+3:=(xV ..).trans (by rw[z2]);have z4:(Kq b1 b2 s.heap l1 l2).objs.size=d4 s+4:=(xV ..).trans (by rw[z3]);have p5:∀{c o},(Kq b1 b2 s.heap l1 l2).get? c=O o->(uE b1 b2 s.heap l1 l2).get? c=O o:=λq=>Yl _ q;have p4:∀{c o},(Gi b1 b2 s.heap l1 l2).get? c=O o->(uE b1 b2 s.heap l1 l2).get? c=O o:=λq=>p5<|Yl _ q;have p3:∀{c o},(kZ b2 (kZ b1 s.heap l1) l2).get? c=O o->(uE b1 b2 s.heap l1 l2).get? c=O o:=λq=>p4<|Yl _ q;have p2:∀{c o},(kZ b1 s.heap l1).get? c=O o->(uE b1 b2 s.heap l1 l2).get? c=O o:=λq=>p3<|Yl _ q;have g5:(uE b1 b2 s.heap l1 l2).get? (Kq b1 b2 s.heap l1 l2).objs.size=O {cls:=.type "zip",data:=.fields #[.none,.bool false,.bool false,.ref (kZ b2 (kZ b1 s.heap l1) l2).objs.size,.ref (Gi b1 b2 s.heap l1 l2).objs.size]}:=Y6 _ aaD;have g4:(uE b1 b2 s.heap l1 l2).get? (Gi b1 b2 s.heap l1 l2).objs.size=O {cls:=.type "tuple",data:=.seq #[.none,.none]}:=p5<|Y6 _ aaD;have g3:(uE b1 b2 s.heap l1 l2).get? (kZ b2 (kZ b1 s.heap l1) l2).objs.size=O {cls:=.type "tuple",data:=.seq #[.ref<|d4 s,.ref (kZ b1 s.heap l1).objs.size]}:=p4<|Y6 _ aaD;have g2:(uE b1 b2 s.heap l1 l2).get? (kZ b1 s.heap l1).objs.size=O {cls:=.type<|Kp b2,data:=.fields #[.ref l2,.int 0 0]}:=p3 (Y6 _ (by cases b2<;>rfl));have g1:(uE b1 b2 s.heap l1 l2).get? (d4 s)=O {cls:=.type<|Kp b1,data:=.fields #[.ref l1,.int 0 0]}:=p2 (Y6 _ (by cases b1<;>rfl));rw[z4,z2,z3]at g5;rw[z2,z1]at g3;rw[z3]at g4;rw[z1]at g2;show _/\_;rw[z4];exact⟨⟨_,g5,rfl⟩,h _ g5 g3 g4 (dM.new g1) (dM.new g2) λc o q=>p2<|Yl _ q⟩
def v3(i:Int)(v:Yf):Bool:=match v with
 | .int j _=>decide (j=i)|_=>false
def hX(i:Int)(v:Yf):Prop:=∃t,v= .int i t
def ZwP{i:Int}{v:Yf}(h:v3 i v=true):hX i v:=by
 cases v with
 |int j t=>exact⟨t,by rw[of_decide_eq_true (show decide (j=i)=true from h)]⟩|_=>exact ft h
def Rz(t:v_):List (ak×Int):=t.map λp=>(⟨pd p.1⟩,p.2)
abbrev Gj(K:Yb)(a:Ys)(t:v_):Prop:=KTD.tabLook v3 (λb=>K.lookup b) a (Rz t)=true
def Gj.at{a:Ys}{t:v_}(T:Gj K a t)(X:K.In h):yc hX h a (Rz t):=KTD.tab_of_look (λ_ _ q=>ZwP q) X T
theorem FX(x:i4):∀t:v_,vO (⟨pd x⟩:ak) (Rz t)=um x t
 |[]=>rfl|(k,v)::r=>by
  show(if decide ((⟨pd x⟩:ak)=⟨pd k⟩)=true then O v else vO ⟨pd x⟩ (Rz r))=(if x=k then O v else um x r);by_cases e:x=k
  .subst e;rw[f_ aaD,f_<|qc aaD]
  .rw[i6 e,i6 (by simp[e]),FX x r]
section
variable {prog:Y8} {w:aX} {A:cC} {E:Yf->Yi->Prop} {s:Yi} {a:Ys} {K:Yb} {tk:jB}
def ZvC{R:δ->Yf->Prop}{l:List DictEntry}{T:List (ak×δ)}(h:KTD.Rows R l T):∀e∈l,∃x t,e.key= .str x t:=by
 induction h with
 |nil=>intro e he;cases he|cons hk _ _ ih=>
  intro e he;rcases Yt.mp he with q|q
  .rw[q];exact⟨_,_,hk⟩
  .exact ih e q
def ZsV{R:δ->Yf->Prop}{T:List (ak×δ)}{i:Int}(h:yc R s.heap a T)(hn:Q Yj {s with toks:=s.toks+1}):Y5 (aq prog w) A (DW a<|.int i tk) Q E s:=by
 let⟨_,o,es,ep,ho,hc,hd,hr⟩:=h;have hs:∀e∈es,∃x t,e.key= .str x t:=λe he=>ZvC hr e (by simpa using he);unfold DW
 try with_reducible refine pB ?_
 refine Yc<|MB<|Yc ?_;unfold dictFind
 try with_reducible refine pB ?_
 refine Yc<|MA (s:={s with toks:=s.toks+1}) ho hd ?_;dsimp only;rw[if_pos]
 .unfold dictWalkPlain;refine Yc ?_;refine wpAny_forIn_list _ (λ_ b s'=>s'={s with toks:=s.toks+1}/\b=(Yj,())) _ ?_ ?_ _ _ ⟨rfl,rfl⟩
  .rintro x rest b s' ⟨rfl,rfl⟩;cases he:es[x]? with
   |none=>exact Yo ⟨rfl,rfl⟩|some e=>
    let⟨y,t,ek⟩:=hs e<|OA he;dsimp only;by_cases hh:(e.hash==hashInt i)=true
    .rw[f_ hh,ek];refine Yc<|MI (s:={s with toks:=s.toks+1}) ho hd<|Yc<|PX y t i tk prog w E _<|Yc<|MI (s:={s with toks:=s.toks+1}) ho hd ?_;show Y5 _ _ (if(ep !=ep)=true then _ else _) _ E _;rw[i6 j0];exact Yc<|z6<|Yo ⟨rfl,rfl⟩
    .rw[i6 hh];exact Yo ⟨rfl,rfl⟩
  .rintro b s' ⟨rfl,rfl⟩;exact Yo<|Yo hn
 .rw[Ae];refine Yba.mpr ⟨rfl,nY.mpr λv hv=>?_⟩;let⟨j,_,hj⟩:=Ac.mp hv;cases he:es[j]? with
  |none=>rw[he]at hj;cases hj|some e=>
   rw[he]at hj;obtain rfl:e.key=v:=by simpa using hj
   let⟨y,t,ek⟩:=hs e<|OA he;rw[ek];rfl
def Zrg{R:δ->Yf->Prop}{T:List (ak×δ)}{k:ak}{z:Yf}:
  MeetsIn prog w (Builtin.«dict.get» ⟨[.ref a,.str k tk,z],[]⟩) λ_ Z s=>yc R s.heap a T/\(∀d v,vO k T=O d->R d v->Z (.ok<|.ret v) {s with toks:=s.toks+1})/\(vO k T=Yj->Z (.ok<|.ret z) {s with toks:=s.toks+1}):=
 .of_wp λA Z s zz=>by let⟨h,h1,h2⟩:=zz;show Y5 _ _ (DW a (.str k tk)>>=λo=>_) _ _ s;refine Yc<|ZuG h (λd v e r=>Yo ⟨v,rfl,h1 d v e r⟩) λe=>?_;show Y5 _ _ (Po a (.str k tk)>>=λo=>_) _ _ _;exact Yc<|Md h.1<|Yo ⟨z,rfl,h2 e⟩
def Zp3{R:δ->Yf->Prop}{T:List (ak×δ)}{i:Int}{z:Yf}:
  MeetsIn prog w (Builtin.«dict.get» ⟨[.ref a,.int i tk,z],[]⟩) λ_ Z s=>yc R s.heap a T/\Z (.ok<|.ret z) {s with toks:=s.toks+1}:=
 .of_wp λA Z s zz=>by let⟨h,h2⟩:=zz;show Y5 _ _ (DW a (.int i tk)>>=λo=>_) _ _ s;refine Yc<|ZsV h ?_;show Y5 _ _ (Po a (.int i tk)>>=λo=>_) _ _ _;exact Yc<|Md h.1<|Yo ⟨z,rfl,h2⟩
def ZvW{R:δ->Yf->Prop}{T:List (ak×δ)}{k:ak}{z:Yf}{Q:Yf->Yi->Prop}(h:yc R s.heap a T)(h1:∀d v,vO k T=O d->R d v->Q v {s with toks:=s.toks+1})(h2:vO k T=Yj->Q z {s with toks:=s.toks+1}):Y5 (aq prog w) A (call (.builtin "dict.get") [.ref a,.str k tk,z]) Q E s:=Om El (FR h) Pk (Ph _ _ _) (Zrg (R:=R) (T:=T)) ⟨h,h1,h2⟩
def ZtV{R:δ->Yf->Prop}{T:List (ak×δ)}{i:Int}{z:Yf}{Q:Yf->Yi->Prop}(h:yc R s.heap a T)(h2:Q z {s with toks:=s.toks+1}):Y5 (aq prog w) A (call (.builtin "dict.get") [.ref a,.int i tk,z]) Q E s:=Om El (FR h) Pk (Ph _ _ _) (Zp3 (R:=R) (T:=T)) ⟨h,h2⟩
end
section
variable {X:Cx} {e e':Expr} {x:ak} {a:Ys} {t:v_} {uu n5 i9 pos:aZ} {g g':E3}
inductive AfO(t:v_)(y z:V)(H1:Hp)(Q:VK):Prop
 |str (k:i4) (e:y= .str ⟨pd k⟩) (s:∀i,um k t=O i->Q (.int i) H1) (n:um k t=Yj->Q z H1)
 |int (i:Int) (e:y= .int i) (n:Q z H1)
def ZuC{te J0:TE}(hm:X.mg x=O (.ref a))(ht:Gj X.K a t)(he:PE X e te)(y4:PE X e' J0)(m:M2 X (.Name x uu) "get" n5 e e' i9)(hg:Gl X x)(hd:(x==("__debug__":ak))=false):
  PE X (.Call (.Attribute (.Name x uu) "get" n5) [e,e'] [] i9) (λσ H Q=>te σ H λy H1=>J0 σ H1 λz H2=>AfO t y z H2 Q):=by
 intro c6 s σ H Q I h;refine Mo m.base m.EW m.line OI El OK<|aV (Rl (v:=.ref a) (u:=.ref a) hg hm aaD hd c6 s σ H (λv H'=>v= .ref a/\H'=H) I ⟨rfl,rfl⟩) λu s1 ao=>?_;let⟨v,H1,I1,r1,rfl,rfl⟩:=ao;obtain rfl:u=Value.ref a:=r1;have T1:=ht.at I1.eZ;refine⟨FR T1,λb q=>?_,?_⟩
 .cases q
  let⟨_,ob,_,_,h1,h2,_⟩:=T1;exact⟨ob,h1,h2.2.1⟩
 rw[m.trees];refine Py aaD<|Pz<|Em<|aV (he c6 s1 σ H1 _ I1 h) λiv s2 ⟨y,H2,I2,ry,q2⟩=>Em<|aV (y4 c6 s2 σ H2 _ I2 q2) λfv s3 ⟨z,H3,I3,rz,q3⟩=>PB ?_;cases q3 with
 | str k ey hs hn=>
  rw[ey]at ry;let⟨tk,rfl⟩:=ry;refine ZvW (ht.at I3.eZ) (λd v ed rv=>?_) λed=>?_
  .rw[FX]at ed;let⟨t',rfl⟩:=rv;exact⟨.int d,H3,I3.tok _,⟨t',rfl⟩,hs d ed⟩
  .rw[FX]at ed;exact⟨z,H3,I3.tok _,rz,hn ed⟩
 |int i ey hn=>rw[ey]at ry;let⟨tk,rfl⟩:=ry;exact ZtV (ht.at I3.eZ) ⟨z,H3,I3.tok _,rz,hn⟩
def ZwY(hm:X.mg x=O (.ref a))(ht:Gj X.K a t)(he:C3 X e g)(y4:C3 X e' g')(m:M2 X (.Name x uu) "get" n5 e e' i9:=by exact⟨rfl,rfl,rfl,rfl⟩)(hg:Gl X x:=by rfl)(hd:(x==("__debug__":ak))=false:=by decide):
  C3 X (.Call (.Attribute (.Name x uu) "get" n5) [e,e'] [] i9) (e2 (FP t) g g'):=(ZuC hm ht he y4 m hg hd).imp λσ H Q ao=>by
 let⟨ι,M,env,S,E,h⟩:=ao;let⟨d,M1,e1,h⟩:=aA.bind h;let⟨d2,M2,e2,h⟩:=aA.bind h;refine⟨ι,M,env,S,E,?_⟩;rw[e1];intro y H1 ι1 x1 S1 r1;refine⟨ι1,M1,env,S1,E.mono x1,?_⟩;rw[e2];intro z H2 ι2 x2 S2 r2;have h:=(h.up x1).up x2;cases d with
 | str k=>
  cases r1.str_inv
  refine .str k aaD (λi hs7=>?_) λen=>?_
  .have h:aA X.K H2 ι2 Q (match um k t with|some i=>.ok (.int i) M2|none=>.ok d2 M2):=h
   rw[hs7]at h;exact aA.ok h S2 i0.int
  .have h:aA X.K H2 ι2 Q (match um k t with|some i=>.ok (.int i) M2|none=>.ok d2 M2):=h
   rw[en]at h;exact aA.ok h S2 r2
 |int i=>
  cases r1.int_inv
  exact .int i aaD<|aA.ok h S2 r2
 |_=>cases h
end
variable{n:Nat}{ι:l6}
section
variable {X:Cx} {e st:Expr} {p2 pos:aZ} {f:E3}
def Zzz{α:Type}{l:List α}{m:Nat}{a b:α}(h:l.Nodup)(h1:l[n]?=O a)(h2:l[m]?=O b)(e:a=b):n=m:=(NB (Yd.mp h1).1 h).mp (by rw[h1,h2,e])
def Zvw{σ:St}{H:Hp}{s:Yi}{M:c5}{A:cC}(hu:A.units+70<fH)(I:c9 X c6 σ H s)(S:aC X.K H ι M){m:Nat}{x y:h8}{u v:V}{a b:Yf}(hn:M[n]?=O (.L x))(hm:M[m]?=O (.L y))(vj:n≠m)(p1:x.all (cP 50)=true)(p2:y.all (cP 50)=true)(ru:i0 X.K H ι (.ref n) u)(rv:i0 X.K H ι (.ref m) v)(ra:i5 u a)(rb:i5 v b):oA A s a b (gY x y):=by
 let⟨p,vs,c_,e1,eu,t,r1,v1⟩:=Rf I S hn ru ra;let⟨q,ws,oQ,e2,ev,t',r2,v2⟩:=Rf I S hm rv rb;let⟨k1,xB,ek1⟩:=ru.fD;let⟨k2,hk2,ek2⟩:=rv.fD;have hpq:p≠q:=λz=>vj (Zzz S.nd xB hk2 (by have z1:V.ref p= .ref k1:=e1.symm.trans ek1;have z2:V.ref q= .ref k2:=e2.symm.trans ek2;injection z1 with z1;injection z2 with z2;rw[<-z1,<-z2,z]));rw[eu,ev];refine PZ hpq ?_;have rg:A.units<fH:=by omega
 have DM:A.in1.units+50+1<fH:=by rw[units_in1];omega
 by_cases hl:x.length=y.length
 .rw[<-YT (mH r1 v1) hl];exact P5 t t' ((mH r1 v1).trans<|hl.trans (mH r2 v2).symm) rg<|Rc (YW I 50 A.in1 DM) p1 p2 r1 r2 v1 v2
 .rw[YS hl];exact P1 t t' (bne_iff_ne.mpr λe=>hl<|(mH r1 v1).symm.trans<|e.trans<|mH r2 v2) rg
def two(a b:Bool):Nat->Bool
 |0=>a|_=>b
def ZyY{A:cC}{s:Yi}{a b c d:Yf}{r1 r2:Bool}(h1:oA A s a c r1)(h2:oA A s b d r2)(j:Nat)(k1:j< #[a,b].size)(k2:j< #[c,d].size):oA A s #[a,b][j] #[c,d][j] (two r1 r2 j):=by
 match j,k1,k2 with
 |0,_,_=>exact h1|1,_,_=>exact h2
end
set_option maxRecDepth 100000
section
variable {prog:Y8} {w:aX} {A:cC} {E:Yf->Yi->Prop} {s:Yi}
def Zql:DP (.type "zip") (n_ "keys")=pure Yj:=by rw[Vv,Vp];kernel_rfl
def ZiH:DP (.type "zip") "__getattr__" =pure Yj:=by rw[Vv,Vp];kernel_rfl
def Zf5:entryFor table "zip.__getattribute__" =O Builtin.«object.__getattribute__»:=entryFor_alias (id':="object.__getattribute__") aaH (by decide +kernel) (by decide +kernel) aaH
def ZlN(a:Ys)(xs:qB)(sl:Array oo)(name:ak)(u:jB)(hmiss:DP (.type "zip") name=pure Yj)(B8:(["__module__","__name__","__qualname__","__doc__","__annotations__"]:oB).contains name=false)(hsz:name.length+100<=bI):
  Meets (Builtin.«object.__getattribute__» ⟨[.ref a,.str name u],[]⟩) (λA R s=>s.heap.get? a=O {cls:=.type "zip",dict:=Yj,data:=.fields xs,slots:=sl}/\raisesAttr (.ref a) name A R s):=
 Meets.of_wp λprog w A R s hs=>by
  let⟨hp,g,d,tk,os⟩:=s;let⟨hx,hs⟩:=hs;have hT:(⟨hp,g,d,tk,os⟩:Yi).TypeIs (.ref a) "zip":=⟨_,hx,rfl⟩;unfold Builtin.«object.__getattribute__»
  repeat(any_goals(first|assumption|wp_step))
  simp only[B8,Aj,if_false]
  repeat(any_goals(first|assumption|wp_step))
  exact wpAny_raiseAttrError hs.1 hs.2 (attrMsg_fits (by decide +kernel) hsz)
set_option maxRecDepth 8000 in
theorem Zpn{a:Ys}{sl:Array oo}(hx:s.heap.get? a=O {cls:=.type "zip",dict:=Yj,data:=.fields xs,slots:=sl})(hA:A.handled=Yj)(h:∀h' tk,(∀b u,s.heap.get? b=O u->h'.get? b=O u)->Q Yj {s with heap:=h',toks:=tk}):Y5 (aq prog w) A (Ov (.ref a)<|n_ "keys") Q E s:=by
 let⟨hp,g,d,tk,os⟩:=s;have hT:∀tk',(⟨hp,g,d,tk',os⟩:Yi).TypeIs (.ref a) "zip":=λ_=>⟨_,hx,rfl⟩;have f1:=Mb;have f3:=F.slot_zip_getattribute.lookup;have f4:=F.slot_zip_getattribute.bind<|.ref a;have f5:=ZiH;unfold Ov getAttrBy? getAttrBy
 repeat(any_goals(first|assumption|exact hT _|((with_reducible show Y5 _ _ (call (Value.builtin "zip.__getattribute__") _ _) _ _ _);refine rF F.slot_zip_getattribute (hT _) Zf5 (F.args_zip_getattribute_2 _ _) (ZlN a xs sl _ _ Zql aaE (by rw[qw];decide)) ⟨hx,hA,λh' tk' e sD=>?_⟩)|wp_step))
 let⟨t',u',he⟩:=sD.there;show Y5 _ _ (Od _ _ _ _ _ _ _) _ _ _;unfold Od
 repeat(any_goals(first|assumption|wp_step))
 all_goals exact h _ _ sD.of.keeps
abbrev Gk(h:aF)(z TI TO T:Ys)(b:Bool):Prop:=h.get? z=O {cls:=.type "zip",dict:=Yj,data:=.fields #[jo T,.bool b,.bool false,.ref TI,.ref TO],slots:=#[]}
def Zpr{M:Model}{a:Ys}{Q:Option aJ->Yi->Prop}(h:Q (s.heap.get? a) s):Y5 M A (VH a) Q E s:=λΓ p _=>by unfold VH;rwa[Sem.wp_loadIfAlive]
def TC{z TI TO T:Ys}{o:aJ}{Q:Bool->Yi->Prop}(hz:Gk s.heap z TI TO T b)(hT:s.heap.get? T=O o)(h:∀h',Gk h' z TI TO T true->(∀c u,c≠z->s.heap.get? c=O u->h'.get? c=O u)->h'.objs.size=d4 s->Q false {s with heap:=h'}):Y5 (aq prog w) A (xY<|.ref z) Q E s:=by
 unfold xY;refine Yc<|gQ hz aaD (x:=jo T) aaD ?_;show Y5 _ _ (VH ((T:Int).toNat)>>=λo=>_) _ _ _;refine Yc<|Zpr ?_;rw[t6,hT];show Y5 _ _ (nW (.ref z) 1>>=λo=>_) _ _ _;refine Yc<|gQ hz aaD (x:=.bool b) aaD ?_;cases b with
 |true=>exact Yo (h s.heap hz (λ_ _ _ q=>q) aaD)|false=>show Y5 _ _ (setField (.ref z) 1 (.bool true)>>=λo=>_) _ _ _;exact Yc<|zR hz j0 λg1 wa r_=>Yo<|h g1 wa (λc u hc q=>r_.extBut _ _ hc q) r_.1
def Ztv{z TI TO T i1 i2 l1 l2:Ys}{x y:Yf}{o:aJ}{Q:Yf->Yi->Prop}(D:ZipApart z TI TO i1 i2 l1 l2)(hz:Gk s.heap z TI TO T b)(hT:s.heap.get? T=O o)(ua:gH s.heap TI (.ref i1) (.ref i2))(h1:dM b1 s.heap i1 l1 k1)(h2:dM b2 s.heap i2 l2 k2)(rl:fL b1 s.heap l1 xs)(sP:fL b2 s.heap l2 ys)(hx:xs[k1]?=O x)(hy:ys[k2]?=O y)(hQ:∀h',Gk h' z TI TO T true->dM b1 h' i1 l1 (k1+1)->dM b2 h' i2 l2 (k2+1)->gH h' (d4 s) x y ->
   (∀c o,c≠z->c≠i1->c≠i2->s.heap.get? c=O o->h'.get? c=O o)->Q (.ref<|d4 s) {s with heap:=h'}):
  Y5 (aq prog w) A (Builtin.«zip.__next__» ⟨[.ref z],[]⟩) (λpV s'=>∃v,pV= .done (.ret v)/\Q v s') E s:=by
 show Y5 _ _ (nW (.ref z) 2>>=λo=>_) _ _ _;refine Yc<|gQ hz aaD (x:=.bool false) aaD (show Y5 _ _ (nW (.ref z) 3>>=λo=>_) _ _ _ from ?_);refine Yc<|gQ hz aaD (x:=.ref TI) aaD<|Yc<|tM ua aaD ?_;refine(show Y5 _ _ (xY (.ref z)>>=λo=>_) _ _ _ from Yc ?_);refine TC hz hT λg1 wa wq z1=>?_;show Y5 _ _ (forIn #[Value.ref i1,Value.ref i2] _ _>>=λo=>_) _ _ _;rw[<-OE];simp only[IW,O5];refine Yc<|Yc<|Yc<|pB (show Y5 _ _ (n6 (.ref i1)>>=λo=>_) _ _ _ from ?_);refine Yc<|nextK (h1.keep λo q=>wq _ o D.i1z q) (rl.keep λo q=>wq _ o D.l1z q) hx λg2 B4 px=>Yo ?_;refine Yo<|Yc<|Yc<|pB (show Y5 _ _ (n6 (.ref i2)>>=λo=>_) _ _ _ from ?_);refine Yc<|nextK (h2.keep λo q=>px.extBut _ o D.i12.symm<|wq _ o D.i2z q) (sP.keep λo q=>px.extBut _ o D.l2i1<|wq _ o D.l2z q) hy λg3 h23 si=>Yo ?_;refine Yo<|Yo ?_;show Y5 _ _ (newTuple [x,y]>>=λo=>_) _ _ _;refine Yc<|wpAny_newTuple ?_;have hsz:g3.objs.size=d4 s:=by rw[si.1,px.1,z1]
 have up:∀c o,g3.get? c=O o->(g3.push {cls:=.type "tuple",data:=.seq #[x,y]}).get? c=O o:=λc o q=>Yl _ q;refine Yo ⟨_,rfl,(show Q (.ref g3.objs.size) _ from ?_)⟩;rw[hsz];have hP:gH (g3.push {cls:=.type "tuple",data:=.seq #[x,y]}) g3.objs.size x y:=Y6 _ aaD;rw[hsz]at hP;exact hQ _ (up _ _<|si.extBut _ _ D.i2z.symm<|px.extBut _ _ D.i1z.symm wa) (B4.keep λo q=>up _ _<|si.extBut _ _ D.i12 q) (h23.keep λo q=>up _ _ q) hP
  λc o c1 c2 c3 q=>up _ _<|si.extBut _ _ c3<|px.extBut _ _ c2<|wq _ _ c1 q
def Zuk{z TI TO T i1 i2 l1 l2:Ys}{o:aJ}{Q:Fin->Yi->Prop}(hh:A.handled=Yj)(D:ZipApart z TI TO i1 i2 l1 l2)(hz:Gk s.heap z TI TO T b)(hT:s.heap.get? T=O o)(ua:gH s.heap TI (.ref i1) (.ref i2))(h1:dM b1 s.heap i1 l1 k1)(h2:dM b2 s.heap i2 l2 k2)(rl:fL b1 s.heap l1 xs)(sP:fL b2 s.heap l2 ys)(tS:xs[k1]?=Yj\/ys[k2]?=Yj)(hE:∀h' e,(∀c o,c≠z->c≠i1->c≠i2->s.heap.get? c=O o->h'.get? c=O o)->(∃o,h'.get? e=O o/\o.cls= .type "StopIteration")->E (.ref e) {s with heap:=h'}):
  Y5 (aq prog w) A (Builtin.«zip.__next__» ⟨[.ref z],[]⟩) Q E s:=by
 show Y5 _ _ (nW (.ref z) 2>>=λo=>_) _ _ _;refine Yc<|gQ hz aaD (x:=.bool false) aaD (show Y5 _ _ (nW (.ref z) 3>>=λo=>_) _ _ _ from ?_);refine Yc<|gQ hz aaD (x:=.ref TI) aaD<|Yc<|tM ua aaD ?_;refine(show Y5 _ _ (xY (.ref z)>>=λo=>_) _ _ _ from Yc ?_);refine TC hz hT λg1 wa wq z1=>?_;show Y5 _ _ (forIn #[Value.ref i1,Value.ref i2] _ _>>=λo=>_) _ _ _;rw[<-OE];simp only[IW,O5];refine Yc<|Yc<|Yc<|pB (show Y5 _ _ (n6 (.ref i1)>>=λo=>_) _ _ _ from ?_);have B6:dM b1 g1 i1 l1 k1:=h1.keep λo q=>wq _ o D.i1z q;have Ia:fL b1 g1 l1 xs:=rl.keep λo q=>wq _ o D.l1z q;cases hx:xs[k1]? with
 |none=>refine Yc<|Ry hh B6 Ia hx λg2 e px he=>?_;exact hE g2 e (λc o c1 c2 _ q=>px _ _ c2<|wq _ _ c1 q) he|some x=>
  have hy:ys[k2]?=Yj:=by rcases tS with q|q;rw[hx]at q;cases q;exact q
  refine Yc<|nextK B6 Ia hx λg2 B4 px=>Yo ?_;refine Yo<|Yc<|Yc<|pB (show Y5 _ _ (n6 (.ref i2)>>=λo=>_) _ _ _ from ?_);refine Yc<|Ry hh (h2.keep λo q=>px.extBut _ o D.i12.symm<|wq _ o D.i2z q) (sP.keep λo q=>px.extBut _ o D.l2i1<|wq _ o D.l2z q) hy λg4 e uD he=>?_;exact hE g4 e (λc o c1 c2 c3 q=>uD _ _ c3<|px.extBut _ _ c2<|wq _ _ c1 q) he
inductive ZS(b1 b2:Bool)(z TI TO i1 i2 l1 l2:Ys)(xs ys:qB)(i:Nat)(h:aF):Prop
 |mk (zz:(lz h z TI TO .none/\∃a b,gH h TO a b)\/∃T b o,Gk h z TI TO T b/\h.get? T=O o/\T≠i1/\T≠i2/\T≠z) (pp:gH h TI (.ref i1) (.ref i2)) (j1:dM b1 h i1 l1 i) (j2:dM b2 h i2 l2 i) (o1:fL b1 h l1 xs) (o2:fL b2 h l2 ys)
def ZwF{z TI TO i1 i2 l1 l2:Ys}{x y:Yf}(D:ZipApart z TI TO i1 i2 l1 l2)(Z:ZS b1 b2 z TI TO i1 i2 l1 l2 xs ys i s.heap)(hx:xs[i]?=O x)(hy:ys[i]?=O y)(hQ:∀h',ZS b1 b2 z TI TO i1 i2 l1 l2 xs ys (i+1) h'->gH h' (d4 s) x y->(∀c o,c≠z->c≠TO->c≠i1->c≠i2->s.heap.get? c=O o->h'.get? c=O o)->Q (O<|.ref<|d4 s) {s with heap:=h'}):
  Y5 (aq prog w) A (ji<|.ref z) Q E s:=by
 let⟨zz,pp,j1,j2,o1,o2⟩:=Z;have g1:=j1.there;have g2:=j2.there;rcases zz with⟨hz,a,b,sA⟩|⟨T,b,o,hz,hT,n1,n2,n3⟩
 .refine Zol D hz pp sA j1 j2 o1 o2 hx hy λh' AQ Aip xD B9 hP hk=>hQ h' ⟨.inr ⟨d4 s,false,_,AQ,hP,?_,?_,rK<|Yw hz⟩,hk _ _ D.TIz D.TITO D.TIi1 D.TIi2 pp,xD,B9,o1.keep λo q=>hk _ _ D.l1z D.l1TO D.l1i1 D.l1i2 q,o2.keep λo q=>hk _ _ D.l2z D.l2TO D.l2i1 D.l2i2 q⟩ hP hk
  .let⟨u,q,_⟩:=g1;exact rK<|Yw q
  .let⟨u,q,_⟩:=g2;exact rK<|Yw q
 .have Cc:s.TypeIs (.ref z) "zip":=⟨_,hz,rfl⟩;unfold ji;exact Yc (Ip (vh (name:=n_ "__next__") Cc x_ (vz x_ Cc Pq
   (Ztv D hz hT pp j1 j2 o1 o2 hx hy λh' AQ xD B9 hP hk=>Yo<|hQ h' ⟨.inr ⟨T,true,o,AQ,hk _ _ n3 n1 n2 hT,n1,n2,n3⟩,hk _ _ D.TIz D.TIi1 D.TIi2 pp,xD,B9,o1.keep λo q=>hk _ _ D.l1z D.l1i1 D.l1i2 q,o2.keep λo q=>hk _ _ D.l2z D.l2i1 D.l2i2 q⟩ hP λc o c1 _ c3 c4 q=>hk c o c1 c3 c4 q) (Pn _))))
def AfP{z TI TO i1 i2 l1 l2:Ys}(hh:A.handled=Yj)(D:ZipApart z TI TO i1 i2 l1 l2)(Z:ZS b1 b2 z TI TO i1 i2 l1 l2 xs ys i s.heap)(tS:xs[i]?=Yj\/ys[i]?=Yj)(hQ:∀h',(∀c o,c≠z->c≠TO->c≠i1->c≠i2->s.heap.get? c=O o->h'.get? c=O o)->Q Yj {s with heap:=h'}):
  Y5 (aq prog w) A (ji<|.ref z) Q E s:=by
 let⟨zz,pp,j1,j2,o1,o2⟩:=Z;rcases zz with⟨hz,a,b,sA⟩|⟨T,b,o,hz,hT,n1,n2,n3⟩
 .exact ZpU hh D hz pp sA j1 j2 o1 o2 tS hQ
 .have Cc:s.TypeIs (.ref z) "zip":=⟨_,hz,rfl⟩;unfold ji;refine Yc (Ip (vh (name:=n_ "__next__") Cc x_ (vz x_ Cc Pq
   (Zuk hh D hz hT pp j1 j2 o1 o2 tS λh' e hk he=>?_) (Pn _))))
  let⟨o,ho,hc⟩:=he;exact Yc<|Vu (T:="StopIteration") (b:=true) ⟨o,ho,hc⟩ Vy<|Yo<|hQ _ λc o c1 _ c3 c4 q=>hk c o c1 c3 c4 q
end
set_option maxRecDepth 100000
variable{ps:w8}
section
variable {prog:Y8} {w:aX} {A:cC} {E:Yf->Yi->Prop} {s:Yi}
def ZS.keep{z TI TO i1 i2 l1 l2 d:Ys}{h':aF}(Z:ZS b1 b2 z TI TO i1 i2 l1 l2 xs ys i h)(nd:∀c∈[z,TI,TO,i1,i2,l1,l2],c≠d)(k:∀c o,c≠d->h.get? c=O o->h'.get? c=O o)(kd:∃o,h'.get? d=O o):ZS b1 b2 z TI TO i1 i2 l1 l2 xs ys i h':=by
 let⟨zz,pp,j1,j2,o1,o2⟩:=Z;refine⟨?_,k _ _ (nd TI j0) pp,j1.keep λo q=>k _ _ (nd i1 j0) q,j2.keep λo q=>k _ _ (nd i2 j0) q,o1.keep λo q=>k _ _ (nd l1 j0) q,o2.keep λo q=>k _ _ (nd l2 j0) q⟩;rcases zz with⟨hz,a,b,sA⟩|⟨T,b,o,hz,hT,n1,n2,n3⟩
 .exact .inl ⟨k _ _ (nd z j0) hz,a,b,k _ _ (nd TO j0) sA⟩
 .by_cases e:T=d
  .let⟨o',q⟩:=kd;exact .inr ⟨T,b,o',k _ _ (nd z j0) hz,by rwa[e],n1,n2,n3⟩
  .exact .inr ⟨T,b,o,k _ _ (nd z j0) hz,k _ _ e hT,n1,n2,n3⟩
def Gm(prog:Y8)(w:aX)(ps:w8)(xs ys:qB):Prop:=b9 ps=jL xs.size ys.size/\∀(j:Nat) q,ps[j]?=O q->∃x,xs[j]?=O x/\ys[j]?=O q.2/\(gj prog w).is q.1 x=true
def Zs5{d z TI TO i1 i2 l1 l2:Ys}{res:Yf}(hh:A.in1.handled=Yj)(D:ZipApart z TI TO i1 i2 l1 l2)(nd:∀c∈[z,TI,TO,i1,i2,l1,l2],c≠d)(kp:Gm prog w ps xs ys)(hz:b9 ps<=100000):
  ∀(k i:Nat) (s:Yi) (kvs:w8) {R:vC->Yi->Prop},b9 ps-i=k->i<=b9 ps->ZS b1 b2 z TI TO i1 i2 l1 l2 xs ys i s.heap->s.heap.DictOf (gj prog w) d kvs->b9 kvs<=i ->
   (∀h' tk,h'.DictOf (gj prog w) d (PySem.merged kvs<|ps.drop i)->(∀b o,b≠d->b≠z->b≠TO->b≠i1->b≠i2->s.heap.get? b=O o->h'.get? b=O o)->R (.ok<|.ret res) {s with heap:=h',toks:=tk}) ->
   mV (aq prog w) A (.builtin "dict.update.loop" ⟨[.ref d,.ref z,jo i,res],[]⟩) R s:=by
 intro k
 induction k with
 | zero=>
  intro i s kvs R hk hi st dd Fs hR;have y6:i=b9 ps:=by omega
  refine Og Rn ?_;rw[PN yQ _];show Y5 _ A.in1 (ji (.ref z)>>=_) _ _ s;refine Yc<|AfP hh D st ?_ λh' kk=>?_
  .have:=kp.1;by_cases q:xs.size<=i
   .left;simp;omega
   .right;simp;omega
  show Y5 _ A.in1 (Pf d []>>=_) _ _ _;refine Yc<|Yo<|Yo<|hR h' _ ?_ λb o _ hb hI h3 h4 e=>kk b o hb hI h3 h4 e;rw[MS c8];let⟨o,es,ep,ho,r⟩:=dd;exact⟨o,es,ep,kk d o (nd z j0).symm (nd TO j0).symm (nd i1 j0).symm (nd i2 j0).symm ho,r⟩
 | succ k ih=>
  intro i s kvs R hk hi st dd Fs hR;have n9:i<b9 ps:=by omega
  let⟨x,hx,hy,vw⟩:=kp.2 i ps[i]<|Y0 n9;refine Og Rn ?_;rw[PN yQ _];show Y5 _ A.in1 (ji (.ref z)>>=_) _ _ s;refine Yc<|ZwF D st hx hy λh1 DT hP Ge=>?_;have hld:d<d4 s:=by let⟨o,_,_,ho,_⟩:=dd;exact Yw ho
  have Z6:h1.DictOf (gj prog w) d kvs:=by let⟨o',es,ep,qf,r⟩:=dd;exact⟨o',es,ep,Ge d o' (nd z j0).symm (nd TO j0).symm (nd i1 j0).symm (nd i2 j0).symm qf,r⟩
  dsimp only;refine Yc<|pB<|Yc<|wpAny_tryCatch ?_;unfold Pm;refine Yc<|zW (T:="tuple") ⟨_,hP,rfl⟩ ?_;rw[f_ aaE];refine Yc ?_;unfold Ot;refine Yc<|VN hP ?_;refine Yo<|Yo ?_;show Y5 _ A.in1 (z8 [x,ps[i].2]<|dictSet d x ps[i].2) _ _ _;refine pB (L9 vw Z6 (λh2 yA sb=>?_) (by rw[qw];omega));refine Yo ⟨Oj yQ _,?_⟩;show mV (aq prog w) A (.builtin "dict.update.loop" ⟨[.ref d,.ref z,jo<|(i:Int)+1,res],[]⟩) R _;have e1:((i:Int)+1)=((i+1:Nat):Int):=rfl;rw[e1];have k2:∀b u,b≠d->b≠z->b≠TO->b≠i1->b≠i2->s.heap.get? b=O u->h2.get? b=O u:=λb u hb h1 h2 h3 h4 e=>(sb.2 b hb).trans<|Ge b u h1 h2 h3 h4 e;refine ih (i+1) _ (vD kvs ps[i].1 ps[i].2) c8 n9 (DT.keep nd (λc o hc q=>(sb.2 c hc).trans q) ?_) yA ?_ ?_
  .let⟨o,_,_,ho,_⟩:=yA;exact⟨o,ho⟩
  .have:=(show(vD kvs ps[i].1 ps[i].2).length<=b9 kvs+1 from by unfold vD;split <;>simp);omega
  .intro h' tk oF BK;refine hR h' tk ?_ λb u hb h1 h2 h3 h4 e=>BK b u hb h1 h2 h3 h4<|k2 b u hb h1 h2 h3 h4 e;rwa[z_ n9]
def Zu5{z TI TO i1 i2 l1 l2:Ys}{Q:Yf->Yi->Prop}(hA:A.handled=Yj)(D:ZipApart z TI TO i1 i2 l1 l2)(hZ:lz s.heap z TI TO .none)(sA:∃a b,gH s.heap TO a b)(ua:gH s.heap TI (.ref i1) (.ref i2))(j1:dM b1 s.heap i1 l1 0)(j2:dM b2 s.heap i2 l2 0)(o1:fL b1 s.heap l1 xs)(o2:fL b2 s.heap l2 ys)(kp:Gm prog w ps xs ys)(hz:b9 ps<=100000)(h:∀h' tk,h'.DictOf (gj prog w) (d4 s) (PySem.merged [] ps)->(∀b o,b≠z->b≠TO->b≠i1->b≠i2->s.heap.get? b=O o->h'.get? b=O o)->Q (.ref<|d4 s) {s with heap:=h',toks:=tk}):
  Y5 (aq prog w) A (call (.type "dict") [.ref z]) Q E s:=by
 have nlt:∀c∈[z,TI,TO,i1,i2,l1,l2],c<d4 s:=λc hc=>by
  let⟨a,b,sA⟩:=sA;let⟨u1,q1,_⟩:=j1.there;let⟨u2,q2,_⟩:=j2.there;simp only[Yt,vK,or_false]at hc;rcases hc with rfl|rfl|rfl|rfl|rfl|rfl|rfl
  exact Yw hZ;exact Yw ua;exact Yw sA;exact Yw q1;exact Yw q2;exact o1.there;exact o2.there
 refine callType_codes (Q₁:=λobj s₁=>obj= .ref (d4 s)/\s₁={s with heap:=s.heap.push {cls:=.type "dict",data:=.dict #[]}}) OU (OO _) OS (ME _ ⟨rfl,rfl⟩) ?_;rintro obj s₁ ⟨rfl,rfl⟩;have s_:(s.heap.push {cls:=.type "dict",data:=.dict #[]}).DictOf (gj prog w) (d4 s) []:=WN s.heap;have xB:∀b u,s.heap.get? b=O u->(s.heap.push {cls:=.type "dict",data:=.dict #[]}).get? b=O u:=λb u q=>Yl _ q;refine⟨s_.typeIs,OR _ _,?_⟩;unfold Builtin.«dict.__init__»;refine Yc ?_;unfold Pl;refine Yc<|L7 s_.typeIs ?_;show Y5 _ _ (pure (d4 s,[Value.ref z])) _ _ _;refine Yo ?_;show Y5 _ _ (PL "dict.__init__" (d4 s) (.ref z) [] .none) _ _ _;unfold PL;refine Yc<|zW (T:="zip") ⟨_,xB _ _ hZ,rfl⟩ ?_;rw[f_ aaE];refine Yc<|Zpn (xB _ _ hZ) hA λh2 tk2 k2=>?_;simp only[LM,if_true];refine Yc<|z6 ?_;have d2:h2.DictOf (gj prog w) (d4 s) []:=by let⟨o',es,ep,qf,r⟩:=s_;exact⟨o',es,ep,k2 _ _ qf,r⟩
 have k0:∀b u,s.heap.get? b=O u->h2.get? b=O u:=λb u q=>k2 _ _<|xB _ _ q;refine Yc<|wpAny_pyIter_zip (k0 _ _ hZ) ?_;have st:ZS b1 b2 z TI TO i1 i2 l1 l2 xs ys 0 h2:=by let⟨a,b,sA⟩:=sA;exact⟨.inl ⟨k0 _ _ hZ,a,b,k0 _ _ sA⟩,k0 _ _ ua,j1.keep λo q=>k0 _ _ q,j2.keep λo q=>k0 _ _ q,o1.keep λo q=>k0 _ _ q,o2.keep λo q=>k0 _ _ q⟩
 refine Yo ⟨Oj yQ _,Zs5 (prog:=prog) (w:=w) (A:=A.in1) hA D (λc hc=>eE<|nlt c hc) kp hz (b9 ps) 0 _ [] aaD (dY _) st d2 (dY _) λh' tk oF BK=>?_⟩;exact⟨rfl,h h' tk oF λb u b1 b2 b3 hs8 q=>BK b u (eE<|Yw q) b1 b2 b3 hs8<|k0 _ _ q⟩
end
set_option maxRecDepth 100000
section
variable {X:Cx} {K:Yb} {H:Hp} {ι:l6} {prog:Y8} {w:aX}
def ZsU{ux uy:l5}{k:Key}{u v:Yf}(hk:(gj prog w).is k u=true)(h:Gm prog w ps ux.toArray uy.toArray):Gm prog w ((k,v)::ps) (u::ux).toArray (v::uy).toArray:=by
 refine⟨?_,λj q hq=>?_⟩
 .have:=h.1;simp only[Yq,Yh]at this |-;omega
 .cases j with
  |zero=>rw[<-Y9 hq];exact⟨u,rfl,rfl,hk⟩|succ j=>let⟨x,h1,h2,h3⟩:=h.2 j q hq;exact⟨x,by simpa using h1,by simpa using h2,h3⟩
def Zzm:∀{x y:h8} {l:l9} {vx vy:k6} {ux uy:l5},kJ (yF x y)=O l->aB K H ι x vx->aB K H ι y vy->i3 vx ux->i3 vy uy ->
  ∃(ws:sv) (ps:w8),cJ K H ι l ws/\KV ws ps/\Gm prog w ps ux.toArray uy.toArray/\ps.length=b9 l:=by
 intro x
 induction x with
 |nil=>intro y l vx vy ux uy h rx ry hx hy;rw[rx.nil_inv]at hx;cases hx;have e:l=[]:=(Y9 h).symm;rw[e];exact⟨[],[],cJ.nil,.nil,⟨j0,λj q z=>e_ z⟩,rfl⟩|cons a x ih=>
  intro y l vx vy ux uy h rx ry hx hy;cases y with
  |nil=>rw[ry.nil_inv]at hy;cases hy;have e:l=[]:=(Y9 h).symm;rw[e];exact⟨[],[],cJ.nil,.nil,⟨j0,λj q z=>e_ z⟩,rfl⟩|cons b y=>
   have h:kJ (.U [a,b]::yF x y)=O l:=h;let⟨a',b',k,l',ed,hk,sD,el⟩:=gh h;injection ed with ed;injection ed with e1 ed;injection ed with e2 ed;rw[<-e1]at hk;rw[el,<-e2];let⟨v1,vx',rfl,r1,rx⟩:=rx.cons_inv;let⟨v2,vy',rfl,r2,ry⟩:=ry.cons_inv;cases hx with
   | @cons _ u1 _ _ q1 hx=>cases hy with
    | @cons _ u2 _ _ q2 hy=>let⟨ws,ps,kr,kv,kp,hl⟩:=ih sD rx ry hx hy;exact⟨(dk k,v2)::ws,(dk k,u2)::ps,cJ.cons r2 kr,.cons ⟨rfl,q2⟩ kv,ZsU (Ey<|by rwa[<-Gd hk r1]) kp,congrArg Nat.succ hl⟩
end
section
variable {X:Cx} {a b:Expr} {p p1 pos sM:aZ} {f g:E3}
inductive AfQ(X:Cx)(H1:Hp)(vs:k6)(Q:VK):Prop
 |mk (b1 b2:Bool) (l1 l2:Ys) (xs ys:k6) (e:vs=[.ref l1,.ref l2]) (s1:BX b1 X.K H1 l1 xs) (s2:BX b2 X.K H1 l2 ys)
  (q:∀ux uy,i3 xs ux->i3 ys uy->∃ws ps,KV ws ps/\Gm X.prog X.w ps ux.toArray uy.toArray/\ps.length<=100000/\∀p,H1 p=Yj->Q (.ref p) (k4 H1 p<|.dK<|Ar [] ws))
def Zqf{ta:TA}(hc:X.calm=true)(hg:Gl X "zip")(hm:X.mg "zip" =Yj)(FY:Gl X "dict")(F0:X.mg "dict" =Yj)(ha:PA X [a,b] ta)(hs:Y1 [a,b] X.env=[(false,aU a X.env),(false,aU b X.env)])(px:Y1 [b] X.env=[(false,aU b X.env)])(he:Y1 [.Call (.Name "zip" p1) [a,b] [] sM] X.env=[(false,aU (.Call (.Name "zip" p1) [a,b] [] sM) X.env)]):
  PE X (.Call (.Name "dict" p) [.Call (.Name "zip" p1) [a,b] [] sM] [] pos) (λσ H Q=>ta σ H λvs H1=>AfQ X H1 vs Q):=by
 intro c6 s σ H Q I h;refine Call_ (Am I FY F0 ZN<|Jd ?_ (by rw[he];rfl) aaD);rw[he];refine Em (Call_<|Am I hg hm ZtD<|Jd (aV (ha sM c6 s σ H _ I h) λus s1 ao=>?_) (by rw[hs,px]) (by rw[px];rfl));let⟨vs,H1,I1,r1,b1,b2,l1,l2,xs,ys,e,hx,hy,q⟩:=ao;subst e;cases r1 with
 | cons r rr=>
  cases rr with
  | cons r' rr=>
   cases rr
   cases r
   cases r'
   let⟨c_,rv,q1⟩:=BX.at I1 hx;let⟨oQ,rv2,q2⟩:=BX.at I1 hy;let⟨ws,ps,kv,kp,hz,hQ⟩:=q c_ oQ rv rv2;refine ZtE q1 q2 λh' hZ ua sA xD B9 hk=>PB ?_;have hle:d4 s1<=h'.objs.size:=Yx (xW _ 4)<|Eg<|Yw hZ;refine Zu5 (s:={s1 with heap:=h'}) (I.ok.hd hc) (zipApart_new q1.there q2.there) hZ ⟨_,_,sA⟩ ua xD B9 (q1.keep λo q=>hk _ _ q) (q2.keep λo q=>hk _ _ q) kp hz λh2 tk dd kk=>?_;refine⟨.ref h'.objs.size,k4 H1 h'.objs.size<|.dK<|Ar [] ws,?_,rfl,hQ _<|I1.kb.fresh hle⟩;refine I1.laid (λc o q=>?_) hle<|Qv ?_ ?_ (kv.merge (kvs:=[]) (vs:=[]) .nil) dd
   .have n9:=Yw q;have hn:∀m,c≠d4 s1+m:=λm=>eE<|Yy n9<|xW _ _;exact kk c o (hn 4) (hn 3) (hn 0) (hn 1)<|hk c o q
   .have h1:=Xo ws [];have:=kv.length;rw[gw]at h1;rw[qw];omega
   .exact beq_eq_false_iff_ne.mpr<|cF<|eE<|Yy I1.big hle
def bC{H:Hp}{M:c5}{d:D}{v:V}{x:h8}{l:List (Nat×h8)}(S:aC K H ι M)(r:i0 K H ι d v)(e:JW M d=O (x,l)):∃b a,v= .ref a/\∃vs,BX b K H a vs/\aB K H ι x vs:=by
 cases d with
 |U ds=>let⟨a,vs,rfl,s,r⟩:=r.jf;cases e;exact⟨false,a,rfl,vs,s,r⟩|ref n=>
  have e:(match M[n]? with|some (.L x)=>O (x,[(n,x)])|_=>Yj)=O (x,l):=e;cases hm:M[n]? with
  |none=>rw[hm]at e;exact e_ e|some o=>cases o with
   |L ds=>rw[hm]at e;let⟨a,ha,rfl⟩:=r.fD;let⟨vs,q,rr⟩:=S.obj n _ a hm ha;cases e;exact⟨true,a,rfl,vs,dm.of q,rr⟩|_=>rw[hm]at e;exact e_ e
 |_=>exact e_ e
def Zte(hc:X.calm=true)(hm:X.mg "zip" =Yj)(F0:X.mg "dict" =Yj)(h1:C3 X a f)(h2:C3 X b g)(hg:Gl X "zip":=by rfl)(FY:Gl X "dict":=by rfl)(hs:Y1 [a,b] X.env=[(false,aU a X.env),(false,aU b X.env)]:=by rfl)(px:Y1 [b] X.env=[(false,aU b X.env)]:=by rfl)(vS:Y1 (a::[b]) X.env=(false,aU a X.env)::Y1 [b] X.env:=by rfl)(uk:Y1 (b::[]) X.env=(false,aU b X.env)::Y1 [] X.env:=by rfl)(he:Y1 [.Call (.Name "zip" p1) [a,b] [] sM] X.env=[(false,aU (.Call (.Name "zip" p1) [a,b] [] sM) X.env)]:=by rfl):
  C3 X (.Call (.Name "dict" p) [.Call (.Name "zip" p1) [a,b] [] sM] [] pos) (JX f g):=
 (Zqf hc hg hm FY F0 (Zb h1 (Zb h2 Zf uk) vS) hs px he).imp λσ H Q ao=>by
  let⟨ι,M,env,S,E,h⟩:=ao;let⟨d,M1,e1,h⟩:=aA.bind h;let⟨d2,M2,e2,h⟩:=aA.bind h;refine⟨ι,M,env,S,E,?_⟩;have e3:Za f (Za g Ze) env M= .ok [d,d2] M2:=by simp only[Za,Ze,R3.bind,e1,e2]
  rw[e3];intro vs H1 ι1 x1 S1 r1;let⟨v,ws,rfl,r,q⟩:=r1.cons_inv;let⟨v2,p6,rfl,r2,q2⟩:=q.cons_inv;have:=q2.nil_inv;subst this;cases q1:JW M2 d with
  |none=>simp only[q1]at h;cases h|some hT8=>
   cases q2:JW M2 d2 with
   |none=>simp only[q1,q2]at h;cases h|some hz4=>
    let⟨x,l⟩:=hT8;let⟨y,k⟩:=hz4;simp only[q1,q2]at h;unfold Q0 at h;cases hp:kJ (yF x y)with
    |none=>rw[hp]at h;cases h|some l3=>
     rw[hp]at h;dsimp only at h;by_cases hl:b9 l3<=100000
     .rw[f_ hl]at h;let⟨b1,a1,rfl,xs,w1,f1⟩:=bC S1 r q1;let⟨b2,a2,rfl,ys,w2,f2⟩:=bC S1 r2 q2;refine⟨b1,b2,a1,a2,xs,ys,rfl,w1,w2,λux uy hx hy=>?_⟩;let⟨ws,ps,kr,kv,kp,i7⟩:=Zzm (prog:=X.prog) (w:=X.w) hp f1 f2 hx hy;refine⟨ws,ps,kv,kp,by rwa[i7],λp hp=>?_⟩;let⟨x2,S2,r2⟩:=S1.j3 hp<|cJ.merge (kvs:=[]) (ws:=[]) kr cJ.nil;exact(h.up x1) _ _ _ x2 S2 r2
     .rw[i6 hl]at h;cases h
end
section
variable {X:Cx} {pos:aZ}
def Zw0{x:ak}{a:Ys}{ds:k9}(hm:X.mg x=O (.ref a))(ht:Ko X.K (ds.map λy=>(⟨pd y⟩:ak)) (.ref a)=true)(hg:Gl X x:=by rfl)(hd:(x==("__debug__":ak))=false:=by decide):C3 X (.Name x pos) (eC<|.U<|ds.map D.str):=by let⟨b,eb,sq⟩:=Zxl ht;cases eb;exact YB (v:=.ref a) hm aaD (λH ι=>i0.U (sq H)<|yb ds) hg hd
def Zv5:aY X (iB .NotIn) (r2 X.K JZ):=by
 intro c6 s σ H x y v u Q I rx ry ⟨ι,M,a,b,S,ra,rb,h⟩;unfold JZ at h;cases b with
 | ref n=>
  cases hn:M[n]? with
  |none=>simp only[hn]at h;cases h|some ob=>
   cases ob with
   |j3 _=>simp only[hn]at h;cases h|dW _=>simp only[hn]at h;cases h|ins _ _=>simp only[hn]at h;cases h|L ds=>
    simp only[hn]at h;by_cases hf:(fc a&&ds.all fc)=true
    .rw[f_ hf]at h;rw[j5]at hf;let⟨p,hp,rfl⟩:=rb.fD;cases ry;let⟨vs,e1,r1⟩:=S.obj n _ p hn hp;let⟨c_,vT,pl,_⟩:=I.list<|dm.of e1;have he:∀y,y∈c_.toArray->oA X.A.in1 s y v (eU (Rq y) a):=λy hy=>by
      have hy:y∈c_:=by simpa using hy
      let⟨j,hj⟩:=IK hy;have hσ:j<b9 vs:=by rw[vT.length];exact(Yd.mp hj).1
      let⟨w,hw,jN⟩:=vT.get<|Y0 hσ;rw[hj]at hw;cases hw;have h₆:j<b9 ds:=by rwa[<-r1.length]
      let⟨z,hz,rz⟩:=r1.get<|Y0 h₆;rw[Y0 hσ]at hz;cases hz;have Bn:=nY.mp hf.2 _<|xT h₆;rw[E1 Bn rz jN];exact YQ X.A.in1 ds[j] a _ x y v Bn hf.1 rz ra jN rx
     refine OY (λy=>eU (Rq y) a) pl.isList he ⟨.bl<|!ds.any λy=>eU y a,H,I,?_,h _ H ι k7.refl S i0.bl⟩;show(.bool _:Yf)= .bool _;rw[l7 r1 vT hf.2];simp
    .rw[i6 hf]at h;cases h
 |_=>cases h
end
section
variable {X:Cx} {any:Bool} {o i e c1:Expr} {f g h:E3} {u w:S3} {pos ow n5 i9:aZ}
def Zwy{x y:rq}(hc:oU X c1 f)(ha:nG X any x u)(hb:nG X any y w)(he:∀whole,isTrue c1 X.env whole=(do let v ←whole;Iv c1.pos;z8 [v] (truthy v)):=by intro _;rfl):qO X any (.If c1 x y pos) (aQ f u w):=(W5 (W3 hc he) ha hb).imp λD σ H ao=>by
 let⟨ι,M,env,S,E,h⟩:=ao;refine⟨ι,M,env,S,E,?_⟩;unfold aQ at h;cases q:f env M with
 | ok d M1=>
  rw[q]at h;cases d with
  |bl k=>
   intro v H1 ι1 x1 S1 r1;refine⟨k,r1.iU,?_⟩;cases k with
   |true=>rw[f_ aaD];exact⟨ι1,M1,env,S1,E.mono x1,mK.up x1 (λ_=>rfl) h⟩|false=>rw[i6 aaE];exact⟨ι1,M1,env,S1,E.mono x1,mK.up x1 (λ_=>rfl) h⟩
  |_=>cases h
 |exc x M1=>rw[q]at h;exactλa C H' ι' x1 S1 r1 c1 a' C' e1 e2=>by cases e1;cases e2;exact h σ a C H' ι' (λ_=>rfl) x1 S1 r1 c1|bad=>rw[q]at h;cases h
def Zqc(hp:Oq (aq X.prog X.w) X.A X.env X.xe)(hc:oU X c1 f)(hb:nG X true body u)(he:∀whole,isTrue c1 X.env whole=(do let v ←whole;Iv c1.pos;z8 [v] (truthy v)):=by intro _;rfl):qO X true (.While c1 body [] pos) (Fq f u):=(RU hp (W3 hc he) hb).imp λD σ H ao=>by
 let⟨ι,M,env,S,E,h⟩:=ao;refine⟨λm σ2 H2=>∃ι2 M2 fG,aC X.K H2 ι2 M2/\b_ X.K H2 ι2 fG σ2/\mK X true σ2 H2 ι2 D (jl f u m fG M2),⟨1000000,ι,M,env,S,E,h⟩,?_⟩;rintro m σ2 H2 ⟨ι2,M2,fG,S2,E2,h2⟩;cases m with
 |zero=>exact h2.elim|succ m=>
  refine⟨ι2,M2,fG,S2,E2,?_⟩;rw[oJ]at h2;cases q:f fG M2 with
  |exc x M1=>rw[q]at h2;exactλa C H' ι' x1 S1 r1 c1 a' C' e1 e2=>by cases e1;cases e2;exact h2 σ2 a C H' ι' (λ_=>rfl) x1 S1 r1 c1|bad=>rw[q]at h2;exact h2.elim|ok d M1=>
   rw[q]at h2;cases d with
   | bl k=>
    intro v H3 ι3 x3 S3 r3;refine⟨k,r3.iU,?_⟩;cases k with
    |false=>rw[i6 aaE];exact h2 σ2 H3 ι3 x3 S3 (E2.mono x3)|true=>
     rw[f_ aaD];refine⟨λσ' H'=>∃ι4 M4 jK,aC X.K H' ι4 M4/\b_ X.K H' ι4 jK σ'/\mK X true σ' H' ι4 D (jl f u m jK M4),λσ' H' q=>⟨m,Ef _,q⟩,ι3,M1,fG,S3,E2.mono x3,?_⟩;have h3:=mK.up (any:=true) (σ1:=σ2) x3 nofun h2;cases qu:u fG M1 with
     |nx e' M'=>simp only[qu]at h3;exactλσ' H' ι' x' S' E'=>⟨ι',M',e',S',E',h3.up x' nofun⟩|ct e' M'=>simp only[qu]at h3;exactλσ' H' ι' x' S' E'=>⟨ι',M',e',S',E',h3.up x' nofun⟩|bk e' M'=>simp only[qu]at h3;exact h3|rt d M'=>simp only[qu]at h3;exact h3
     |exc x' M'=>simp only[qu]at h3;exact h3|bad=>simp only[qu]at h3;exact h3.elim
   |_=>exact h2.elim
def ni(hu:X.A.units+80<fH)(ho:C3 X.iC o f)(hi:C3 X.iC i g)(hv:oU X e h)(hs:pC e (O<|.Subscript o i ow) pos.line X.env=pure false:=by rfl):qO X any (.Assign [.Subscript o i ow] e pos) (yH f g h):=(UA (rg hu) (PE.iC ho) (PE.iC hi) hv hs).imp λD' σ H ao=>by
 let⟨ι,M,env,S,E,hh⟩:=ao;refine⟨ι,M,env,S,E,?_⟩;unfold yH at hh;cases q:h env M with
 |bad=>rw[q]at hh;exact hh.elim|exc x M1=>rw[q]at hh;exactλa C H' ι' x1 S1 r1 c1 a' C' e1 e2=>by cases e1;cases e2;exact hh σ a C H' ι' (λ_=>rfl) x1 S1 r1 c1|ok d M1=>
  rw[q]at hh;have hh:=FF (X:=X) hh;intro v H1 ι1 x1 S1 r1;let⟨d',M1',b,M2,k,M3,e1,e2,e3,hh⟩:=oD<|Z1 (f:=e3 JK (VX d) f g) E hh;cases e1;refine⟨ι1,M1,env,S1,E.mono x1,?_⟩;rw[e2];intro x H2 ι2 x2 S2 r2;refine⟨ι2,M2,env,S2,(E.mono x1).mono x2,?_⟩;rw[e3];intro y H3 ι3 x3 S3 r3;cases b with
  | ref n=>
   simp only[QD]at hh;cases hn:M3[n]? with
   |none=>simp only[hn]at hh;exact hh.elim|some ob=>
    cases ob with
    |L _=>simp only[hn]at hh;exact hh.elim|dW _=>simp only[hn]at hh;exact hh.elim|ins _ _=>simp only[hn]at hh;exact hh.elim|j3 kvs=>
     cases hk:gZ k with
     |none=>simp only[hn,hk]at hh;exact hh.elim|some kk=>
      simp only[hn,hk]at hh;split at hh
      .rename_i hz;let⟨ad,ha,rfl⟩:=(r2.mono x3).fD;let⟨ws,hw,kr⟩:=S3.obj n _ ad hn ha;let⟨x4,S4⟩:=S3.ZU (.inr<|.inr<|.inl ⟨_,hw⟩) ha<|kr.put (k:=kk)<|(r1.mono x2).mono x3;refine⟨ad,_,rfl,?_,hh .Z _ _ (((x1.trans x2).trans x3).trans x4) S4 i0.Z⟩;rw[Gd hk r3];exact yo.k hw (by rw[kr.length];exact Yy hz kY)
      .exact hh.elim
  |_=>exact hh.elim
def AfR(ho:C3 X.iC o f)(he:oU X e h)(qk:rE o "append" X.env (aU o X.env)=aU o X.env:=by rfl)(ue:((fZ i9<|Y1 [e] X.env).all (λx=>!x.1)&&(z7 i9<|zY [] X.env).all (λx=>x.1.isSome)
   &&decide ([e].length+([]:List Keyword).length+(if([]:List Keyword).isEmpty then 0 else 1)<30))=true:=by rfl)(qo:(n5.endLine==i9.line)=true:=by rfl)(hs:Y1 [e] X.env=(false,aU e X.env)::Y1 [] X.env:=by rfl)(qS:(fZ i9<|Y1 [] X.env).any (·.1)=false:=by rfl):
  oU X (.Call (.Attribute o "append" n5) [e] [] i9) (Bj f h):=
 (Xi Pj OG OH YY (PE.iC ho) (Qm he Xc hs) qk ue qo hs qS).imp λσ H Q ao=>by
 let⟨ι,M,env,S,E,hh⟩:=ao;refine⟨ι,M,env,S,E,?_⟩;unfold Bj bR at hh;cases q:f env M with
 |bad=>rw[q]at hh;exact hh.elim|exc x M1=>rw[q]at hh;exact hh.elim|ok a M1=>
  rw[q]at hh;intro v H1 ι1 x1 S1 r1;by_cases ht:bO a M1=true
  .simp only[f_ ht]at hh;refine⟨Rk _ _ _ _ _ S1 r1 ht,ι1,M1,env,S1,E.mono x1,?_⟩;cases q2:h env M1 with
   |bad=>rw[q2]at hh;exact hh.elim|exc x M2=>rw[q2]at hh;exactλa C H' ι' x2 S1 r1 c1=>hh a C H' ι' (x1.trans x2) S1 r1 c1|ok d M2=>
    rw[q2]at hh;intro v2 H2 ι2 x2 S2 r2;refine⟨ι2,M2,a,[d],S2,r1.mono x2,aB.cons r2 aB.nil,?_⟩;dsimp only at hh;cases q3:cQ a [d] M2 with
    |bad=>rw[q3]at hh;exact hh.elim|exc x M3=>rw[q3]at hh;exact hh.elim|ok d3 M3=>rw[q3]at hh;exactλAa6 H3 ι3 x3 S3 r3=>hh Aa6 H3 ι3 ((x1.trans x2).trans x3) S3 r3
  .simp only[i6 ht]at hh;exact hh.elim
end
def Kr{X:Cx}{any:Bool}{xn:rq}:nG X any xn oG:=λ_ _ _ _ _ _ ⟨_,_,_,_,_,h⟩=>h.elim
section
variable {P:Y8} {w:aX} {K:Yb} {mg:ak->oo} {base:aF} {j k:Nat} {x:ak} {ps:oB} {F:F3}
def eX.mono{C:Ys}(h:eX P w K mg base j C x ps F)(l:j<=k):eX P w K mg base k C x ps F:=let⟨n,f,fd,a,b,d⟩:=h;⟨n,f,fd,a,b,d.mono l⟩
end
def ZnJ{env env':dJ}(h:env.frame=env'.frame)(x:Yf):tQ x env=tQ x env':=by unfold tQ PySem.frameOf;rw[h]
section
variable {prog:Y8} {w:aX} {A:cC} {R:vC->Yi->Prop} {s:Yi}
def Zms{elt target iter:Expr}{scope:Scope}{pos:aZ}{it acc:Yf}{env:dJ}(I:Nat->Yi->Prop)(turn:∀n s,I n s->Y5 (aq prog w) A (ji it) (λr s₁=>match r with
   |none=>R (.ok .next) s₁|some v=>Y5 (aq prog w) A (zV target it v) (λ_ J8=>Y5 (aq prog w) A (nU target env v) (λ_ s₂=>Y5 (aq prog w) A (aU elt env) (λx s₄=>Y5 (aq prog w) A (call (.builtin "list.append") [acc,x]) (λ_ s₅=>∃m,m<n/\I m s₅) (DX (aq prog w) A env λx s'=>R (.error x) s') s₄) (DX (aq prog w) A env λx s'=>R (.error x) s') s₂) (DX (aq prog w) A env λx s'=>R (.error x) s') J8) (DX (aq prog w) A env λx s'=>R (.error x) s') s₁) (DX (aq prog w) A env λx s'=>R (.error x) s') s)(n:Nat)(h:I n s):mV (aq prog w) A (.compLoop (.ListComp elt [⟨target,iter,[],0⟩] scope pos) 0 it acc env) R s:=by
 refine codeAny_loop aaD I (λn s hI=>?_) n h;show Y5 _ A ((compTurn (.ListComp elt [⟨target,iter,[],0⟩] scope pos) 0 it acc env).onRaise (λx=>do tQ x env;MH x)) _ _ s;refine wpAny_noted ?_;rw[compTurn_list1];refine Yc<|Oi<|Yc<|gq (turn n s hI) (λr s₁ h₁=>?_) λ_ _ h'=>h';cases r with
 |none=>exact Yo h₁|some v=>refine Yc<|gq h₁ (λ_ J8 ZF=>?_) λ_ _ h'=>h';refine Yc<|gq ZF (λ_ s₂ h₂=>?_) λ_ _ h'=>h';exact Yc<|Yc<|gq h₂ (λx s₄ h₄=>Yc<|gq h₄ (λ_ s₅ h₅=>Yo<|Yo ⟨rfl,h₅⟩) λ_ _ h'=>h') λ_ _ h'=>h'
end
section
inductive F4(P:Cb)(Ek:XK)(n:Nat)(s':Yi):Prop
 | mk (k:Nat) (σ5:St) (H5:Hp) (ι5:l6) (M5:c5) (zP:Zz) (I5:c9 P.Y [] σ5 H5 s') (jC:P.tn k s'.heap) (lD:∀b∈P.fp,H5 b=Yj) (hn:b9 P.aO.items-k=n) (hk:k<=b9 P.aO.items)
   (x5:k7 P.Y.K P.H2 P.ι2 H5 ι5) (S5:aC P.Y.K H5 ι5 M5) (E5:b_ P.Y.K H5 ι5 zP σ5) (hι:ι5[P.nM]?=O P.acc) (h5:ig P.Y.K H5 ι5 P.Q Ek (eG P.aO P.g [] P.f P.nM (P.aO.items.drop k) zP M5))
def F5(P:Cb)(Ek:XK)(n:Nat)(s':Yi):Prop:=∃m,m<n/\F4 P Ek m s'
section
local instance (priority:=100000) Ahi (p:Prop):Decidable p:=U1 p
def Ks(P:Cb)(k:Nat)(env:Zz)(e:D)(M2:c5):R3 D:=match M2[P.nM]? with
 |some (.L x)=>if x.length<SZ then eG P.aO P.g [] P.f P.nM (P.aO.items.drop<|k+1) env (M2.set P.nM<|.L<|x++[e])else .bad|_=>.bad
def mj(P:Cb)(k:Nat)(env:Zz)(b:Bool)(M1:c5):R3 D:=if b then(P.f env M1).bind (Ks P k env)else eG P.aO P.g [] P.f P.nM (P.aO.items.drop<|k+1) env M1
end
def AfS{P:Cb}{k:Nat}{env:Zz}{M:c5}:mj P k env true M=(P.f env M).bind (Ks P k env):=f_ aaD
def RB(P:Cb)(Ek:XK)(n:Nat)(xv:Yf)(s:Yi):Prop:=Y5 (aq P.Y.prog P.Y.w) P.Y.A (call (.builtin "list.append") [.ref P.acc,xv]) (λ_ s'=>F5 P Ek n s') P.Y.xe s
def F6(P:Cb)(Ek:XK)(elt:Expr)(n:Nat)(s:Yi):Prop:=Y5 (aq P.Y.prog P.Y.w) P.Y.A (aU elt P.Y.env) (RB P Ek n) P.Y.xe s
def u3(P:Cb)(Ek:XK)(tg elt:Expr)(n:Nat)(u:Yf)(s:Yi):Prop:=Y5 (aq P.Y.prog P.Y.w) P.Y.A (nU tg P.Y.env u) (λ_=>F6 P Ek elt n) P.Y.xe s
def F8(P:Cb)(Ek:XK)(tg elt:Expr)(it:Ys)(n:Nat)(F:Yi->Prop)(r:oo)(s:Yi):Prop:=match r with
 |none=>F s|some v=>Y5 (aq P.Y.prog P.Y.w) P.Y.A (zV tg (.ref it) v) (λ_=>u3 P Ek tg elt n v) P.Y.xe s
def ig.iff{H:Hp}{ι:l6}{Q:VK}{E:XK}{c:Prop}{dc:Decidable c}{r:R3 D}(h:ig K H ι Q E (if c then r else .bad)):c/\ig K H ι Q E r:=by
 by_cases hc:c
 .rw[f_ hc]at h;exact⟨hc,h⟩
 .rw[i6 hc]at h;cases h
variable {P:Cb} {Ek:XK} {tg elt:Expr} {J:It} {it:Ys} {k:Nat} {h7:aF} {σ:St} {H H':Hp} {s:Yi} {ι:l6} {M M1:c5} {env:Zz}
def ZxX(T:Turn P.Y.prog P.Y.w P.Y.K tg J P.fp it P.tn)(jw:P.tn (k+1) h7)(n9:k<b9 P.aO.items)(I':c9 P.Y ([]++rO P.fp h7) σ H s)(x:k7 P.Y.K P.H2 P.ι2 H ι)(S:aC P.Y.K H ι M)(E:b_ P.Y.K H ι env σ)(hι:ι[P.nM]?=O P.acc)(h:ig P.Y.K H ι P.Q Ek (eG P.aO P.g [] P.f P.nM (P.aO.items.drop<|k+1) env M)):F5 P Ek (b9 P.aO.items-k) s:=⟨b9 P.aO.items-(k+1),c8,⟨k+1,σ,H,ι,M,env,I'.Dn,T.keep _ _ _ jw λb hb o e=>(I'.pin (b,o)<|lV _<|lV _<|Et hb e).1,λb hb=>(T.obj _ _ jw b hb).elim λo e=>(I'.pin (b,o)<|lV _<|lV _<|Et hb e.1).2.1,rfl,n9,x,S,E,hι,h⟩⟩
def Zz5{xs:h8}{d:D}{v:V}{xv:Yf}(T:Turn P.Y.prog P.Y.w P.Y.K tg J P.fp it P.tn)(jw:P.tn (k+1) h7)(n9:k<b9 P.aO.items)(I':c9 P.Y ([]++rO P.fp h7) σ H s)(r:i5 v xv)(x:k7 P.Y.K P.H2 P.ι2 H ι)(S:aC P.Y.K H ι M)(E:b_ P.Y.K H ι env σ)(rd:i0 P.Y.K H ι d v)(hι:ι[P.nM]?=O P.acc)(hm:M[P.nM]?=O (.L xs))(hz:b9 xs<SZ)(h:ig P.Y.K H ι P.Q Ek (eG P.aO P.g [] P.f P.nM (P.aO.items.drop<|k+1) env<|M.set P.nM<|.L<|xs++[d])):
  RB P Ek (b9 P.aO.items-k) xv s:=by
 let⟨vs,ev,vT⟩:=S.obj _ _ _ hm hι;let⟨yY,ZL⟩:=S.zO (.inr<|.inl ⟨_,ev⟩) hι<|vT.append<|aB.cons rd aB.nil;refine aV (Q':=λ_ s'=>F5 P Ek (b9 P.aO.items-k) s') (Xk _ s σ H (.ref P.acc) [v] (.ref P.acc) [xv] (λ_ H'=>H'=k4 H P.acc (.L<|vs++[v])) I' aaD (.cons r .nil) ⟨_,vs,v,rfl,rfl,ev,by rw[vT.length];exact Yy hz kY,rfl⟩) λ_ s11 ao=>?_;let⟨_,H11,J9,_,eH⟩:=ao;rw[eH]at J9;exact ZxX T jw n9 J9 (x.trans yY) ZL (E.mono yY) (yY.pre _ _ hι)<|h.up yY
def Zz9(T:Turn P.Y.prog P.Y.w P.Y.K tg J P.fp it P.tn)(sL:oU P.Y elt P.f)(hE:∀σ e C H',Ek (.ref C) (O e) H'->XW P.Y σ e C H')(jw:P.tn (k+1) h7)(n9:k<b9 P.aO.items)(I':c9 P.Y ([]++rO P.fp h7) σ H s)(x:k7 P.Y.K P.H2 P.ι2 H ι)(S:aC P.Y.K H ι M)(E:b_ P.Y.K H ι env σ)(hι:ι[P.nM]?=O P.acc)(h:ig P.Y.K H ι P.Q Ek ((P.f env M).bind<|Ks P k env)):F6 P Ek elt (b9 P.aO.items-k) s:=by
 cases AR:P.f env M with
 |bad=>rw[AR]at h;cases h|exc x1 Bt=>rw[AR]at h;refine aV (Q':=RB P Ek<|b9 P.aO.items-k) (sL _ s σ H (λ_ _=>False) I' ⟨ι,M,env,S,E,by rw[AR];exactλa C H' ι' x1 S1 r1 c1 a' C' e1 e2=>by cases e1;cases e2;exact hE _ _ _ _<|h a C H' ι' x1 S1 r1 c1⟩) λxv YI ao=>?_;let⟨_,_,_,_,z⟩:=ao;exact z.elim
 | ok d Bt=>
  rw[AR]at h;have sh:ig P.Y.K H ι P.Q Ek (Ks P k env d Bt):=h;refine aV (Q':=RB P Ek<|b9 P.aO.items-k) (sL _ s σ H (λv H'=>∃wz,k7 P.Y.K H ι H' wz/\aC P.Y.K H' wz Bt/\i0 P.Y.K H' wz d v) I' ⟨ι,M,env,S,E,by rw[AR];exactλv H' ι' x' S' r'=>⟨ι',x',S',r'⟩⟩) λxv YI ao=>?_;let⟨v,H10,ZM,E9,wz,y3,ZP,rd⟩:=ao;unfold Ks at sh;cases hm:Bt[P.nM]? with
  |none=>rw[hm]at sh;exact sh.elim|some o=>
   rw[hm]at sh;cases o with
   |j3 _=>exact sh.elim|dW _=>exact sh.elim|ins _ _=>exact sh.elim|L xs=>exact Zz5 T jw n9 ZM E9 (x.trans y3) ZP (E.mono y3) rd (y3.pre _ _ hι) hm (ig.iff sh).1<|(ig.iff sh).2.up y3
def AfT(T:Turn P.Y.prog P.Y.w P.Y.K tg J P.fp it P.tn)(hc:P.Y.calm=true)(rX:∀{H':Hp},(∀b∈P.fp,H' b=Yj)->∀b∈P.fp,iK P.Y [] H' b)(hg:CG P.Y tg P.g)(sL:oU P.Y elt P.f)(hE:∀σ e C H',Ek (.ref C) (O e) H'->XW P.Y σ e C H')(n9:k<b9 P.aO.items)(I5:c9 P.Y [] σ H s)(jC:P.tn k s.heap)(lD:∀b∈P.fp,H b=Yj)(x:k7 P.Y.K P.H2 P.ι2 H ι)(S:aC P.Y.K H ι M)(E:b_ P.Y.K H ι env σ)(hι:ι[P.nM]?=O P.acc)(ok:mF P.Y.K P.H2 P.ι2 P.aO J)(h:ig P.Y.K H ι P.Q Ek (eG P.aO P.g [] P.f P.nM (P.aO.items[k]::P.aO.items.drop (k+1)) env M))(F:Yi->Prop):
  Y5 (aq P.Y.prog P.Y.w) P.Y.A (ji<|.ref it) (F8 P Ek tg elt it (b9 P.aO.items-k) F) P.Y.xe s:=by
 let⟨lk,h⟩:=ig.iff h;let⟨go,yl⟩:=(ok k H ι M x S lk).1 _<|Y0 n9;cases eg:P.g P.aO.items[k] env with
 |none=>rw[eg]at h;cases h|some Du=>rw[eg]at h;refine aV (T.item P.Y aaD aaD aaD hc k [] s σ H P.Y.xe I5 (rX lD) jC go) λr s6 ao=>?_;let⟨u,hr,h6⟩:=ao;rw[hr];refine aV (Q':=λ_=>u3 P Ek tg elt (b9 P.aO.items-k) u) h6 λ_ s7 ao=>?_;let⟨y,H7,I7,r7,y7,jw,J_⟩:=ao;let⟨e7,rx⟩:=yl y H7 y7;rw[e7]at I7 J_;refine aV (Q':=λ_=>F6 P Ek elt<|b9 P.aO.items-k) (hg _ s7 σ H y u (λσ' H'=>H'=H/\b_ P.Y.K H ι Du σ') (I7.pinned (rX J_)<|T.obj _ _ jw) r7 ⟨ι,M,env,_,Du,S,E,rx,eg,λσ' E'=>⟨rfl,E'⟩⟩) λ_ s8 ao=>?_;let⟨Znq,Zsq,I8,e8,E8⟩:=ao;rw[e8]at I8;have h:ig P.Y.K H ι P.Q Ek (mj P k Du true M):=h;exact Zz9 T sL hE jw n9 I8 x S E8 hι<|AfS▸h
def ZwD(T:Turn P.Y.prog P.Y.w P.Y.K tg J P.fp it P.tn)(hc:P.Y.calm=true)(rX:∀{H':Hp},(∀b∈P.fp,H' b=Yj)->∀b∈P.fp,iK P.Y [] H' b)(I5:c9 P.Y [] σ H s)(jC:P.tn (b9 P.aO.items) s.heap)(lD:∀b∈P.fp,H b=Yj)(x:k7 P.Y.K P.H2 P.ι2 H ι)(S:aC P.Y.K H ι M)(hι:ι[P.nM]?=O P.acc)(ok:mF P.Y.K P.H2 P.ι2 P.aO J)(h:ig P.Y.K H ι P.Q Ek (eG P.aO P.g [] P.f P.nM [] env M)){F:Yi->Prop}(hF:∀s6,c9 P.Y [] σ H s6->P.Q (.ref P.acc) H->F s6):
  Y5 (aq P.Y.prog P.Y.w) P.Y.A (ji<|.ref it) (F8 P Ek tg elt it n F) P.Y.xe s:=by
 let⟨lk,h⟩:=ig.iff h;refine aV (T.done P.Y aaD aaD aaD hc _ [] s σ H P.Y.xe I5 (rX lD) jC<|(ok _ H ι M x S lk).2 aaD) λr s6 ao=>?_;rw[ao.1];exact hF s6 ao.2<|h _ H ι k7.refl S<|i0.ref hι
def ZwC{F:Yi->Prop}(T:Turn P.Y.prog P.Y.w P.Y.K tg J P.fp it P.tn)(hc:P.Y.calm=true)(rX:∀{H':Hp},(∀b∈P.fp,H' b=Yj)->∀b∈P.fp,iK P.Y [] H' b)(hb:CG P.Y tg P.g/\oU P.Y elt P.f)(hE:∀σ e C H',Ek (.ref C) (O e) H'->XW P.Y σ e C H')(ok:mF P.Y.K P.H2 P.ι2 P.aO J)(z:F4 P Ek n s)(pV:∀σ H s',c9 P.Y [] σ H s'->P.Q (.ref P.acc) H->F s'):Y5 (aq P.Y.prog P.Y.w) P.Y.A (ji<|.ref it) (F8 P Ek tg elt it n F) P.Y.xe s:=by
 let⟨k,σ5,H5,ι5,M5,zP,I5,jC,lD,hn,hk,x5,S5,E5,hι,h5⟩:=z;by_cases n9:k<P.aO.items.length
 .rw[z_ n9]at h5;exact hn▸AfT T hc rX hb.1 hb.2 hE n9 I5 jC lD x5 S5 E5 hι ok h5 _
 .rw[iJ hk<|tY n9]at jC h5;rw[IV]at h5;exact ZwD T hc rX I5 jC lD x5 S5 hι ok h5 λs6 I6 q=>pV σ5 H5 s6 I6 q
end
theorem G2{h h' base:aF}:∀{l:rL},(∀b∈ti l,∀o,h.get? b=O o->(∀vs,o.data≠ .fields vs)->∃o',h'.get? b=O o'/\o'.data=o.data)->h.FunFrames base l->h'.FunFrames base l
 |[],_,_=>trivial|env::r,k,hl=>by let⟨hk,⟨L,o,hf,hn,ho,hd⟩,hr⟩:=hl;let⟨o',qf,sR⟩:=k L (Ac.mpr ⟨env,.head _,hf⟩) o ho hd;refine⟨hk,⟨L,o',hf,hn,qf,λvs z=>hd vs<|sR▸z⟩,G2 (λb hb=>k b ?_) hr⟩;let⟨e,h1,h2⟩:=Ac.mp hb;exact Ac.mpr ⟨e,.tail _ h1,h2⟩
section
variable {X:Cx} {elt tg iter:Expr} {scope:Scope} {pos:aZ} {i:I3} {own:Nat} {g:G3} {f:E3} {N':oB}
abbrev RD(X:Cx)(scope:Scope)(cl:tI)(C:Ys)(RR:vC->Yi->Prop):Yf->Yi->Prop:=DX (aq X.prog X.w) X.A (xM scope cl C X.env) λx s'=>RR (.error x) s'
abbrev BZ(X:Cx)(scope:Scope)(N':oB)(C:Ys)(cl:tI)(s:Yi)(H:Hp)(ex:l6)(E:Yf->Yi->Prop):Cx:=(mJ X scope N' C cl s H ex).p9 E
def ZxD{σ σ':St}{s3:Yi}{H3 H':Hp}{fp:l6}{cl:tI}{e Ca:Ys}{u:Yf->mW Unit}{Qp:Yf->Yi->Prop}{acc:Yf}(I3:c9 X c6 σ H3 s3)(jg:∀b∈fp,iK X c6 H3 b)(sf:X.stack=X.env::X.outer)(ve:X.env.frame=O X.env.locals)(Aa7:XW X σ e Ca H'):
  XW (BZ X scope N' (d4 s3) cl s3 H3 fp<|RD X scope cl (d4 s3)<|vB (aq X.prog X.w) X.A X.xe (O u) Qp acc<|d4 s3) σ' e Ca H':=by
 intro tL s' J Kh;let⟨dd,he,B,fl,cv,_⟩:=Kh;have te':=c9.Dn (c6:=[]) (pl:=tL) J;have F9:sH B (X.env::X.outer) e Ca dd s'.heap:=by rwa[<-sf]
 have Vb:X.A.frames=O (X.env::X.outer):=by rw[<-sf];exact I3.ok.frames
 show Y5 (aq X.prog X.w) X.A (tQ (.ref e)<|xM scope cl (d4 s3) X.env) _ _ s';rw[ZnJ (env:=xM scope cl (d4 s3) X.env) (env':=X.env) aaD];refine FC Vb ve F9 λh4 a0 held GA=>?_;have J4:=Rw te' he fl.stays cv (λp hp=>oz (show p∈([]:oy)from hp) j0) held.1 GA held.yU;let⟨m,hn,_⟩:=id J4.loc;refine⟨m,hn,λh5 sb Cf _=>?_⟩;have I4:c9 X c6 σ H' {s' with heap:=h4}:=I3.uC (ch:=fp) J4.os J4.base J4.kb J4.bare λb hb=>⟨(jg b hb).2.2.2.1,(jg b hb).2.1,(jg b hb).2.2.2.2.1,(jg b hb).2.2.2.2.2⟩;have fC:iK X c6 H' (d4 s3):=I3.xx (Yn _) J4.free;have I5:c9 X c6 σ H' {s' with heap:=h5}:=I4.turned (t':=s'.toks) (λb o hb e=>(sb.2 b hb).trans e) fC.1 fC.2.1 fC.2.2.2.1 fC.2.2.2.2.1 fC.2.2.2.2.2;let⟨f1,f2,f3,⟨o',qf,sx⟩,BV,oe,vs,T,oT,ts,qW,tm,hd,h1,AW,zd,hT,vi,h3⟩:=held;obtain rfl:oe=o':=Y9<|qW.symm.trans qf;have hsz:3<ts.size:=(Je.mp h3).1;have eC:e≠d4 s3:=λz=>by rw[z,fC.1]at he;cases he
 have Zsv:T≠d4 s3:=λz=>by let⟨o,es,ep,ho,sR,_⟩:=hn;have ho:h4.get? (d4 s3)=O o:=ho;rw[<-z,hT]at ho;cases ho;rw[vi]at sR;cases sR
 have RG:h5.get? e=O oe:=(sb.2 e eC).trans qW;have GB:h5.get? T=O oT:=(sb.2 T Zsv).trans hT;have k1:(pq B [d4 s3]).StaysIn B:=λb o q=>N5 _ q;have kC:∀{b o},(pq B [d4 s3]).get? b=O o->b≠d4 s3:=λ{b o} q z=>by rw[z,LU _ j0]at q;cases q
 have kN:∀{b},B.get? b=Yj->(pq B [d4 s3]).get? b=Yj:=λ{b} q=>by
  cases z:(pq B [d4 s3]).get? b with
  |none=>rfl|some o=>rw[k1 b o z]at q;cases q
 have kS:∀{b o},s3.heap.get? b=O o->b≠d4 s3:=λ{b o} q=>eE<|Yw q;have kB:∀{b o},B.get? b=O o->b≠d4 s3->(pq B [d4 s3]).get? b=O o:=λ{b o} q z=>Dv _ q (by simpa using z);have t4:∀{b o},X.s₀.heap.get? b=O o->b∉X.ex->b∉fp:=λ{b o} q hx hb=>by
  rcases(jg b hb).2.2.2.1 with z|z
  .exact hx z
  .exact oz (Yy (Yw q) z)<|pG _
 have AZ:∀p∈X.pn++c6,(pq B [d4 s3]).get? p.1=O p.2:=λp hp=>by let⟨e1,n1,ne1,nf1,_⟩:=I3.pin p hp;exact kB (cv.old p.1 p.2 e1 n1 (λz=>(Yt.mp<|I3.xq p.1 z).elim ne1 nf1) λz=>(jg p.1 z).2.2.2.2.2 p hp aaD)<|kS e1
 have e6:yV (pq B [d4 s3]) X.fs X.ex X.H₀ X.s₀.heap H' e:=⟨λb hb oq=>by
   let⟨o,ho⟩:=cv.yg b hb oq;exact⟨o,kB ho λz=>hb (by rw[z];exact fC.1)⟩,
  λb o q n hb hx=>by have q3:=I3.base.keep b o q n hb hx;exact kB (cv.old b o q3 (I3.base.free b o q n hx) (Gh I3 q hb)<|t4 q hx)<|kS q3,
  λb o q hb hx=>by let⟨o1,q1⟩:=I3.base.there b o q hx;let⟨o2,q2⟩:=cv.there b o1 q1 (Gh I3 q hb)<|t4 q hx;exact⟨o2,kB q2<|kS q1⟩⟩
 have sB:(pq B [d4 s3]).StaysIn h5:=λb o q=>(sb.2 b<|kC q).trans<|f1 b o<|k1 b o q;have key:∀fv:Yf,X.xe (.ref e) {s' with heap:=h5.update T<|t_ (·.setIfInBounds 3 fv)}:=λfv=>by
  have other:∀b,b≠T->(h5.update T<|t_ (·.setIfInBounds 3 fv)).get? b=h5.get? b:=λb hb=>Ed _ _<|cF hb;have d5:(pq B [d4 s3]).StaysIn (h5.update T<|t_ (·.setIfInBounds 3 fv)):=λb o q=>(other b λz=>by rw[z,kN AW]at q;cases q).trans<|sB b o q;have nT:∀b o,h5.get? b=O o->(∀vs,o.data≠ .fields vs)->b≠T:=λb o q tj z=>by rw[z,GB]at q;cases q;exact tj ts vi
  have fa:sG (pq B [d4 s3]) X.stack e Ca dd a0 (h5.update T<|t_ (·.setIfInBounds 3 fv)):=by
   refine⟨d5,kN f2,?_,⟨oe,(other e<|cF zd).trans RG,sx⟩,fv,oe,vs,T,_,_,(other e<|cF zd).trans RG,tm,hd,h1,kN AW,zd,O6 _ GB<|Pr<|Ak vi _,Ak vi _,by simp[hsz]⟩;rw[sf];refine G2 (λb hb o q tj=>⟨o,?_,rfl⟩)<|PySem.W.funFrames_base k1 f3;have ZoR:b≠d4 s3:=λz=>by
    rw[<-sf]at hb;rcases Yt.mp (I3.xq b hb)with r|r
    .exact fC.2.1<|z▸r
    .exact fC.2.2.1<|z▸r
   have q5:=(sb.2 b ZoR).trans q;exact(other b<|nT b o q5 tj).trans q5
  exact Aa7 c6 _ (Rw (s:={s' with heap:=h5}) I5 he sB e6 AZ d5 (λb o q tj=>⟨o.slots,(other b<|nT b o q tj).trans q⟩) fa.yU) ⟨dd,he,_,⟨a0,.inl fa⟩,e6,λp hp=>AZ p<|vJ _ hp⟩
 unfold PySem.passOn;refine Yc<|gQ RG hd h1 ?_;rw[i6 (show¬((Value.ref T==Value.none)=true)from by simp)];have d6:Y5 (aq X.prog X.w) X.A (Ou (.ref e) Cf.frame) (λ_ s6=>X.xe (.ref e) s6) X.xe {s' with heap:=h5}:=by unfold Ou;refine Yc<|gQ RG hd h1 ?_;rw[f_<|show(Value.ref T !=Value.none)=true from by simp];exact DK GB vi hsz<|key _
 first
  |exact Yc (Yo (Yc (gq d6 (λ_ _ q=>VF q) λ_ _ q=>q)))|exact Yc (gq d6 (λ_ _ q=>VF q) λ_ _ q=>q)
def Zp4{σ:St}{s2:Yi}{H2:Hp}{ι2:l6}{M2:c5}{env:Zz}{fp:l6}{tn:Nat->aF->Prop}{J:It}{aO:iD}{Q:VK}{E:Yf->Yi->Prop}{u:Yf->mW Unit}{Qp:Yf->Yi->Prop}(pj:Bu X scope N' own)(hc:X.calm=true)(sf:X.stack=X.env::X.outer)(ve:X.env.frame=O X.env.locals)(hb:∀C cl s H ex E,CG (BZ X scope N' C cl s H ex E) tg g/\oU (BZ X scope N' C cl s H ex E) elt f)(I2:c9 X c6 σ H2 s2)(T:Turn X.prog X.w X.K tg J fp it tn)(AS:tn 0 s2.heap)(rX:∀b∈fp,iK X c6 H2 b)(S2:aC X.K H2 ι2 M2)(E2:b_ X.K H2 ι2 env σ)(ok:mF X.K H2 ι2 aO J)(h:ig X.K H2 ι2 Q (EX X σ) (eG aO g [] f (b9 M2) aO.items (env++Yg own Yj)<|M2++[.L []]))(pV:∀(acc C:Ys) (s':Yi) (m:ak->oo) (H':Hp),s'.heap.Ns C m->iK X c6 H' C->c9 X c6 σ H' s'->Q (.ref acc) H'->vB (aq X.prog X.w) X.A X.xe (O u) Qp (.ref acc) C (.ok .next) s'):
  Y5 (aq X.prog X.w) X.A (Oz []) (λacc s₃=>Y5 (aq X.prog X.w) X.A (Vx scope X.env.globals (jc X.env.cells scope.names []) [] X.env.qual Yj .none<|O X.env) (λtP s₄=>mV (aq X.prog X.w) X.A (.compStart (.ListComp elt [⟨tg,iter,[],0⟩] scope pos) 0 (.ref it) acc {tP with scope:=xO scope X.env}) (vB (aq X.prog X.w) X.A X.xe (O u) Qp acc tP.locals) s₄) E s₃) E s2:=by
 refine vp ?_;have hD:H2 (d4 s2)=Yj:=I2.kb.fresh<|Yn _;let⟨x3,S3,r3⟩:=S2.L hD<|aB.nil (K:=X.K) (H:=H2) (ι:=ι2);have I3:c9 X c6 σ (k4 H2 (d4 s2)<|.L []) {s2 with heap:=s2.heap.push {cls:=.type "list",data:=.seq ([]:l5).toArray}}:=I2.laid (t':=s2.toks) (λb u e=>Yl _ e) (Yn _) ⟨dY _,[],0,.nil,Y6 _ aaD⟩;have u9:∀b o,s2.heap.get? b=O o->(s2.heap.push {cls:=.type "list",data:=.seq ([]:l5).toArray}).get? b=O o:=λb o e=>Yl _ e;generalize si:({s2 with heap:=s2.heap.push {cls:=.type "list",data:=.seq ([]:l5).toArray}}:Yi)=s3 at I3 |-;have u9:∀b o,s2.heap.get? b=O o->s3.heap.get? b=O o:=by rwa[<-si]
 have ZQ:∀b∈fp,b<d4 s2:=λb hb=>(T.obj _ _ AS b hb).elim λo e=>Yw e.1;have xG:∀b∈fp,b<d4 s3:=λb hb=>(T.obj _ _ AS b hb).elim λo e=>Yw<|u9 b o e.1;have jg:∀b∈fp,iK X c6 (k4 H2 (d4 s2)<|.L []) b:=λb hb=>⟨(eF<|eE<|ZQ b hb).trans (rX b hb).1,(rX b hb).2⟩;have st3:tn 0 s3.heap:=T.keep _ _ _ AS λb hb o e=>u9 b o e;have h:=ig.up x3 h;have hι:(ι2++[d4 s2])[b9 M2]?=O (d4 s2):=by rw[<-S2.len];simp
 generalize k4 H2 (d4 s2) (.L [])=H3 at I3 x3 S3 r3 jg h;refine L8 pj.cell (by intro y hy;cases hy) (λh4 yi Fc=>?_) pj.kind;have HJ:∀b o,s3.heap.get? b=O o->h4.get? b=O o:=λb o e=>Fc.extBut b o (eE<|Yw e)<|Yl _ e;have I4:=(X2 (own:=own) (N':=N') (tk:=s3.toks+([]:yz).length) I3 pj.kind pj.cell pj.free pj.len pj.YN jg xG yi HJ).p9<|RD X scope (jc X.env.cells scope.names []) (d4 s3)<|vB (aq X.prog X.w) X.A X.xe (O u) Qp (.ref<|d4 s2)<|d4 s3;have Ka:tn 0 h4:=T.keep _ _ _ st3 λb hb o e=>HJ b o e;have L:=Zms (prog:=X.prog) (w:=X.w) (A:=X.A) (R:=vB (aq X.prog X.w) X.A X.xe (O u) Qp (.ref<|d4 s2)<|d4 s3) (scope:=scope) (pos:=pos) (iter:=iter) (elt:=elt) (target:=tg) (env:=xM scope (jc X.env.cells scope.names []) (d4 s3) X.env)
  (F4 ⟨BZ X scope N' (d4 s3) (jc X.env.cells scope.names []) s3 H3 fp<|RD X scope (jc X.env.cells scope.names []) (d4 s3)<|vB (aq X.prog X.w) X.A X.xe (O u) Qp (.ref<|d4 s2)<|d4 s3,fp,tn,aO,H2,ι2,Q,g,[],f,b9 M2,d4 s2⟩<|EX X σ)
  (λn s5 z=>ZwC (P:=⟨BZ X scope N' (d4 s3) (jc X.env.cells scope.names []) s3 H3 fp<|RD X scope (jc X.env.cells scope.names []) (d4 s3)<|vB (aq X.prog X.w) X.A X.xe (O u) Qp (.ref<|d4 s2)<|d4 s3,fp,tn,aO,H2,ι2,Q,g,[],f,b9 M2,d4 s2⟩) (Ek:=EX X σ) T hc
  (λhn b hb=>⟨hn b hb,eE<|xG b hb,λhz=>I4.ok.xu b hb hz,.inl hb,λx c hx=>(I4.ok.Er b hb).2 x c hx,λp hp=>oz (show p∈([]:oy)from hp) j0⟩)
  (hb _ _ _ _ _ _) (λσ' e C H' q=>ZxD I3 jg sf ve<|q e C aaD aaD) ok z
  λσ' H' s6 I6 q=>I6.loc.elim λm6 Kc=>pV _ _ s6 m6 H' Kc.1 (I3.xx (Yn _) I6.free) (I3.uC (ch:=fp) I6.os I6.base I6.kb I6.bare λb hb=>⟨(jg b hb).2.2.2.1,(jg b hb).2.1,(jg b hb).2.2.2.2.1,(jg b hb).2.2.2.2.2⟩) q) _
  ⟨0,_,_,_,_,_,I4,Ka,λb hb=>(jg b hb).1,rfl,dY _,x3,S3,(E2.mono x3).grow own,hι,h⟩
 exact L5 L<|T.self _ 0 _ _ _ Ka L
def ZtI{any:Bool}(j:Nat){x:ak}{ow xw:aZ}(pj:Bu X scope N' own)(hc:X.calm=true)(hN:X.N.Nodup)(hi:CI X tg iter i)(hb:∀C cl s H ex E,CG (BZ X scope N' C cl s H ex E) tg g/\oU (BZ X scope N' C cl s H ex E) elt f)(sf:X.stack=X.env::X.outer:=by rfl)(ve:X.env.frame=O X.env.locals:=by rfl)(hj:X.N[j]?=O x:=by rfl)(hx:Loc X.env.scope x:=by first|exact Or.inl rfl|exact Or.inr aaD)(hf:X.fn x=true\/X.env.scope.names.lookup x=O .local:=by first|exact .inl rfl|exact .inr aaD)(BY:pC (.ListComp elt [⟨tg,iter,[],0⟩] scope pos) (O (.Name x ow)) xw.line X.env=pure true:=by rfl)(hs:∀x,zT iter X.env x=pure x:=by intro _;rfl):qO X any (.Assign [.Name x ow] (.ListComp elt [⟨tg,iter,[],0⟩] scope pos) xw) (aD j (yI i own g f)):=by
 intro c6 s σ H D I h;let⟨ι,M,env,S,E,h⟩:=h;have h0:ig X.K H ι (λv H'=>D.nx (σ.set j<|O v) H') (EX X σ) (yI i own g f env M):=by
  unfold aD at h;cases q:yI i own g f env M with
  |ok d M1=>rw[q]at h;exactλv H1 ι1 x1 S1 r1=>h _ H1 ι1 x1 S1 ((E.mono x1).set j r1)|exc x M1=>rw[q]at h;exactλa C H' ι' x1 S1 r1 c1 a' C' e1 e2=>by cases e1;cases e2;exact h σ a C H' ι' (λ_=>rfl) x1 S1 r1 c1|bad=>rw[q]at h;cases h
 unfold yI at h0;cases e1:i env M with
 |bad=>rw[e1]at h0;exact h0.elim|exc _ _=>rw[e1]at h0;exact h0.elim|ok aO M1=>
  rw[e1]at h0;have xp:∀y∈scope.names,y.2= .free->∃c,X.env.cells.lookup y.1=O c:=λy hy e=>I.ok.has y.1<|pj.free y hy e;rw[L6 _ _ _ _ BY];refine Yc<|Oi<|Yc ?_;show Y5 _ X.A (do let _ ←comprehension (.ListComp elt [⟨tg,iter,[],0⟩] scope pos) scope X.env _ (Oz []) false (aU iter X.env) (O<|nU (.Name x ow) X.env)) _ _ s;refine Yc<|gq (Vo (use:=O<|nU (.Name x ow) X.env) (Q:=λ_ s'=>SP X c6 D .next s') aaD hs (ZC xp) pj.kind pj.names ?_) (λ_ s' hq=>Yo<|Yo hq) λ_ _ e=>e;refine aV (hi c6 s σ H (λJ H'=>∃ι',k7 X.K H ι H' ι'/\aC X.K H' ι' M1/\mF X.K H' ι' aO J) I ⟨ι,M,env,S,E,by rw[e1];exactλJ H' ι' x S' o=>⟨ι',x,S',o⟩⟩) λv s1 B0=>aV B0 λBI s2 h2=>?_;let⟨it,fp,tn,J,H2,rfl,I2,T,AH,f2,ι2,x2,S2,ok⟩:=h2;refine Zp4 (own:=own) (g:=g) (f:=f) pj hc sf ve hb I2 T AH f2 S2 (E.mono x2) ok (h0.up x2) ?_;intro acc C s' m H' hn ZR I' hq;let⟨f0,f1,YU,f3,f4,f5⟩:=ZR;show Y5 _ X.A (nU (.Name x ow) X.env<|.ref acc) _ _ s';refine Vs<|W2 I' hN hj hx (show i5 (.ref acc) (.ref acc)from rfl) (λzI ZV ⟨a,sb,ha⟩=>?_) hf;have ZW:C≠a:=by
   rcases ha with rfl|ha
   .exact f1
   .exact cF<|f4 x a ha
  exact⟨m,hn.sameBut sb ZW,λh' ZX=>⟨_,H',ZV.turned (t':=zI.toks) (λb o hb e=>(ZX.2 b hb).trans e) f0 f1 f3 f4 f5,hq⟩⟩
end
def ZwE{X:Cx}{x:ak}{np pos A0:aZ}{Au:rq}{b0:Ye1}{cs:k9}{b h:S3}{CE:Ys}(hm:X.mg x=O (.ref CE))(xC:∀c C,cs.contains c=true->ClsAt X.K c C->Vn X.K (.ref C) (.ref CE)=O true)(hb:∀Rv E',nG (Ru X Rv E') false body b)(hs:∀A' E',nD (FO X A' E') (b0::Au) h)(sf:X.stack=X.env::X.outer:=by rfl)(ve:X.env.frame=O X.env.locals:=by rfl)(hg:Gl X x:=by rfl)(sg:(x==("__debug__":ak))=false:=by decide):CS X (.Try body [.ExceptHandler (O<|.Name x np) Yj (b0::Au) pos] [] [] A0) (Bk cs b h):=by
 intro c6 s σ H D I z;let⟨ι,M,env,S,E,hf⟩:=z;refine wpAny_Try_except<|gq (hb (X.pn++c6) _ [] s σ H D (ZxR I _) ⟨ι,M,env,S,E,?_⟩) (λf s1 q=>?_) λ_ _ z=>z
 rotate_left
 .have q:=ZwL I q;cases f with
  |next=>let⟨σ',H',J,q⟩:=q;exact Io ⟨σ',H',J,q⟩|brk=>exact q|cont=>exact q|ret u=>exact q
 unfold Bk at hf;cases q:b env M with
 |nx e M1=>rwa[q]at hf|rt e M1=>rwa[q]at hf|bk e M1=>rwa[q]at hf|ct e M1=>rwa[q]at hf
 |bad=>rwa[q]at hf|exc x1 M1=>
  rw[q]at hf;dsimp only at hf;have hc:cs.contains x1.cls=true:=Jf λz=>by rwa[i6 z]at hf
  rw[f_ hc]at hf;intro σ' e C H' ι' hjl xt S1 r1 c1 tL s' J Kh;obtain rfl:=hjl aaD;let⟨dd,he,B,fl,cv,AZ⟩:=Kh;have I1:c9 X c6 σ' H' s':=Kl I J;have F9:sH B (X.env::X.outer) e C dd s'.heap:=by rwa[<-sf]
  have Vb:X.A.frames=O (X.env::X.outer):=by rw[<-sf];exact I1.ok.frames
  show Y5 (aq X.prog X.w) X.A (tQ (.ref e) X.env) _ _ s';refine FC Vb ve F9 λh₄ a0 held GA=>?_;refine FD held λh₅ Ib sl5=>?_;have I5:c9 X c6 σ' H' {s' with heap:=h₅}:=Rw I1 he fl.stays cv AZ Ib.1 (GA.trans sl5) Ib.yU;have W8:=H8 I5 (X.A.mark<|O<|.ref e) (λ_ _=>False) aaD;refine wpAny_handleBy_cons (codeAny_handlers_test<|Es W8 hg hm ?_ sg) (by intro q;cases q);have LT:PySem.W.Looks (aq X.prog X.w) h₅ (typeOf<|.ref e) (.ref C):=by let⟨o,vs,a,b,_⟩:=Ib.yU;exact b▸(PySem.W.Looks.ld a).andThen .now
  refine PySem.W.exm_one (K:=X.K) (cls:=.ref C) I5.eZ LT (xC _ _ hc c1) _ _ _ _ (λ_ _ q=>q) ?_;refine codeAny_handlers_suite ?_;refine FD Ib λhjd d7 sl6=>?_;have I6:c9 X c6 σ' H' {s' with heap:=hjd}:=Rw (s:={s' with heap:=h₅}) I5 he Ib.1 cv AZ d7.1 sl6 d7.yU;have I6':=H8 I6 (X.A.mark<|O<|.ref e) (λ_ _=>False) aaD;refine gq (hs (X.A.mark<|O<|.ref e) (λ_ _=>False) c6 _ σ' H' {nx:=λσ2 H2=>D.nx σ2 H2,rt:=λ_ _=>False} I6' ⟨ι',M1,env,S1,E.mono xt,?_⟩) (λf s8 q=>?_) λ_ _ z=>gM z
  .cases qh:h env M1 with
   |nx e' M2=>rw[qh]at hf;exactλσ2 H2 ι2 x2 S2 E2=>hf _ H2 ι2 (xt.trans x2) S2 E2|rt _ _=>rw[qh]at hf;exact hf.elim|bk _ _=>rw[qh]at hf;exact hf.elim|ct _ _=>rw[qh]at hf;exact hf.elim
   |exc _ _=>rw[qh]at hf;exact hf.elim|bad=>rw[qh]at hf;exact hf.elim
  .cases f with
   |next=>let⟨σ2,H2,I8,q⟩:=q;exact⟨σ2,H2,Zuj I I8,q⟩|brk=>exfalso;let⟨_,_,_,q⟩:=q;exact q|cont=>exfalso;let⟨_,_,_,q⟩:=q;exact q
   |ret u=>exfalso;let⟨_,_,_,_,_,q⟩:=q;exact q
noncomputable section
end
noncomputable section
end
noncomputable section
end
noncomputable section
end
open AutoSeq1 (wpAny_loadPart')
def Zus(l:Ys)(items:qB)(n:Nat)(dd:qA)(sl:Array oo)(x:Int)(u:jB)(h0:¬(decide (x< -(2^63))|| decide (x>=2^63))=true)(h1:¬(items.isEmpty|| x==1)=true)(h2:¬(decide (x<=0)|| items.isEmpty)=true)(h3:¬(items.size*x>(2^63-1) / 8))(h4:¬Pe (items.size*x)=true)(hsz:(Ag (λx1 x2=>x1++x2) #[] (Yg x.toNat items)).size<=bI):
  Meets (Builtin.«tuple.__mul__» ⟨[.ref l,.int x u],[]⟩) (λ_ R s=>s.heap.get? l=O {cls:=.type "tuple",dict:=dd,data:=.seq items n,slots:=sl}/\R (.ok<|.ret<|Value.ref<|d4 s) {s with heap:=s.heap.push {cls:=Value.type "tuple",data:=Data.seq<|Ag (λx1 x2=>x1++x2) #[] (Yg x.toNat items)},toks:=s.toks}):=
 .of_wp λprog w A R s h=>by
  let⟨hp,g,d,tk,os⟩:=s;let⟨hl,h⟩:=h;have f1:=AutoSeq1.idx_int
  wp_walk using vm hl
  refine ML (pf h0) ?_
  wp_walk using vm hl
  refine ML (pf h3) ?_
  wp_walk using vm hl
  exact⟨_,rfl,h⟩
def Zkz:fillsNumberSlot (.type "tuple") "mul" =pure false:=PySem.fillsNumberSlot_seq (id:="tuple.__mul__") (r:=O<|.builtin "tuple.__rmul__") PySem.F.slot_tuple_mul.lookup (by decide +kernel) PySem.F.slot_tuple_rmul.lookup (by decide +kernel)
def Zn5:seqRepeat? (.type "tuple")=pure (O<|.builtin "tuple.__mul__"):=by unfold seqRepeat?;rw[MG (T:="tuple") (name:="__mul__") (id:="tuple.__mul__") PySem.F.slot_tuple_mul.lookup (by decide +kernel),MG (T:="tuple") (name:="__rmul__") (id:="tuple.__rmul__") PySem.F.slot_tuple_rmul.lookup<|by decide +kernel];rfl
def Zog(a:Int)(t:jB)(l:Ys)(items:qB)(n:Nat)(dd:qA)(sl:Array oo):
  Meets (Builtin.«int.__rmul__» ⟨[.int a t,.ref l],[]⟩) (λ_ R s=>s.heap.get? l=O {cls:=.type "tuple",dict:=dd,data:=.seq items n,slots:=sl}/\R (.ok<|.ret Value.notImplemented) s):=
 .of_wp λprog w A R s h=>by let⟨hp,g,d,tk,os⟩:=s;let⟨hl,h⟩:=h;wp_walk;exact⟨_,rfl,h⟩
theorem d8{α:Type}(x:α):∀(n:Nat) (a:List α),Ag (λx1 x2=>x1++x2) a.toArray (Yg n #[x])=(a++Yg n x).toArray
 |0,a=>by rw[Yg,Yg,gJ];rfl|n+1,a=>by rw[lA,qx,lA];have:=d8 x n<|a++[x];rw[Y7,List.singleton_append]at this;rw[<-this];simp
section
variable {X:Cx}
def Zx9:aY X (jh .Mult) (λx y H Q=>∃a v k,x= .ref a/\y= .int k/\dD X.K H a [v]/\2<=k/\k<=1000/\∀p,H p=Yj->Q (.ref p) (k4 H p<|.U<|Yg k.toNat v)):=by
 intro c6 s σ H x y v u Q I rx ry h;let⟨a,z,k,rfl,rfl,ha,h1,h2,q⟩:=h;cases rx;let⟨t,rfl⟩:=ry;let⟨c_,r1,p1,_⟩:=I.tuple ha;let⟨b,rfl,rb⟩:=vals1 r1;let⟨⟨cls,dd,data,sl⟩,ho,hc,n,hd⟩:=id p1;simp only at hc hd;subst hc hd;have hz:(1000:Nat)<=bI:=Yx aaE kY;have e:Ag (λx1 x2=>x1++x2) #[] (Yg k.toNat [b].toArray)=(Yg k.toNat b).toArray:=d8 b k.toNat [];have hk:k.toNat<=1000:=by omega
 refine L4 (T:="tuple") (U:="int") aaE ⟨_,ho,rfl⟩ (λs'=>Iu s' k t) Zkz PySem.F.fills_int_mul OM Zn5 PySem.F.slot_int_index.lookup
  (rF OM (Iu s k t) PySem.F.entry_int_rmul (PySem.F.args_int_rmul_2 _ _) (Zog k t a _ n dd sl)
   ⟨ho,rfl,⟨_,ho,rfl⟩,rF PySem.F.slot_tuple_mul ⟨_,ho,rfl⟩ PySem.F.entry_tuple_mul (PySem.F.args_tuple_mul_2 _ _) (Zus a _ n dd sl k t ?_ ?_ ?_ ?_ ?_ ?_) ⟨ho,?_⟩⟩)
 .simp;omega
 .simp;omega
 .simp;omega
 .simp;omega
 .unfold Pe;simp only[Yq,Yh,gw,decide_eq_true_eq];omega
 .rw[e];simp;omega
 .rw[e];refine⟨.ref<|d4 s,_,I.laid (t':=s.toks) (o:=.U<|Yg k.toNat z) (λb ob q=>Yl _ q) (Yn _) ?_,rfl,q _<|I.kb.fresh<|Yn _⟩;refine⟨by rw[vI];omega,_,?_,qD.new _ _⟩;generalize k.toNat=m
  induction m with
  |zero=>exact .nil|succ m ih=>rw[lA,lA];exact .cons rb ih
def ZwK{H:Hp}{Q:VK}{ds:h8}{k:Int}{M:c5}(h:aA K H ι Q (J1 (.U ds) (.int k) M)):∃x,ds=[x]/\(2<=k/\k<=1000)/\aA K H ι Q (.ok (.U<|Yg k.toNat x) M):=by
 cases ds with
 |nil=>cases h|cons x r=>let⟨⟨e,h1⟩,h⟩:=yM h;rw[e];exact⟨x,rfl,h1,h⟩
theorem tE{K:Yb}{H:Hp}{ι:l6}{d:D}{v:V}(r:i0 K H ι d v):∀n,aB K H ι (Yg n d)<|Yg n v
 |0=>aB.nil|n+1=>⟨v,_,rfl,r,tE r n⟩
def AfU:aY X (jh .Mult) (r2 X.K J1):=aY.imp Zx9 λx y H Q ao=>by
 let⟨ι,M,a,b,S,ra,rb,h⟩:=ao;cases a with
 | U ds=>cases b with
  |int k=>let⟨d,rfl,⟨h1,h2⟩,h⟩:=ZwK h;let⟨p,vs,e,s,r⟩:=ra.jf;let⟨v,ws,rfl,rd,rn⟩:=r;rw[show ws=[]from rn]at s;refine⟨p,_,k,e,rb.int_inv,s,h1,h2,λp' hp=>?_⟩;let⟨x2,S2,r2⟩:=S.xF hp<|tE rd k.toNat;exact h _ _ _ x2 S2 r2|_=>cases h
 |_=>cases b<;>cases h
end
end L3
set_option linter.all false
namespace L3
noncomputable section
end
open PySem
noncomputable section
end
end L3
namespace L3
open PySem
noncomputable section
local instance (priority:=100000) Aiq (p:Prop):Decidable p:=Yz p
end
end L3
namespace L3
open PySem
noncomputable section
end
end L3
namespace L3
open PySem PySem.W PyProof.Rows PySem.Calls
variable{p:Y8}{L:oB}{ann:oo}{w:aX}{X:Yi->Bool}
def Zw2{q:Y8}{α:Type}{Y:Yi->α}{a:α}{N:Nat}{g0:Bool}{H:aF}{gs:Array GenState}{d:Drawn}{k m M:Nat}(ho:(fencedOpening pD p w N).map (λs=>(s.heap,s.gens,s.drawn,s.toks))=O (H,gs,d,k))(hz:(H.isNs dI&&gs.size==0,H.objs.size,H.nsMap dI "__annotations__")=(true,m,ann))(hr:∀os,∃s,topRun pD p w m ann M ⟨H,gs,d,k,os⟩ (topStub p)=O s/\(staticsOk (DG p.main.body) H s.heap&&namesBound p s.heap&&gensDone s&&laidKept H s.heap)=true/\openSeen q L (DG p.main.body) X g0 s=openGood q L/\Y s=a)(hl:Jb M N=true):(openEnds pD p w N).map (λs=>(openSeen q L (DG p.main.body) X g0 s,Y s))=O (openGood q L,a):=by
 let⟨⟨h,y8,d',k',os⟩,e,e'⟩:=LJ.mp ho;obtain⟨rfl,rfl,rfl,rfl⟩:h=H/\y8=gs/\d'=d/\k'=k:=by cases e';exact⟨rfl,rfl,rfl,rfl⟩
 have z1:=congrArg (·.1) hz;have z2:=congrArg (·.2.1) hz;have z3:=congrArg (·.2.2) hz;dsimp only at z1 z2 z3;let⟨s,r,l1,l2,l3⟩:=hr os;have r:=topRun_mono (N-M) _ _ _ _ r;rw[show M+(N-M)=N from Nat.add_sub_cancel' (Nat.le_of_ble_eq_true hl)]at r;have t:topFrom pD p w N ⟨h,y8,d',k',os⟩=O s:=by unfold topFrom;dsimp only;rw[z1,z2,z3,r];show(match staticsOk (DG p.main.body) h s.heap&&namesBound p s.heap&&gensDone s&&laidKept h s.heap with|true=>_|false=>_)=_;rw[l1]
 unfold openEnds;rw[e];show(topFrom pD p w N _).map _=_;rw[t];exact congrArg O<|Prod.ext l2 l3
def ZzX{m:Nat}{s:Yi}{c:Code}{pos q:aZ}:topRun pD p w m ann 2 s ⟨doneF .next,c,pos,[topFrame q]⟩=O s:=by let⟨a,b,d,e,f⟩:=s;rfl
def Zzp{m:Nat}{n0 n1 n:Nat}{S Sa:Yi}{T T':SharedT}{b:rq}{env:dJ}{q pos sM A0:aZ}(ha:topGo pD p w m ann n0 S (topStub p)=O (Sa,⟨denote pD<|.body b env,.body b env,pos,[topFrame q]⟩))(hb:segRun pD p w m ann 1 n1 Sa (blockOf b env (.body b env) pos [topFrame q])=O (.next,T.abs,.body b env,sM))(hr:segRunT pD p w m ann 1 n T (piecesOf b env (.body b env) sM [topFrame q])=O (.next,T',.body b env,A0)):
  topRun pD p w m ann (n0+(n1+(n+2))) S (topStub p)=O T'.abs:=by
 have h:=piece_app (rest:=[]) (segRun_of hr)<|piece_nil ZzX;rw[gJ]at h;exact go_top ha<|piece_block hb h
def AfV{A B C D E F:Type}{a a':A}{b b':B}{c c':C}{d d':D}{e e':E}{f f':F}(h:(a,b,c,d,e,f)=(a',b',c',d',e',f')):a=a'/\b=b'/\c=c'/\d=d'/\e=e'/\f=f':=by cases h;exact⟨rfl,rfl,rfl,rfl,rfl,rfl⟩
def Vc:List aJ->List aJ
 |a::_::l=>a::Vc l|l=>l
def GH:Nat->List aJ->BT
 |n+1,o::l=>.node o (GH n<|Vc l) (GH n<|Vc l.tail)|_,_=>.nil
abbrev hV(p:Y8):dJ:={scope:=p.main.scope,locals:=mainNs,globals:=mainNs,cells:=[],code:=.ref 13,frame:=O 14}
abbrev hO:aZ:=⟨0,0,0,0⟩
abbrev hK(p:Y8):Code:=.body (behindTheImports p)<|hV p
abbrev hF:List Frame:=[topFrame hO]
abbrev hS(w:aX)(os:OsState):Yi:=⟨boot_heap w.params,⟨[]⟩,boot_drawn,boot_toks,os⟩
def hT(s:Yi):SharedT:=⟨GH 8 s.heap.objs.toList,d4 s,s.heap.life,s.gens,s.drawn,s.toks,s.os⟩
abbrev hU:=Fast.tw14364793385576792824
abbrev hW(w:aX)(b:Bool):aX:=w.withFollow "special-get-raises" b
def GI(p:Y8)(w:aX)(os:OsState):=Fast.tw15667345088766844465 hU p w 11 (O<|.ref 6) 12 (hS w os)<|topStub p
def gA(p:Y8)(w:aX)(os:OsState):Yi:=match GI p w os with|some x=>x.1|none=>hS w os
def GL(p:Y8)(w:aX)(os:OsState):=Fast.tw14374325043358763698 hU p w 11 (O<|.ref 6) 1 1 (gA p w os)<|blockOf (behindTheImports p) (hV p) (hK p) hO hF
def GN(p:Y8)(w:aX)(os:OsState):SharedT:=match GL p w os with|some x=>hT x.2.1|none=>hT<|hS w os
def GO(p:Y8)(n:Nat)(w:aX)(os:OsState):=Fast.tw10110043849684766642 hU p w 11 (O<|.ref 6) 1 n (GN p w os)<|piecesOf (behindTheImports p) (hV p) (hK p) hO hF
def B_(p:Y8)(n:Nat)(w:aX)(os:OsState):SharedT:=match GO p n w os with|some x=>x.2.1|none=>GN p w os
abbrev Cn(p q:Y8)(L:oB)(X:Yi->Bool)(A:l6)(K:Params->Frag)(n:Nat)(z:aZ)(w:aX):Prop:=∀os,(GI p w os,GL p w os,GO p n w os,
  (staticsOk (Fast.tw5923862056798008813 p.main.body) (boot_heap w.params) (B_ p n w os).abs.heap&&namesBound p (B_ p n w os).abs.heap&&gensDone (B_ p n w os).abs&&laidKept (boot_heap w.params) (B_ p n w os).abs.heap),
  Fast.tw4187177175401517315 q L (Fast.tw5923862056798008813 p.main.body) X true (B_ p n w os).abs,A.map (B_ p n w os).abs.heap.get?)=
 (O (gA p w os,⟨Fast.tw11892475500146522536 hU<|hK p,hK p,hO,hF⟩),O (.next,(GN p w os).abs,hK p,hO),O (.next,B_ p n w os,hK p,z),true,openGood q L,(K w.params).map λp=>O p.2)
def gB{q:Y8}{A:l6}{K:Params->Frag}{n N:Nat}{z:aZ}(e:opening p=plainProg p.main.scope.names)(f:∀s,fenceModules? p s=O s)(hN:Jb 600 N=true)(hl:Jb (12+(1+(n+2))) N=true)(h:Cn p q L X A K n z w):
  (openEnds pD p w N).map (λs=>(openSeen q L (DG p.main.body) X true s,A.map s.heap.get?))=O (openGood q L,(K w.params).map λp=>O p.2):=by
 refine Zw2 (boot_open e hN f _) (m:=11) (ann:=O<|.ref 6) (M:=12+(1+(n+2))) aaH (λos=>?_) hl;have h:=h os;unfold GI GL GO hU at h;rw[<-Fast.te15667345088766844465,<-Fast.te14374325043358763698,<-Fast.te10110043849684766642,<-Fast.te14364793385576792824,<-Fast.te5923862056798008813,<-Fast.te4187177175401517315,<-Fast.te11892475500146522536]at h;let⟨h1,h2,h3,h4,h5,h6⟩:=AfV h;exact⟨_,Zzp h1 h2 h3,h4,h5,h6⟩
def ZzK{q:Y8}{A:l6}{K:Params->Frag}{n N:Nat}{z:aZ}(e:opening p=plainProg p.main.scope.names)(f:∀s,fenceModules? p s=O s)(hN:Jb 600 N=true)(hl:Jb (12+(1+(n+2))) N=true)(h0:∀w,Cn p q L X A K n z<|hW w false)(h1:∀w,Cn p q L X A K n z<|hW w true):
  LeftO p q L X (λs=>A.map s.heap.get?) (λw=>(K w.params).map λp=>O p.2) N:=λw=>
 byRow2 "special-get-raises" (P:=λw=>(openEnds pD p w N).map (λs=>(openSeen q L (DG p.main.body) X true s,A.map s.heap.get?))=O (openGood q L,(K w.params).map λp=>O p.2)) (λw=>gB e f hN hl<|h0 w) (λw=>gB e f hN hl<|h1 w) w
end L3
namespace L3
open PySem PySem.Spec PyProof.Rows L2
def RJ(x y:h8)(r:Bool)(M:c5):R3 D:=if x.all (cP 50)=true/\y.all (cP 50)=true then .ok (.bl<|!(gY x y&&r)) M else .bad
def RK(a b:D)(M:c5):R3 D:=match yG a,yG b with
 |some (n,i),O (m,j)=>match M[n]?,M[m]? with
  |some (.L x),O (.L y)=>if n=m then .bad else RJ x y (i==j) M|_,_=>.bad
 |_,_=>.bad
def AfW{X:Cx}(hu:X.A.units+80<fH):aY X (iB .NotEq) (r2 X.K RK):=by
 intro c6 s σ H x y v u Q I rx ry h;let⟨ι,M,a,b,S,ra,rb,h⟩:=h;have rg:X.A.units<fH:=by omega
 unfold RK at h;cases ha:yG a with
 |none=>rw[ha]at h;cases h|some ZoC=>cases hb:yG b with
  |none=>rw[ha,hb]at h;cases h|some cxB=>
   let⟨n,i⟩:=ZoC;let⟨m,j⟩:=cxB;rw[VW ha]at ra;rw[VW hb]at rb;rw[ha,hb]at h;dsimp only at h;cases hn:M[n]? with
   |none=>rw[hn]at h;cases h|some o1=>cases o1 with
    | L x1=>cases hm:M[m]? with
     |none=>rw[hn,hm]at h;cases h|some o2=>cases o2 with
      | L y1=>
       rw[hn,hm]at h;dsimp only at h;by_cases vj:n=m
       .rw[f_ vj]at h;cases h
       rw[i6 vj]at h;unfold RJ at h;by_cases hp:x1.all (cP 50)=true/\y1.all (cP 50)=true
       .rw [f_ hp]at h;let⟨P,vs,c_,_,eu,t,r1,v1⟩:=yP I ra rx;let⟨Zvq,ws,oQ,_,ev,t',r2,v2⟩:=yP I rb ry;let⟨CIL,Fm,rfl,q1,r1⟩:=r1.cons_inv;let⟨y1',Fm,rfl,q2,r1⟩:=r1.cons_inv;rw[r1.nil_inv]at v1;let⟨ZmV,Ap,rfl,q3,r2⟩:=r2.cons_inv;let⟨z1',Ap,rfl,q4,r2⟩:=r2.cons_inv;rw[r2.nil_inv]at v2;cases v1 with
        | @cons _ Zf8 _ _ w0 v1=>cases v1 with
         | @cons _ u1 _ _ w1 v1=>
          cases v1
          cases v2 with
          | @cons _ u2 _ _ w2 v2=>cases v2 with
           | @cons _ cxA _ _ w3 v2=>
            cases v2
            let⟨t1,e1⟩:=uv q2 w1;let⟨t2,e2⟩:=uv q4 w3;have hi:X.A.in1.units+70<fH:=by rw[units_in1];omega
            have L:=Zvw hi I S hn hm vj hp.1 hp.2 q1 q3 w0 w2;have N:oA X.A.in1 s u1 cxA (i==j):=by rw[e1,e2];exact WL _ _ _ _
            rw[eu,ev];refine P7 t t' rg (ZyY L N) X.prog X.w X.xe _ ⟨.bl<|!(gY x1 y1&&(i==j)),H,I,?_,aA.ok h S i0.bl⟩;show Value.bool (!((gY x1 y1&&((i==j)&&true))&&true))=Value.bool _;rw[xZ,xZ]
       .rw[i6 hp]at h;cases h
      |_=>rw[hn,hm]at h;cases h
    |_=>rw[hn]at h;cases h
end L3
set_option maxHeartbeats 4000000
abbrev n4:List Nat:=[87,97,108,107]
abbrev qE:List Nat:=[97,100,100]
abbrev r6:List Nat:=[115,112,101,110,100]
abbrev sj:List Nat:=[109,111,114,101]
abbrev tq:List Nat:=[115,117,98]
abbrev tw:List Nat:=[101,110,100]
abbrev wd:List Nat:=[118,97,108,117,101,95,111,102]
abbrev xE:List Nat:=[115,116,101,112,115]
abbrev ym:List Nat:=[101,108,115,101]
abbrev ze:List Nat:=[83,112,101,110,116]
abbrev zg:List Nat:=[103,111,95,116,104,114,111,117,103,104]
abbrev AA:List Nat:=[110,97,109,101,100]
abbrev AB:List Nat:=[99,101,108,108,115]
abbrev AD:List Nat:=[110,117,109,98,101,114,115]
abbrev A1:List Nat:=[109,111,115,116]
abbrev Co:List Nat:=[99,101,108,108]
abbrev Cs:List Nat:=[112,117,116]
abbrev Ct:List Nat:=[105,115,95,97,98,111,118,101]
abbrev D1:List Nat:=[116,101,108,108]
abbrev D2:List Nat:=[119,104,101,110]
abbrev D3:List Nat:=[66,97,100,71,105,118,101,110]
abbrev GS:List Nat:=[100,111,95,100,101,101,100]
abbrev gL:List Nat:=[97,98,99,100,101,102,103,104,105,106,107,108,109,110,111,112,113,114,115,116,117,118,119,120,121,122]
abbrev sQ:List ak:=["self","steps"]
abbrev tF:List ak:=["self","words"]
abbrev tT:List ak:=["self","deed"]
abbrev ub:List ak:=["program"]
abbrev wx:List ak:=["deed","begin","cells"]
abbrev xI:List ak:=["program","given"]
abbrev yn:List ak:=["roll","states"]
abbrev yv:List ak:=["words"]
abbrev zh:List ak:=["row","boxes","cells"]
abbrev zi:List ak:=["self","deeds"]
abbrev zk:List ak:=["script","k"]
abbrev zo:List ak:=["found"]
abbrev A2:List ak:=["script"]
abbrev By:List ak:=["boxes"]
abbrev Bz:List ak:=["name","one","other"]
abbrev BA:List ak:=["self","named","most"]
abbrev BB:List ak:=["name","box","cells"]
abbrev CB:List ak:=["row","place","boxes"]
abbrev CC:List ak:=["boxes","box","value"]
abbrev CD:List ak:=["cells","number"]
abbrev CF:List ak:=["roll","state"]
abbrev CH:List ak:=["roll","boxes","most"]
abbrev CL:List ak:=["program","given","most"]
abbrev CM:List ak:=["deeds"]
abbrev CU:List ak:=["words","box","cells"]
abbrev CY:List ak:=["deeds","begin","cells"]
abbrev C0:List ak:=["script","i"]
abbrev C2:List ak:=["script","at","names","limit"]
abbrev D4:List ak:=["cells","number","value"]
abbrev D5:List ak:=["cells","number","value","below","above","here","cell"]
abbrev D6:List ak:=["frames","opens"]
abbrev D7:List ak:=["script","k","frames","opens","names"]
abbrev D8:List ak:=["script","cells","names"]
abbrev D9:List ak:=["script","program"]
abbrev Ee:List ak:=["program","given","bound"]
abbrev EA:List ak:=["roll","boxes","states"]
abbrev lL:List ak:=["words","sums","lacking","word","one"]
abbrev wc:List ak:=["self","words","parts","part"]
abbrev F2:List ak:=["script","names","taken","k"]
abbrev ir:List ak:=["script","program","some","k"]
abbrev il:List ak:=["script","program","some","draw"]
namespace Law
open PySem L3
noncomputable section
def Dq:E3:=eC<|.int 8
def uY:E3:=eC<|.int 7
def wC:v_:=[(qE,2),(tq,2),(sj,2),(Co,1)]
def sJ:k9:=[[116,97,107,101],[115,101,116],Cs,D1,D2,ym,[119,104,105,108,101],tw,qE,tq,sj,Co]
def Ku:E3:=eC<|.U<|sJ.map D.str
abbrev mS:=Za (Zc 0) Ze
abbrev nL:=eC<|.int 0
def GU:S3:=aP<|aR<|Za nL<|Za (aL jT mS)<|Za (aR Ze) Ze
def uF:F3:=aK 1 1 GU
abbrev ku:=eC<|.str D2
abbrev dS:=e2 bJ (e2 Zj (Zc 0) nL) ku
abbrev nN:=eC<|.int 1
abbrev ef:=e2 iQ (e2 Zj (Zc 2)<|e2 Zj (Zc 0) nN) nL
abbrev kq:=eC<|.str [106,117,109,112]
abbrev kA:=e2 Zy (Zc 1) nN
abbrev nS:=eC<|.int 2
def eP:S3:=Zx (aQ (e2 bJ (e2 Zj (Zc 0) nL) kq) (aP<|e2 Zj (Zc 0) nN) cG)<|Zx (aQ (iV dS ef) (aP<|e2 Zj (Zc 0) nS) cG)<|aP kA
def Kv:F3:=aK 3 3 eP
abbrev mh:=eC<|.str qE
abbrev mi:=eC<|.str tq
def Gn:S3:=Zx (aQ (e2 bJ (Zc 0) mh) (aP<|e2 Zy (Zc 1)<|Zc 2) cG)<|Zx (aQ (e2 bJ (Zc 0) mi) (aP<|e2 jD (Zc 1)<|Zc 2) cG)<|aP<|rQ (e2 iQ (Zc 1)<|Zc 2) nN nL
def oV:F3:=aK 3 3 Gn
abbrev mT:=Za (Zc 2) Ze
abbrev eL:=e2 Zy (jR (Zc 0) jP<|jQ<|Zc 1)<|aR mT
abbrev fz:=jR (Zc 0) (jQ kA) jP
def k8:S3:=aP<|e2 Zy eL fz
def yZ:F3:=aK 3 3 k8
abbrev mB:=Za nL Ze
def n8:S3:=aP<|bA Fo Ba (aL Fp mS)<|Za (Zc 1) mB
def Kw:F3:=aK 2 2 n8
abbrev gX:=e2 Zj (Zc 1)<|e2 Zj (Zc 0) nS
abbrev nV:=eC<|.int 3
abbrev av:=aP<|Zr yZ<|Za (Zc 1)<|Za (e2 Zj (Zc 0) nN)<|Za (Zr oV<|Za (Zc 3)<|Za gX<|Za (e2 Zj (Zc 1)<|e2 Zj (Zc 0) nV) Ze) Ze
abbrev bS:=Za mh<|Za mi<|Za (eC<|.str sj) Ze
abbrev bz:=aR bS
abbrev bo:=e2 Fe (Zc 3) bz
abbrev fi:=Za gX Ze
abbrev jv:=Za (e2 Zj (Zc 0) nS) Ze
abbrev ma:=eC<|.str Cs
abbrev md:=eC<|.str [103,101,116]
def GV:S3:=Zx (aD 3<|e2 Zj (Zc 0) nL)<|Zx (aQ (e2 bJ (Zc 3) ma) (aP<|Zr yZ<|Za (Zc 1)<|Za (e2 Zj (Zc 0) nN) jv) cG)<|Zx (aQ (e2 bJ (Zc 3) md) (aP<|Zr yZ<|Za (Zc 1)<|Za (e2 Zj (Zc 0) nN)<|Za (Zr Kw<|Za (Zc 2) fi) Ze) cG)<|Zx (aQ bo av cG)<|aP<|Zc 1
def Ky:F3:=aK 3 4 GV
abbrev fe:=aL jT<|Za (e2 Zy (e2 Zy (Zc 3)<|Zc 5)<|Zc 4) Ze
abbrev kL:=Za (Zc 1) mT
abbrev gi:=bh<|Za (aR kL) Ze
abbrev kH:=e2 Zj (Zc 6) nL
def su:S3:=Zx (aD 3<|lG (g_<|Zc 0) 1 (bK 6) [e2 mq kH<|Zc 1]<|Zc 6)<|Zx (aD 4<|lG (g_<|Zc 0) 1 (bK 6) [e2 iQ kH<|Zc 1]<|Zc 6)<|Zx (aD 5<|rQ (e2 nu (Zc 2) nL) gi<|bh Ze)<|aP fe
def Gp:F3:=aK 3 6 su
abbrev mf:=eC<|.str [115,101,116]
abbrev ez:=e2 bJ (e2 Zj (Zc 0) nL) mf
def GW:S3:=Zx (aQ ez (aP<|Zr Gp<|Za (Zc 2)<|Za (e2 Zj (Zc 1)<|e2 Zj (Zc 0) nN) fi) cG)<|aP<|Zc 2
def Kz:F3:=aK 3 3 GW
abbrev ng:=Za (Zc 3) Ze
abbrev iL:=Za (Zc 5)<|Za (Zc 2) ng
abbrev nt:=Za (Zc 4) Ze
abbrev kR:=Za (Zc 3) nt
abbrev iN:=Za (Zc 5) kR
abbrev kM:=e2 Zj (Zc 1) nL
abbrev kP:=e2 Zj (Zc 1) nN
abbrev kQ:=eC<|.str [104,97,108,116]
def GY:S3:=Zx (aD 2 kM)<|Zx (aD 3 kP)<|Zx (aD 4<|e2 Zj (Zc 1) nS)<|Zx (aD 5<|e2 Zj (Zc 0)<|Zc 2)<|Zx (aQ (e2 bJ (e2 Zj (Zc 5) nL) kQ) (aP<|eC .Z) cG)<|aP<|aR<|Za (Zr Kv iL)<|Za (Zr Ky iN)<|Za (Zr Kz iN) Ze
def qP:F3:=aK 2 6 GY
abbrev mI:=e1 fQ nN
abbrev kf:=e2 Zj (Zc 1) mI
abbrev kX:=e2 Zj (Zc 2) nL
def f6:S3:=Zx (aD 2 kf)<|aP<|e2 bJ (e2 Zj (e2 Zj (Zc 0) kX) nL) kQ
def sO:F3:=aK 2 3 f6
abbrev kg:=e2 Zj (Zc 3) mI
abbrev eM:=Za (Zc 0)<|Za kg Ze
abbrev cb:=bA bO cQ (Zc 3)<|Za (Zr qP eM) Ze
abbrev gN:=e1 jj<|Zr sO<|Za (Zc 0) ng
abbrev ml:=aL a_ ng
abbrev ja:=e2 Fb ml<|Zc 2
abbrev ny:=Za (Zc 1) Ze
def f7:S3:=Zx (aD 3<|bh<|Za (Zr uF ny) Ze)<|Zx (Fq (iV ja gN)<|aG cb)<|aP<|Zc 3
def RL:F3:=aK 3 4 f7
abbrev lb:=e2 Zj (Zc 3) nN
abbrev cf:=bA bO cQ (Zc 2)<|Za (e2 Zj lb<|e2 Zj (Zc 4) nN) Ze
abbrev kx:=eC<|.str D1
abbrev ee:=e2 bJ (e2 Zj (Zc 4) nL) kx
abbrev la:=e2 Zj (Zc 3) nL
abbrev fA:=aD 4<|e2 Zj (Zc 0) la
abbrev lT:=jQ mI
abbrev ib:=jR (Zc 1) jP lT
def G0:S3:=Zx (aD 2<|bh Ze)<|Zx (lF (g_ ib) (bK 3)<|Zx fA<|aQ ee (aG cf) cG)<|aP<|Zc 2
def RM:F3:=aK 2 5 G0
abbrev cE:=aD 2<|e2 Zy (e2 jD (Zc 2) nN)<|e2 (FP wC) (Zc 3) nL
abbrev eh:=bA bO cQ kf ng
abbrev lh:=e2 bJ (Zc 2) nL
abbrev mm:=aL jT nt
abbrev mP:=Za (bh Ze) Ze
def G1:S3:=Zx (aD 1<|bh Ze)<|Zx (aD 2 nL)<|Zx (lF (g_<|Zc 0) (bK 3)<|Zx (aQ lh (Zx (aG<|bA bO cQ (Zc 1) mP)<|aD 2 nN) cG)<|Zx (aG eh) cE)<|aP<|rQ lh (lG (g_<|Zc 1) 1 (bK 4) [] mm)<|eC .Z
def KC:F3:=aK 1 4 G1
def Ha:S3:=aP<|Zr KC<|Za (jR (Zc 0) (jQ nN) jP) Ze
def wD:F3:=aK 1 1 Ha
def Hb:S3:=Zx (Bh n4 AA (Zc 0)<|Zc 1)<|Zx (Bh n4 AB (Zc 0) XC)<|Zx (Bh n4 AD (Zc 0)<|bh Ze)<|Zx (Bh n4 xE (Zc 0) nL)<|Bh n4 A1 (Zc 0)<|Zc 2
def Cd:F3:=aK 3 3 Hb
abbrev iE:=lK n4 xE
abbrev ff:=e1 iE<|Zc 0
def RN:S3:=Zx (jb<|Bh n4 xE (Zc 0)<|e2 Zy ff<|Zc 1)<|aQ (bR<|e2 iQ ff<|e1 (lK n4 A1)<|Zc 0) (FN ze<|Za (eC<|.str [116,104,101,114,101,32,97,114,101,32,109,111,114,101,32,115,116,101,112,115,32,116,104,97,110,32,116,104,101,32,98,111,117,110,100]) Ze)<|jb cG
def iG:F3:=aK 2 2 RN
abbrev fk:=e1 (lK n4 AB)<|Zc 0
abbrev fm:=e1 (lK n4 AA)<|Zc 0
abbrev mE:=Za nN Ze
abbrev lj:=cB mE
abbrev ll:=cB<|Za nS Ze
abbrev mn:=Zr wD ny
abbrev mr:=aL a_ mT
def y_(rec:Nat->F3):S3:=Zx (aD 2<|yI (g_ mn) 1 (bK 3)<|cM n4 wd (rec 0) (bR<|Zc 0)<|cB ng)<|Zx (aQ (bR<|e2 bJ mr nS) (Zx (aG<|cM n4 r6 iG (bR<|Zc 0) lj)<|jb<|aP<|Zr oV<|Za kM<|Za kX<|Za (e2 Zj (Zc 2) nN) Ze)<|jb cG)<|Zx (aQ (bR<|e2 bJ mr nN) (Zx (aG<|cM n4 r6 iG (bR<|Zc 0) ll)<|jb<|aP<|bA Fo Ba fk<|Za kX mB)<|jb cG)<|Zx (aQ (bR<|e1 (jk .int) kM) (Zx (aG<|cM n4 r6 iG (bR<|Zc 0) lj)<|jb<|aP kM)<|jb cG)<|Zx (aG<|cM n4 r6 iG (bR<|Zc 0) ll)<|jb<|aP<|bA Fo Ba fm<|Za kM mB
def RP:Nat->Nat->F3
 |0,0=>aK 2 3 oG|n+1,0=>aK 2 3 (y_<|RP n)|_,_=>λ_ _=>.bad
def uG:F3:=RP 13 0
abbrev mM:=cB ny
def KD:S3:=Zx (aD 2<|cM n4 wd uG (bR<|Zc 0) mM)<|Zx (aG<|cM n4 r6 iG (bR<|Zc 0) lj)<|jb<|aP<|e2 iQ (Zc 2) nL
def Ce:F3:=aK 2 3 KD
abbrev ie:=cB<|Za kP Ze
abbrev ij:=cB<|Za (e2 Zj (Zc 1) nS) Ze
def RQ(rec:Nat->F3):S3:=Zx (Fq (cM n4 Ct Ce (bR<|Zc 0) ie)<|Zx (aG<|cM n4 zg (rec 0) (bR<|Zc 0) ij)<|aG<|cM n4 r6 iG (bR<|Zc 0) lj)<|aG<|cM n4 r6 iG (bR<|Zc 0) lj
abbrev gg:=lK n4 AD
abbrev ko:=eC<|.str [119,104,105,108,101]
def oW(rec:Nat->F3):S3:=aQ (bR<|e2 bJ kM ku) (aG<|cM n4 [99,104,111,111,115,101] (rec 2) (bR<|Zc 0) mM)<|aQ (bR<|e2 bJ kM ko) (aG<|cM n4 [114,101,112,101,97,116] (rec 3) (bR<|Zc 0) mM)<|aQ (bR<|e2 bJ kM ma) (Zx (aD 2<|cM n4 wd uG (bR<|Zc 0) ie)<|Zx (yH fk (Zc 2)<|cM n4 wd uG (bR<|Zc 0) ij)<|aG<|cM n4 r6 iG (bR<|Zc 0) ll)<|aQ (bR<|e2 bJ kM mf) (Zx (yH fm kP<|cM n4 wd uG (bR<|Zc 0) ij)<|aG<|cM n4 r6 iG (bR<|Zc 0) ll)<|Zx (aG<|Bj (e1 gg<|Zc 0)<|cM n4 wd uG (bR<|Zc 0) ie)<|aG<|cM n4 r6 iG (bR<|Zc 0) lj
def KH(rec:Nat->F3):S3:=aQ (cM n4 Ct Ce (bR<|Zc 0) ie) (aG<|cM n4 zg (rec 0) (bR<|Zc 0) ij)<|Zx (aG<|cM n4 zg (rec 0) (bR<|Zc 0)<|cB<|Za (e2 Zj (Zc 1) nV) Ze)<|aG<|cM n4 r6 iG (bR<|Zc 0) lj
def RT(rec:Nat->F3):S3:=JV (g_<|Zc 1) (bK 2)<|aG<|cM n4 GS (rec 1) (bR<|Zc 0)<|cB mT
def Zn:Nat->Nat->F3
 |0,0=>aK 2 3 oG|0,1=>aK 2 3 oG|0,2=>aK 2 2 oG|0,3=>aK 2 2 oG
 |n+1,0=>aK 2 3 (RT<|Zn n)|n+1,1=>aK 2 3 (oW<|Zn n)|n+1,2=>aK 2 2 (KH<|Zn n)|n+1,3=>aK 2 2<|RQ<|Zn n
 |_,_=>λ_ _=>.bad
def RV:F3:=Zn 13 0
abbrev jI:=Za (e2 Zj (Zc 0) nL) Ze
abbrev gp:=aL a_ jI
abbrev mv:=aL a_ ny
def Hc:S3:=aQ (bR<|e2 nu mv gp) (FN D3<|Za (eC<|.str [116,104,101,32,103,105,118,101,110,115,32,97,114,101,32,110,111,116,32,97,115,32,109,97,110,121,32,97,115,32,116,104,101,32,110,97,109,101,115,32,116,97,107,101,110]) Ze)<|jb cG
def Cg:F3:=aK 2 2 Hc
abbrev eA:=Za (JX (e2 Zj (Zc 0) nL)<|Zc 1) mT
abbrev gu:=e2 fP nS mv
abbrev eD:=cB<|Za gu Ze
abbrev jS:=Za (e2 Zj (Zc 0) nN) Ze
abbrev ik:=cB jS
abbrev lr:=Za (Zc 0) ny
abbrev iF:=Zr Cg<|cB lr
def KJ:S3:=Zx (aG iF)<|Zx (jb<|aD 3<|JT n4 Cd eA)<|Zx (aG<|cM n4 r6 iG (bR<|Zc 3) eD)<|Zx (aG<|cM n4 zg RV (bR<|Zc 3) ik)<|jb<|aP<|aR<|Za (e1 gg<|Zc 3)<|Za (e1 iE<|Zc 3) Ze
def Ci:F3:=aK 3 4 KJ
abbrev cp:=e2 Zy (aR<|Za ko Ze)<|e2 Zj (Zc 0) nN
abbrev cx:=e2 Zy (aR<|Za ku Ze)<|e2 Zj (Zc 0) nN
abbrev dC:=e2 bJ (e2 Zj (Zc 0) nL) ko
abbrev eB:=e2 bJ (e2 Zj (Zc 0) nL) ma
abbrev iO:=aR<|Za (eC<|.str tw) Ze
abbrev eT:=bh<|Za iO Ze
abbrev gS:=aR<|Za (eC<|.str ym) Ze
def qQ(rec:Nat->F3):S3:=Zx (aQ dS (Zx (aD 1<|Zr (rec 0) jv)<|Zx (aD 2<|Zr (rec 0)<|Za (e2 Zj (Zc 0) nV) Ze)<|aP<|e2 Zy (e2 Zy (e2 Zy (e2 Zy (bh<|Za cx Ze)<|Zc 1)<|bh<|Za gS Ze)<|Zc 2) eT) cG)<|Zx (aQ dC (aP<|e2 Zy (e2 Zy (bh<|Za cp Ze)<|Zr (rec 0) jv) eT) cG)<|Zx (aQ eB (aP<|bh<|Za (e2 Zy (e2 Zy (aR<|Za ma Ze)<|e2 Zj (Zc 0) nN)<|e2 Zj (Zc 0) nS) Ze) cG)<|aP<|bh<|Za (e2 Zy (jR (Zc 0) jP lT)<|e2 Zj (Zc 0) mI) Ze
def f9(rec:Nat->F3):S3:=Zx (aD 1<|bh Ze)<|Zx (lF (g_<|Zc 0) (bK 2)<|aG<|bA bO oM (Zc 1)<|Za (Zr (rec 1) mT) Ze)<|aP<|Zc 1
def sS:Nat->Nat->F3
 |0,0=>aK 1 3 oG|0,1=>aK 1 3 oG|n+1,0=>aK 1 3 (f9<|sS n)|n+1,1=>aK 1 3<|qQ<|sS n
 |_,_=>λ_ _=>.bad
def RW:F3:=sS 13 0
abbrev cy:=e2 Zy (aR<|Za (eC<|.str [116,97,107,101]) Ze)<|e2 Zj (Zc 0) nL
abbrev cm:=Za cy Ze
abbrev aS:=rQ (e2 iQ gp nL) (bh cm)<|bh Ze
def Hd:S3:=Zx (aD 1 aS)<|aP<|e2 Zy (Zc 1)<|Zr RW jS
def KN:F3:=aK 1 2 Hd
abbrev ky:=e1 jj<|e1 (jk .int)<|Zc 3
def He:S3:=Zx (aD 1<|aL JF jI)<|Zx (lF (g_<|Zr KN mS) (bK 2)<|lF (g_<|Zc 2) (bK 3)<|aQ (iV ky<|iV (e2 Jz (Zc 3) Ku)<|e2 JZ (Zc 3)<|Zc 1) (aG<|bA bO cQ (Zc 1) ng) cG)<|aP<|aL jT ny
def KQ:F3:=aK 1 4 He
def Hk:S3:=Zx (aG<|Zr Cg lr)<|aP<|e2 Zy (aL jT ny)<|e2 J1 (aR mB)<|e2 jD Dq mv
def Gq:F3:=aK 2 2 Hk
abbrev fE:=e2 Zy (e2 fP nS<|Zc 2) nN
def Hm:S3:=Zx (aD 1 XC)<|Zx (yE (Bf<|Zr KQ mS) (pR [2,3])<|QH (Zc 1) (Zc 3) fE)<|aP<|Zc 1
def RX:F3:=aK 1 4 Hm
def g6:S3:=aP<|bh<|Za (aR<|Za ma<|Za uY<|Za (e2 JD (Zc 2)<|Zc 0) Ze)<|Za (aR<|Za mf<|Za uY ny) Ze
def za:F3:=aK 3 3 g6
def g9:S3:=aP<|aR<|Za mh<|Za (Zc 0)<|Za (Zc 0) mS
def Gr:F3:=aK 1 1 g9
abbrev eW:=Za (Zc 6)<|Za (e2 Zy (Zc 1)<|Zc 5) mT
abbrev mw:=aL a_ nt
def RZ(rec:F3):S3:=Zx (aD 3<|bh Ze)<|Zx (aD 4<|Zr wD mS)<|Zx (yE (Bf<|Zc 4) (pR [5,6])<|aG<|bA bO oM (Zc 3)<|Za (Zr rec eW) Ze)<|Zx (aQ (e2 bJ mw nS) (aP<|e2 Zy (Zc 3)<|bh<|Za (aR<|Za (e2 Zj (Zc 0) nL)<|Za (Zc 1)<|Za (Zc 1)<|Za kA Ze) Ze) cG)<|Zx (aQ (e2 bJ mw nN) (aP<|e2 Zy (Zc 3)<|bh<|Za (Zr Gr ny)<|Za (aR<|Za md<|Za (Zc 1) ny) Ze) cG)<|Zx (aQ (e1 (jk .int)<|e2 Zj (Zc 0) nL) (aP<|bh<|Za (aR<|Za ma<|Za (Zc 1) jI) Ze) cG)<|aP<|bh<|Za (aR<|Za ma<|Za uY<|Za (e2 JD (Zc 2)<|e2 Zj (Zc 0) nL) Ze)<|Za (aR<|Za md<|Za (Zc 1)<|Za uY Ze) Ze
def R0:Nat->F3
 |0=>aK 3 7 oG|n+1=>aK 3 7<|RZ<|R0 n
def uH:F3:=R0 13
abbrev dE:=Za (e2 Zj (Zc 0) nN)<|Za nL mT
abbrev cK:=Zr uH dE
abbrev cq:=aD 3 cK
abbrev dQ:=aD 6<|e2 Zy (e2 Zy (Zc 4)<|aL a_<|Za (Zc 5) Ze) nN
abbrev js:=e2 Zy (Zc 1) ml
abbrev lx:=Za (Zc 4) mT
abbrev nB:=Za (Zc 6) Ze
def R4(rec:Nat->F3):S3:=Zx cq<|Zx (aD 4<|e2 Zy js nS)<|Zx (aD 5<|Zr (rec 0)<|Za (e2 Zj (Zc 0) nS) lx)<|Zx dQ<|aP<|e2 Zy (e2 Zy (e2 Zy (Zc 3)<|bh<|Za (aR<|Za ku<|Za nL nt)<|Za (aR<|Za kq nB) Ze)<|Zc 5)<|bh<|Za (aR<|Za kq ny) Ze
abbrev nE:=Za (Zc 8) Ze
def R5(rec:Nat->F3):S3:=Zx cq<|Zx (aD 4<|e2 Zy js nN)<|Zx (aD 5<|Zr (rec 0)<|Za (e2 Zj (Zc 0) nV) lx)<|Zx dQ<|Zx (aD 7<|Zr (rec 0)<|Za (e2 Zj (Zc 0) nS)<|Za (Zc 6) mT)<|Zx (aD 8<|e2 Zy (Zc 6)<|aL a_<|Za (Zc 7) Ze)<|aP<|e2 Zy (e2 Zy (e2 Zy (e2 Zy (Zc 3)<|bh<|Za (aR<|Za ku<|Za nL nB) Ze)<|Zc 5)<|bh<|Za (aR<|Za kq nE) Ze)<|Zc 7
abbrev iP:=Za (Zc 0) kL
def zb(rec:Nat->F3):S3:=Zx (aQ dS (aP<|Zr (rec 2) iP) cG)<|Zx (aQ dC (aP<|Zr (rec 3) iP) cG)<|Zx (aQ eB (Zx (aD 3<|e2 Zy cK<|bh<|Za (Zr Gr mB) Ze)<|aP<|e2 Zy (e2 Zy (Zc 3)<|Zr uH<|Za (e2 Zj (Zc 0) nS)<|Za nN mT)<|bh<|Za (aR<|Za mf<|Za nL mE) Ze) cG)<|Zx (aQ ez (aP<|e2 Zy (Zr uH<|Za (e2 Zj (Zc 0) nS)<|Za nL mT)<|Zr za dE) cG)<|aP<|e2 Zy cK<|bh<|Za (aR<|Za kx mB) Ze
abbrev dq:=Za (Zc 4)<|Za js mT
def R6(rec:Nat->F3):S3:=Zx (aD 3<|bh Ze)<|Zx (lF (g_<|Zc 0) (bK 4)<|aG<|bA bO oM (Zc 3)<|Za (Zr (rec 1) dq) Ze)<|aP<|Zc 3
def nH:Nat->Nat->F3
 |0,0=>aK 3 5 oG|0,1=>aK 3 4 oG|0,2=>aK 3 9 oG|0,3=>aK 3 7 oG
 |n+1,0=>aK 3 5 (R6<|nH n)|n+1,1=>aK 3 4 (zb<|nH n)|n+1,2=>aK 3 9 (R5<|nH n)|n+1,3=>aK 3 7<|R4<|nH n
 |_,_=>λ_ _=>.bad
def R7:F3:=nH 13 0
abbrev cz:=Za (e2 Zj (Zc 0) nN)<|Za mr ny
abbrev iS:=Za (Zc 4)<|Za (Zc 3) ny
abbrev de:=bA bO oM (Zc 2)<|Za (Zr za iS) Ze
def Hn:S3:=Zx (aD 1<|Zr RX mS)<|Zx (aD 2<|bh Ze)<|Zx (yE (Bf<|e2 Zj (Zc 0) nL) (pR [3,4])<|aG de)<|Zx (aG<|bA bO oM (Zc 2)<|Za (Zr R7 cz) Ze)<|aP<|e2 Zy (aL jT mT)<|aR<|Za (aR<|Za kQ Ze) Ze
def KR:F3:=aK 1 5 Hn
abbrev mx:=aL a_ mS
abbrev ai:=aD 3<|e2 bH (e2 fP (e2 Zy (e2 Zy (Zc 2) nV)<|e2 fP (eC<|.int 86243)<|e2 fJ (Zc 1)<|aL Fy<|Za nN<|Za mx Ze)<|eC<|.int 69621)<|eC<|.int 2147483629
abbrev eR:=aP<|e2 bH (e2 fP (Zc 3)<|Zc 3)<|eC<|.int 2147483587
def HA:S3:=Zx (aD 2 nL)<|Zx (aQ (e2 iQ mx nL) (aD 2<|e2 bH (e2 Zj (Zc 0)<|e2 bH (Zc 1) mx)<|eC<|.int 2147483629) cG)<|Zx ai eR
def gm:F3:=aK 2 4 HA
abbrev ip:=Zr gm<|Za (Zc 0) mE
abbrev nX:=eC<|.int 8
abbrev cn:=e2 bH (e2 fJ ip nX) nS
abbrev br:=e2 bJ cn nN
abbrev oa:=eC<|.int 4
abbrev bP:=aD 5<|e2 bH (Zr gm<|Za (Zc 0)<|Za (e2 Zy oa<|Zc 1) Ze)<|e2 jD nX<|Zc 4
def HC:S3:=Zx (aD 2<|eC<|.str gL)<|Zx (aD 3<|e2 Zj (Zc 2)<|e2 bH (Zr gm<|Za (Zc 0) mB)<|eC<|.int 26)<|Zx (aD 4<|e2 bH ip nX)<|Zx (aD 5<|e2 bH (Zr gm<|Za (Zc 0)<|Za nS Ze)<|e2 jD nX<|Zc 4)<|Zx (aQ br bP cG)<|Zx (aD 6<|e2 Zy (e2 Zy (e2 fP (Zc 3)<|Zc 4)<|e2 Zj (Zc 2)<|e2 bH (e2 Zy (Zc 1)<|Zr gm<|Za (Zc 0)<|Za nV Ze)<|eC<|.int 26)<|e2 fP (Zc 3)<|Zc 5)<|Zx (aQ (e2 bJ (Zc 6) mh) (aP<|eC<|.str [97,100,100,100]) cG)<|aP<|Zc 6
def p7:F3:=aK 2 7 HC
abbrev iq:=e2 Zj (Zc 1)<|e2 bH (Zc 0) oa
abbrev ly:=e2 fJ (Zc 0) nX
abbrev nK:=eC<|.int 10
abbrev og:=eC<|.int 5
def HE:S3:=Zx (aD 1<|bh<|Za (e2 bH ly og)<|Za (e2 bH ly<|eC<|.int 1000)<|Za (e2 bH (e2 fP ly<|eC<|.int 4099)<|e2 E_ nK<|eC<|.int 12) mB)<|aP<|e2 Zj (bh<|Za iq<|Za (e1 fQ iq) Ze)<|e2 bH (e2 fJ (Zc 0) oa) nS
def uI:F3:=aK 1 2 HE
abbrev fI:=e2 bH (e2 fJ (Zc 6) og) nV
abbrev ay:=bA bO cQ (Zc 4)<|Za (e2 Zj (bh bS) fI) Ze
abbrev bu:=bA bO cQ (Zc 4)<|Za (e2 Zj (Zc 2)<|e2 bH (e2 fJ (Zc 6)<|eC<|.int 15) mr) Ze
abbrev dP:=Zr gm<|Za (Zc 0)<|Za (e2 Zy (Zc 1) mw) Ze
abbrev df:=aD 6 dP
abbrev dn:=bA bO cQ (Zc 4)<|Za (Zr uI<|Za (e2 fJ (Zc 6)<|eC<|.int 15) Ze) Ze
abbrev du:=e2 bJ fI nL
abbrev eS:=bA bO cQ (Zc 4)<|Za (eC<|.str Co) Ze
abbrev fg:=e2 Ju (e2 Zy mw<|Zc 5)<|Zc 3
abbrev fF:=e2 mq (e2 bH (Zc 6) og) nS
abbrev fN:=e2 bJ (e2 bH (Zc 6) og) nS
abbrev lI:=e2 jD (Zc 5) nN
def HG:S3:=Zx (aD 4<|bh Ze)<|Zx (aD 5 nN)<|Zx (Fq (e2 iQ (Zc 5) nL)<|Zx df<|Zx (aD 5 lI)<|aQ (jO fg fF) (aQ du (aG dn)<|aG bu)<|aQ fN (Zx (aG eS)<|aD 5<|e2 Zy (Zc 5) nN)<|Zx (aG ay)<|aD 5<|e2 Zy (Zc 5) nS)<|aP mm
def qR:F3:=aK 4 7 HG
abbrev bp:=bA bO cQ (Zc 1)<|Za (aR<|Za la<|Za lb mT) Ze
abbrev iX:=aL jT<|Za (bA bO vZ (Zc 0) Ze) Ze
abbrev lP:=e2 Zj (Zc 3) nS
def HH:S3:=Zx (aD 2 iX)<|Zx (aD 3<|bA bO vZ (Zc 1) Ze)<|aQ (e2 bJ la ko) (aG<|bA bO cQ (e2 Zj (Zc 0) mI)<|Za (aR<|Za ko<|Za lb<|Za (e2 Zy (Zc 2) lP) Ze) Ze)<|aQ (e2 Fd lP<|eC .Z) (Zx (aG bp)<|aG<|bA bO cQ (Zc 0) mP)<|aG<|bA bO cQ (e2 Zj (Zc 0) mI)<|Za (aR<|Za ku<|Za lb<|Za lP mT) Ze
def zc:F3:=aK 2 4 HH
abbrev km:=Za (Zc 6) mB
abbrev ae:=bh<|Za (aR nB)<|Za (aR<|Za (eC<|.str sj) km)<|Za (aR<|Za mh km)<|Za (aR<|Za mi km)<|Za (aR<|Za (e2 jD nN<|e2 bH (e2 fJ (Zc 5)<|eC<|.int 64) nV) Ze) Ze
abbrev fR:=e2 bH (e2 fJ (Zc 5) nX) nX
abbrev ag:=e2 Zj (bh<|Za (aR<|Za (aR<|Za mf<|Za (Zc 6)<|Za (aR<|Za mi<|Za (Zc 6) mE) Ze) Ze)<|Za (aR Ze) Ze)<|aL v7<|Za (e2 bJ fR<|eC<|.int 7) Ze
abbrev ah:=bA bO cQ (Zc 3)<|Za (aR<|Za ku<|Za (Zr qR<|Za (Zc 0)<|Za (e2 Zy (eC<|.int 200)<|e2 fP (eC<|.int 30)<|Zc 1)<|Za (Zc 4)<|Za oa Ze)<|Za (eC .Z) Ze) Ze
abbrev az:=bA bO cQ (e2 Zj (Zc 2) mI)<|Za (aR<|Za mf<|Za (Zc 6)<|Za (aR<|Za (e2 bH (e2 fJ (Zc 5) nS) oa) Ze) Ze) Ze
abbrev aE:=bA bO cQ (Zc 3)<|Za (aR<|Za ko<|Za (e2 Zj (Zc 7)<|e2 bH fR og) nE) Ze
abbrev cS:=Zr p7<|Za (Zc 0)<|Za (e2 Zy nK ml) Ze
abbrev eI:=Zr gm<|Za (Zc 0)<|Za (e2 Zy (eC<|.int 100)<|Zc 1) Ze
def KY:S3:=Zx (aD 5 eI)<|Zx (aQ (e2 bJ (e2 bH (Zc 5) nS) nN) (Zx (aD 6 cS)<|Zx (aG az)<|Zx (aD 7 ae)<|Zx (aD 8 ag)<|aG aE)<|aG ah)<|aG<|bA bO cQ (Zc 2) mP
def Gs:F3:=aK 5 9 KY
abbrev kz:=e2 fP (eC<|.int 30)<|Zc 5
abbrev af:=bA bO cQ kg<|Za (aR<|Za ma<|Za (Zc 8)<|Za (Zr qR<|Za (Zc 0)<|Za (e2 Zy (eC<|.int 215) kz)<|Za (Zc 2)<|Za (e2 Zj (bh<|Za nV<|Za nX Ze)<|Zc 7) Ze) Ze) Ze
abbrev aI:=bA bO cQ kg<|Za (aR<|Za mf<|Za (e2 Zj (Zc 2)<|e2 bH (e2 fJ (Zc 6)<|eC<|.int 9)<|eC<|.int 6) nE) Ze
abbrev bb:=Zr qR<|Za (Zc 0)<|Za (e2 Zy (eC<|.int 200) kz)<|Za (Zc 2)<|Za (e2 Zj (bh<|Za oa<|Za nK Ze)<|Zc 7) Ze
abbrev aT:=aD 8 bb
abbrev bq:=bA bO cQ kg<|Za (aR<|Za kx nE) Ze
abbrev bX:=aL v7<|Za (e2 bJ (Zc 5)<|e2 bH (Zr gm<|Za (Zc 0)<|Za (eC<|.int 58) Ze) nX) Ze
abbrev bt:=aD 7 bX
abbrev dv:=Zr Gs<|Za (Zc 0)<|Za (Zc 5)<|Za (Zc 3) lx
abbrev lS:=e2 bH (Zc 6)<|eC<|.int 9
abbrev fS:=e2 mq lS nV
abbrev fT:=e2 bJ lS nV
abbrev gc:=e2 mq lS<|eC<|.int 6
abbrev gf:=e2 bJ lS<|eC<|.int 6
abbrev gv:=e2 mq mw nV
abbrev ki:=Zr zc kR
def HI:S3:=Zx (aD 3<|bh mP)<|Zx (aD 4<|bh Ze)<|Zx (yE (Bf<|Zc 1) (pR [5,6])<|Zx bt<|Zx aT<|aQ fS (aG aI)<|aQ fT (aG af)<|aQ (iV gc gv) (aG dv)<|aQ (iV gf<|e2 iQ mw nL) (aG ki)<|aG bq)<|Zx (Fq (e2 iQ mw nL)<|aG ki)<|aP<|aL jT<|Za la Ze
def R8:F3:=aK 3 9 HI
abbrev gT:=Zr gm<|Za (Zc 0)<|Za (eC<|.int 50) Ze
abbrev dy:=jQ<|e2 bH gT<|eC<|.int 7
abbrev eJ:=bh<|Za (Zr p7<|Za (Zc 0)<|Za nK Ze) Ze
def HK:S3:=Zx (aD 1<|lG (pU<|eC<|.int 6) 1 (bK 3) []<|Zr p7<|Za (Zc 0) ng)<|Zx (aD 2<|aL jT<|Za (jR (Zc 1) jP dy) Ze)<|aP<|aR<|Za (Zc 2)<|Za (Zr R8<|Za (Zc 0)<|Za (jR (Zc 0) jP<|jQ<|eC<|.int 24)<|Za (e2 Zy (Zc 1) eJ) Ze) Ze
def KZ:F3:=aK 1 3 HK
abbrev bg:=e2 Zj (bh<|Za nN<|Za (e2 E_ nK<|eC<|.int 17) Ze)<|e2 bH (e2 fJ (Zc 3)<|eC<|.int 7) nS
abbrev eK:=Zr gm<|Za (Zc 0)<|Za (e2 Zy (eC<|.int 60)<|Zc 3) Ze
abbrev ka:=Za kM Ze
abbrev fq:=pU<|aL a_ ka
abbrev my:=Zr uI ng
def HL:S3:=Zx (aD 2<|lG fq 1 (bK 3) [] eK)<|aP<|aL jT<|Za (lG (g_<|Zc 2) 1 (bK 3) []<|e2 fP my bg) Ze
def K1:F3:=aK 2 3 HL
def R9:S3:=Zx (aD 3<|eC .Z)<|Zx (Bk [ze] (aD 3<|Zr Ci<|cB iP)<|aD 3<|eC .Z)<|aP<|Zc 3
def Cj:F3:=aK 3 4 R9
def m3:S3:=aP<|iV (e1 (jk .int)<|Zc 0)<|e1 jj<|e1 (jk .bool)<|Zc 0
def Ck:F3:=aK 1 1 m3
abbrev fh:=e1 jj<|Zr Ck jS
abbrev gz:=e2 nu mx nS
def HM:S3:=Zx (aQ (jO (e1 jj<|e1 (jk .tuple)<|Zc 0)<|jO gz<|jO (e1 jj<|e1 (jk .list)<|e2 Zj (Zc 0) nL) fh) (aP<|eC<|.bl false) cG)<|Zx (lF (g_<|e2 Zj (Zc 0) nL) (bK 1)<|aQ (e1 jj<|Zr Ck ny) (aP<|eC<|.bl false) cG)<|aP<|eC<|.bl true
def R_:F3:=aK 1 2 HM
abbrev iA:=Za (Zc 0)<|Za (e2 Zj (Zc 2)<|Zc 3) Ze
abbrev bE:=e2 nu (Zr qP iA)<|e2 Zj (Zc 2)<|e2 Zy (Zc 3) nN
abbrev gI:=e2 jD mr nN
abbrev fw:=pU gI
abbrev gE:=e2 bJ mr nL
def HP:S3:=Zx (aQ (jO gE<|e2 nu kX<|Zr uF ny) (aP<|eC<|.bl false) cG)<|Zx (lF fw (bK 3)<|aQ bE (aP<|eC<|.bl false) cG)<|aP<|jO (e1 jj<|Zr sO<|Za (Zc 0) mT)<|e2 Fd (Zr qP<|Za (Zc 0)<|Za (e2 Zj (Zc 2) mI) Ze)<|eC .Z
def Sd:F3:=aK 3 4 HP
def HQ:S3:=Zx (aD 1<|Zr KZ mS)<|Zx (aD 2<|Zr K1 lr)<|Zx (aD 3<|Zr KR ny)<|Zx (aD 4<|Zr RL<|Za (Zc 3)<|Za (Zr Gq kL)<|Za (eC<|.int 150) Ze)<|Zx (aQ (e1 jj<|Zr Sd<|Za (Zc 3)<|Za (Zr Gq kL) nt) (aP<|eC<|.bl false) cG)<|Zx (aQ (e1 jj<|Zr sO kR) (aP<|e2 Fd (Zr Cj<|Za (Zc 1)<|Za (Zc 2)<|Za (eC<|.int 150) Ze)<|eC .Z) cG)<|Zx (aD 5<|e2 jD mw nN)<|Zx (aD 6<|Zr Cj<|Za (Zc 1)<|Za (Zc 2)<|Za (Zc 5) Ze)<|Zx (aQ (jO (e1 jj<|Zr R_ nB)<|e2 RK (Zc 6)<|aR<|Za (Zr RM kR)<|Za (Zc 5) Ze) (aP<|eC<|.bl false) cG)<|aP<|jO (e2 bJ (Zc 5) nL)<|e2 Fd (Zr Cj<|Za (Zc 1)<|Za (Zc 2)<|Za lI Ze)<|eC .Z
def Zr2:F3:=aK 1 7 HQ
end
end Law
namespace Law
open PySem PySem.Spec PyProof.Rows L2 L3
def cN{N P:oB}{sc:Scope}(a:sc.kind= .function:=by rfl)(b:sc.isCoroutine=false:=by rfl)(c:sc.isGenerator=false:=by rfl)(d:N.Nodup:=by decide +kernel)(e:N.take (b9 P)=P:=by rfl)(f:∀x∈P,sc.names.lookup x=O .local\/sc.names.lookup x=O .cell:=by decide +kernel)(g:∀y∈sc.names,y.2≠ .free:=by decide +kernel):bZ N P sc:=⟨a,b,c,d,e,f,g⟩
def top(i:Nat):Ye1:=PySem.Challenge.pw_stepledger_k74_whole_told_ahead.main.body.getD i<|.Pass ⟨0,0,0,0⟩
abbrev K3:=top 5
abbrev K4:=top 6
abbrev K5:=top 7
abbrev K6:=top 8
abbrev K7:=top 9
abbrev K8:=top 10
abbrev K9:=top 11
abbrev K_:=top 12
abbrev La:=top 13
abbrev uJ:=top 14
abbrev Lb:=top 15
abbrev Ld:=top 16
abbrev Le:=top 19
abbrev Lf:=top 20
abbrev uK:=top 23
abbrev Lg:=top 24
abbrev Lh:=top 28
abbrev Gu:=top 29
abbrev Gv:=top 30
abbrev Li:=top 31
abbrev Lj:=top 34
abbrev Lk:=top 35
abbrev Ln:=top 36
abbrev Lp:=top 37
abbrev Lq:=top 38
abbrev Lr:=top 39
abbrev Gw:=top 40
abbrev Gx:=top 41
abbrev Gy:=top 42
abbrev Gz:=top 43
abbrev Ls:=top 45
abbrev Lw:=top 46
abbrev Lx:=top 47
abbrev Ly:=top 48
abbrev Lz:=top 49
abbrev LC:=top 50
abbrev LK:=top 51
abbrev LQ:=top 52
abbrev LR:=top 53
abbrev L_:=top 54
abbrev Ma:=top 55
abbrev Mf:=top 56
abbrev Mg:=top 57
abbrev wF:=top 58
abbrev Sg:=(yS<|top 22).getD 0<|.Pass ⟨0,0,0,0⟩
abbrev Sh:=(yS<|top 22).getD 1<|.Pass ⟨0,0,0,0⟩
abbrev Mh:=(yS<|top 22).getD 2<|.Pass ⟨0,0,0,0⟩
abbrev Sq:=(yS<|top 22).getD 3<|.Pass ⟨0,0,0,0⟩
abbrev Mi:=(yS<|top 22).getD 4<|.Pass ⟨0,0,0,0⟩
abbrev Mj:=(yS<|top 22).getD 5<|.Pass ⟨0,0,0,0⟩
abbrev Ml:=(yS<|top 22).getD 6<|.Pass ⟨0,0,0,0⟩
abbrev Mm:=(yS<|top 22).getD 7<|.Pass ⟨0,0,0,0⟩
structure Cm(K:vg)(mg:ak->oo)(C:Ys):Prop where
  ok:yR K n4 C
  mg:mg "Walk" =O (.ref C)
  UV:pJ K C (nm AB)
  m4:pJ K C (nm A1)
  UW:pJ K C (nm AA)
  Ux:pJ K C (nm AD)
  HF:pJ K C (nm xE)
structure Ss(K:vg)(mg:ak->oo)(j9 iI fY:Ys):Prop where
  Ag4:mg "LedgerError" =O (.ref j9)
  Acl:mg "BadGiven" =O (.ref iI)
  m5:mg "Spent" =O (.ref fY)
  AcK:FK K D3 iI
  Adq:FK K ze fY
  Ads:∀c C,([ze]:k9).contains c=true->ClsAt K c C->Vn K (.ref C) (.ref fY)=O true
structure Txt(K:vg)(mg:ak->oo):Prop where
  vR:True
  AdC:mg "bool" =Yj
  m7:mg "dict" =Yj
  Nv:mg "enumerate" =Yj
  Dr:mg "int" =Yj
  zJ:mg "isinstance" =Yj
  AdK:mg "len" =Yj
  m8:mg "list" =Yj
  AdL:mg "max" =Yj
  U0:mg "range" =Yj
  qm:mg "tuple" =Yj
  AdM:mg "zip" =Yj
  Dq:∃t,mg "BOXES" =O (.int 8 t)
  uY:∃t,mg "NAME_BOX" =O (.int 7 t)
  Adt:∃a,mg "PARTS" =O (.ref a)/\Gj K a wC
  Adu:∃a,mg "WORDS" =O (.ref a)/\Ko K (sJ.map λy=>(⟨pd y⟩:ak)) (.ref a)=true
variable{pos:aZ}{X:Cx}
def ZvL(T:Txt X.K X.mg)(hg:Gl X "BOXES":=by rfl):C3 X (.Name "BOXES" pos) Dq:=by let⟨t,e⟩:=T.Dq;exact YB (v:=.int 8) e ⟨t,rfl⟩ (λ_ _=>i0.int) hg
def Su(T:Txt X.K X.mg)(hg:Gl X "NAME_BOX":=by rfl):C3 X (.Name "NAME_BOX" pos) uY:=by let⟨t,e⟩:=T.uY;exact YB (v:=.int 7) e ⟨t,rfl⟩ (λ_ _=>i0.int) hg
def ZqG{e e':Expr}{uu n5 i9:aZ}{g g':E3}(T:Txt X.K X.mg)(he:C3 X e g)(y4:C3 X e' g')(m:M2 X (.Name "PARTS" uu) "get" n5 e e' i9:=by exact⟨rfl,rfl,rfl,rfl⟩)(hg:Gl X "PARTS":=by rfl):C3 X (.Call (.Attribute (.Name "PARTS" uu) "get" n5) [e,e'] [] i9) (e2 (FP wC) g g'):=by let⟨a,hm,ht⟩:=T.Adt;exact ZwY hm ht he y4 m hg
def Zuf(T:Txt X.K X.mg)(hg:Gl X "WORDS":=by rfl):C3 X (.Name "WORDS" pos) Ku:=by let⟨a,hm,ht⟩:=T.Adu;exact Zw0 hm ht hg
variable{aM:Ys}
section
def fW{e:Expr}{p:aZ}{f:E3}(T:Txt X.K X.mg)(h:C3 X e f)(hg:Gl X "len":=by rfl)(he:Y1 [e] X.env=(false,aU e X.env)::Y1 [] X.env:=by rfl):C3 X (.Call (.Name "len" p) [e] [] pos) (aL a_<|Za f Ze):=WU (id:="len") AfA T.AdK ZzU (Zb h Zf he) hg aaE aaE he aaD
variable (P:Y8) (w:aX) {K:vg} {mg:ak->oo} (base:aF)
def Zl8:bZ By By (Zq K3):=cN
def Zmj(A:cH K mg "first_state" K3 By)(T:Txt K mg):au P w K mg base 1 "first_state" By uF:=au.of A Zl8 λ_ _ _ _ _ _ _ hr=>by unfold GU;exact Zo<|bD<|cL<|Zb Zh<|Zb (nF (T:="tuple") sy T.qm sE<|Zb (Zd 0) Zf)<|Zb (cL Zf) Zf
def ZmA:bZ CB CB (Zq K5):=cN
def ZmI(A:cH K mg "next_place" K5 CB)(T:Txt K mg):au P w K mg base 1 "next_place" CB Kv:=au.of A ZmA λ_ _ _ _ _ _ _ hr=>by have hu:=fu hr;unfold eP;exact Zi (dG (cg (dR hu) (Zv Zw (Zd 0) Zh) bN) (Zo<|bD<|Zv Zw (Zd 0) Zh) d9)<|Zi (dG (CW.ct<|FT (cg (dR hu) (Zv Zw (Zd 0) Zh) bN)<|J3<|cg ut (Zv Zw (Zd 2)<|Zv Zw (Zd 0) Zh) Zh) (Zo<|bD<|Zv Zw (Zd 0) Zh) d9)<|Zo<|bD<|Zt bL (Zd 1) Zh
def ZtC:bZ Bz Bz (Zq K7):=cN
def ZtH(A:cH K mg "worked" K7 Bz)(T:Txt K mg):au P w K mg base 1 "worked" Bz oV:=au.of A ZtC λ_ _ _ _ _ _ _ hr=>by have hu:=fu hr;unfold Gn;exact Zi (dG (cg (dR hu) (Zd 0) bN) (Zo<|bD<|Zt bL (Zd 1)<|Zd 2) d9)<|Zi (dG (cg (dR hu) (Zd 0) bN) (Zo<|bD<|Zt ur (Zd 1)<|Zd 2) d9)<|Zo<|bD<|Q6 (cg ut (Zd 1)<|Zd 2) Zh Zh
def Zph:bZ CC CC (Zq K9):=cN
def ZoJ(A:cH K mg "with_box" K9 CC)(T:Txt K mg):au P w K mg base 1 "with_box" CC yZ:=au.of A Zph λ_ _ _ _ _ _ _ hr=>by unfold k8;exact Zo<|bD<|Zt bL (Zt bL (Bq Bv (Zd 0) Bo<|Bp<|Zd 1)<|cL<|Zb (Zd 2) Zf)<|Bq Bv (Zd 0) (Bp<|Zt bL (Zd 1) Zh) Bo
def ZmB:bZ CD CD (Zq K_):=cN
def Zml(A:cH K mg "cell_value" K_ CD)(T:Txt K mg):au P w K mg base 1 "cell_value" CD Kw:=au.of A ZmB λ_ _ _ _ _ _ _ hr=>by have hu:=fu hr;unfold n8;exact Zo<|bD<|Z4 hu (nF (T:="dict") (Zy7 aaD) T.m7 ZN<|Zb (Zd 0) Zf) (Zd 1) Zh
def m9:bZ ["row","boxes","cells","name"] zh (Zq K6):=cN
def ZmP(A:cH K mg "next_boxes" K6 zh)(T:Txt K mg)(Dp:au P w K mg base 1 "worked" Bz oV)(HB:au P w K mg base 1 "with_box" CC yZ)(Uj:au P w K mg base 1 "cell_value" CD Kw):au P w K mg base 2 "next_boxes" zh Ky:=au.of A m9 λ_ _ _ _ _ _ _ hr=>by have hu:=fu hr;unfold GV;exact Zi (bG 3 m9.nd<|Zv Zw (Zd 0) Zh)<|Zi (dG (cg (dR hu) (Zd 3) bN) (Zo<|bD<|aW HB (hr.mono aaE)<|Zb (Zd 1)<|Zb (Zv Zw (Zd 0) Zh)<|Zb (Zv Zw (Zd 0) Zh) Zf) d9)<|Zi (dG (cg (dR hu) (Zd 3) bN) (Zo<|bD<|aW HB (hr.mono aaE)<|Zb (Zd 1)<|Zb (Zv Zw (Zd 0) Zh)<|Zb (aW Uj (hr.mono aaE)<|Zb (Zd 2)<|Zb (Zv Zw (Zd 1)<|Zv Zw (Zd 0) Zh) Zf) Zf) d9)<|Zi (dG (cg (Afx hu) (Zd 3)<|cL<|Zb bN<|Zb bN<|Zb bN Zf) (Zo<|bD<|aW HB (hr.mono aaE)<|Zb (Zd 1)<|Zb (Zv Zw (Zd 0) Zh)<|Zb (aW Dp (hr.mono aaE)<|Zb (Zd 3)<|Zb (Zv Zw (Zd 1)<|Zv Zw (Zd 0) Zh)<|Zb (Zv Zw (Zd 1)<|Zv Zw (Zd 0) Zh) Zf) Zf) d9)<|Zo<|bD<|Zd 1
def Sv:bZ ["cells","number","value","below","above","here"] D4 (Zq La):=cN
def Zou(A:cH K mg "with_cell" La D4)(T:Txt K mg):au P w K mg base 1 "with_cell" D4 Gp:=au.of A Sv λ_ _ _ _ _ _ _ hr=>by have hu:=fu hr;unfold su;exact Zi (Rj (N':=D5) 3 (BJ aaD aaH) aaD aaD Sv.nd (pZ<|Zd 0) λC cl s H ex=>⟨(mD 6<|(show vL (D5:oB)by decide +kernel)),(X1<|cg J5 (Zv Zw (Zd 6) Zh)<|Zd 1),(Zd 6)⟩) (Zi (Rj (N':=D5) 4 (BJ aaD aaH) aaD aaD Sv.nd (pZ<|Zd 0) λC cl s H ex=>⟨(mD 6<|(show vL (D5:oB)by decide +kernel)),(X1<|cg ut (Zv Zw (Zd 6) Zh)<|Zd 1),(Zd 6)⟩)<|Zi (bG 5 Sv.nd<|Q6 (cg (Kd hu) (Zd 2) Zh) (cU<|Zb (cL<|Zb (Zd 1)<|Zb (Zd 2) Zf) Zf)<|cU Zf)<|Zo<|bD<|nF (T:="tuple") sy T.qm sE<|Zb (Zt bL (Zt bL (Zd 3)<|Zd 5)<|Zd 4) Zf)
def Zmn:bZ zh zh (Zq K8):=cN
def ZmD(A:cH K mg "next_cells" K8 zh)(T:Txt K mg)(Us:au P w K mg base 1 "with_cell" D4 Gp):au P w K mg base 2 "next_cells" zh Kz:=au.of A Zmn λ_ _ _ _ _ _ _ hr=>by have hu:=fu hr;unfold GW;exact Zi (dG (cg (dR hu) (Zv Zw (Zd 0) Zh) bN) (Zo<|bD<|aW Us (hr.mono aaE)<|Zb (Zd 2)<|Zb (Zv Zw (Zd 1)<|Zv Zw (Zd 0) Zh)<|Zb (Zv Zw (Zd 1)<|Zv Zw (Zd 0) Zh) Zf) d9)<|Zo<|bD<|Zd 2
def Mp:bZ ["roll","state","place","boxes","cells","row"] CF (Zq K4):=cN
def Zmy(A:cH K mg "next_state" K4 CF)(T:Txt K mg)(Uk:au P w K mg base 1 "next_place" CB Kv)(Ul:au P w K mg base 2 "next_boxes" zh Ky)(Um:au P w K mg base 2 "next_cells" zh Kz):au P w K mg base 3 "next_state" CF qP:=au.of A Mp λ_ _ _ _ _ _ _ hr=>by have hu:=fu hr;unfold GY;exact Zi (bG 2 Mp.nd<|Zv Zw (Zd 1) Zh)<|Zi (bG 3 Mp.nd<|Zv Zw (Zd 1) Zh)<|Zi (bG 4 Mp.nd<|Zv Zw (Zd 1) Zh)<|Zi (bG 5 Mp.nd<|Zv Zw (Zd 0)<|Zd 2)<|Zi (dG (cg (dR hu) (Zv Zw (Zd 5) Zh) bN) (Zo<|bD wg) d9)<|Zo<|bD<|cL<|Zb (aW Uk (hr.mono aaE)<|Zb (Zd 5)<|Zb (Zd 2)<|Zb (Zd 3) Zf)<|Zb (aW Ul (hr.mono aaE)<|Zb (Zd 5)<|Zb (Zd 3)<|Zb (Zd 4) Zf)<|Zb (aW Um (hr.mono aaE)<|Zb (Zd 5)<|Zb (Zd 3)<|Zb (Zd 4) Zf) Zf
def a9:bZ ["roll","states","last"] yn (Zq Ld):=cN
def Zwj(A:cH K mg "ended" Ld yn)(T:Txt K mg):au P w K mg base 1 "ended" yn sO:=au.of A a9 λ_ _ _ _ _ _ _ hr=>by have hu:=fu hr;unfold f6;exact Zi (bG 2 a9.nd<|Zv Zw (Zd 1)<|oN oO Zh)<|Zo<|bD<|yJ (dR hu) (Zv Zw (Zv Zw (Zd 0)<|Zv Zw (Zd 2) Zh) Zh) bN
def Zui:bZ ["roll","boxes","most","states"] CH (Zq uJ):=cN
def ZyZ(A:cH K mg "run" uJ CH)(T:Txt K mg)(Dj:au P w K mg base 1 "first_state" By uF)(zK:au P w K mg base 3 "next_state" CF qP)(u6:au P w K mg base 1 "ended" yn sO):au P w K mg base 4 "run" CH RL:=au.of A Zui λ_ _ _ _ _ _ _ hr=>by unfold f7;exact Zi (bG 3 Zui.nd<|cU<|Zb (aW Dj (hr.mono aaE)<|Zb (Zd 1) Zf) Zf)<|Zi (YJ aaD (CW.ct<|FT (cg Afn (fW T<|Zd 3)<|Zd 2)<|J3<|wj<|rZ<|aW u6 (hr.mono aaE)<|Zb (Zd 0)<|Zb (Zd 3) Zf)<|Zo<|gO<|jV (Zd 3)<|Zb (aW zK (hr.mono aaE)<|Zb (Zd 0)<|Zb (Zv Zw (Zd 3)<|oN oO Zh) Zf) Zf)<|Zo<|bD<|Zd 3
def Sw:bZ ["roll","states","numbers","state","row"] yn (Zq Lb):=cN
def ZwZ(A:cH K mg "told" Lb yn)(T:Txt K mg):au P w K mg base 1 "told" yn RM:=au.of A Sw λ_ _ _ _ _ _ _ hr=>by have hu:=fu hr;unfold G0;exact Zi (bG 2 Sw.nd<|cU Zf)<|Zi (yL aaD aaD (pZ<|Bq Bv (Zd 1) Bo<|Bp<|oN oO Zh) (mD 3 Sw.nd)<|Zi (bG 4 Sw.nd<|Zv Zw (Zd 0)<|Zv Zw (Zd 3) Zh)<|Zo<|dG (cg (dR hu) (Zv Zw (Zd 4) Zh) bN) (Zo<|gO<|jV (Zd 2)<|Zb (Zv Zw (Zv Zw (Zd 3) Zh)<|Zv Zw (Zd 4) Zh) Zf) d9)<|Zo<|bD<|Zd 2
def GC:bZ ["words","sums","lacking","word"] yv (Zq Le):=cN
def ZqT(A:cH K mg "sums_in" Le yv)(T:Txt K mg):au P w K mg base 1 "sums_in" yv KC:=au.of A GC λ_ _ _ _ _ _ _ hr=>by have hu:=fu hr;unfold G1;exact Zi (bG 1 GC.nd<|cU Zf) (Zi (bG 2 GC.nd Zh)<|Zi (yL aaD aaD (pZ<|Zd 0) (mD 3 GC.nd)<|Zi (dG (cg (dR hu) (Zd 2) Zh) (Zi (gO<|jV (Zd 1)<|Zb (cU Zf) Zf)<|Zo<|bG 2 GC.nd Zh) d9)<|Zi (gO<|jV (Zv Zw (Zd 1)<|oN oO Zh)<|Zb (Zd 3) Zf)<|Zo<|bG 2 GC.nd<|Zt bL (Zt ur (Zd 2) Zh)<|ZqG T (Zd 3) Zh)<|Zo<|bD<|Q6 (cg (dR hu) (Zd 2) Zh) (YR (N':=lL) (BJ aaD aaH) aaD aaD (pZ<|Zd 1) λC cl s H ex=>⟨(mD 4<|(show vL (lL:oB)by decide +kernel)),Rg,(nF (T:="tuple") sy T.qm sE<|Zb (Zd 4) Zf)⟩) wg)
def ZpS:bZ yv yv (Zq Lf):=cN
def Zpu(A:cH K mg "parts_of" Lf yv)(T:Txt K mg)(Uy:au P w K mg base 1 "sums_in" yv KC):au P w K mg base 2 "parts_of" yv wD:=au.of A ZpS λ_ _ _ _ _ _ _ hr=>by unfold Ha;exact Zo<|bD<|aW Uy (hr.mono aaE)<|Zb (Bq Bv (Zd 0) (Bp Zh) Bo) Zf
def Zj9:bZ BA BA (Zq Sg):=cN
def Zkr(bB:Cm K mg aM)(A:Z_ K aM "Walk.__init__" Sg BA)(T:Txt K mg):Gg P w K mg base 1 aM BA Cd:=Gg.of A Zj9 λ_ _ _ _ _ _ _ hr=>by unfold Hb;exact Zi (Gf (C:=aM) (c:=n4) (m:=AA) bB.ok bB.UW (Zd 0)<|Zd 1)<|Zi (Gf (C:=aM) (c:=n4) (m:=AB) bB.ok bB.UV (Zd 0) ZY)<|Zi (Gf (C:=aM) (c:=n4) (m:=AD) bB.ok bB.Ux (Zd 0)<|cU Zf)<|Zi (Gf (C:=aM) (c:=n4) (m:=xE) bB.ok bB.HF (Zd 0) Zh)<|Zo<|Gf (C:=aM) (c:=n4) (m:=A1) bB.ok bB.m4 (Zd 0)<|Zd 2
def Zmv:bZ sQ sQ (Zq Sh):=cN
def Zmo(bB:Cm K mg aM)(A:oR K aM "spend" "Walk.spend" Sh sQ)(T:Txt K mg){j9 iI fY:Ys}(XO:Ss K mg j9 iI fY):eX P w K mg base 1 aM "spend" sQ iG:=eX.of A Zmv λ_ _ _ _ _ _ _ hr=>by unfold RN;exact jx (yW<|Gf (C:=aM) (c:=n4) (m:=xE) bB.ok bB.HF (Zd 0)<|Zt bL (uw (C:=aM) (c:=n4) (m:=xE) bB.ok bB.HF<|Zd 0)<|Zd 1)<|iu<|wB (cg ut (uw (C:=aM) (c:=n4) (m:=xE) bB.ok bB.HF<|Zd 0)<|uw (C:=aM) (c:=n4) (m:=A1) bB.ok bB.m4<|Zd 0) (iu<|σ8 (C:=fY) XO.Adq XO.m5<|Zb bN Zf)<|Kg d9
def HR:bZ ["self","words","parts"] tF (Zq Mh):=cN
def Zjq(bB:Cm K mg aM)(Dp:au P w K mg base 1 "worked" Bz oV)(Dm:au P w K mg base 2 "parts_of" yv wD)(jA:eX P w K mg base 1 aM "spend" sQ iG)(Aai:oR K aM "value_of" "Walk.value_of" Mh tF)(T:Txt K mg):∀n:Nat,eX P w K mg base (n+3) aM "value_of" tF<|RP n 0:=by
  intro n
  induction n with
  |zero=>exact eX.of Aai HR λf oj A outer s H E hr=>Kr|succ n IH=>
    have Abq:=IH
    · refine(eX.of (k:=n+3) Aai HR λf oj A outer s H E hr=>?_).mono c8
      have hu:=fu hr;unfold y_;exact jx (ZtI (N':=wc) 2 (BJ aaD aaH) aaD HR.nd (pZ<|aW Dm (hr.mono c8)<|Zb (Zd 1) Zf) λC cl s H ex E=>⟨(mD 3<|(show vL (wc:oB)by decide +kernel)),(iw (C:=aM) (c:=n4) (m:=wd) (k:=n+3) (ps:=tF) bB.ok Abq hr (Zd 0)<|Zb (Zd 3) Zf)⟩)<|jx (wB (cg (dR hu) (fW T<|Zd 2) Zh) (jx (jG<|iw (C:=aM) (c:=n4) (m:=r6) (k:=1) (ps:=sQ) bB.ok jA (hr.mono c8) (Zd 0)<|Zb Zh Zf)<|iu<|yW<|bD<|aW Dp (hr.mono c8)<|Zb (Zv Zw (Zd 1) Zh)<|Zb (Zv Zw (Zd 2) Zh)<|Zb (Zv Zw (Zd 2) Zh) Zf)<|Kg d9)<|jx (wB (cg (dR hu) (fW T<|Zd 2) Zh) (jx (jG<|iw (C:=aM) (c:=n4) (m:=r6) (k:=1) (ps:=sQ) bB.ok jA (hr.mono c8) (Zd 0)<|Zb Zh Zf)<|iu<|yW<|bD<|Z4 hu (uw (C:=aM) (c:=n4) (m:=AB) bB.ok bB.UV<|Zd 0) (Zv Zw (Zd 2) Zh) Zh)<|Kg d9)<|jx (wB (rZ<|Bx .int T.zJ T.Dr<|Zv Zw (Zd 1) Zh) (jx (jG<|iw (C:=aM) (c:=n4) (m:=r6) (k:=1) (ps:=sQ) bB.ok jA (hr.mono c8) (Zd 0)<|Zb Zh Zf)<|iu<|yW<|bD<|Zv Zw (Zd 1) Zh)<|Kg d9)<|jx (jG<|iw (C:=aM) (c:=n4) (m:=r6) (k:=1) (ps:=sQ) bB.ok jA (hr.mono c8) (Zd 0)<|Zb Zh Zf)<|iu<|yW<|bD<|Z4 hu (uw (C:=aM) (c:=n4) (m:=AA) bB.ok bB.UW<|Zd 0) (Zv Zw (Zd 1) Zh) Zh
def ZgF:bZ ["self","words","value"] tF (Zq Sq):=cN
def Zkb(bB:Cm K mg aM)(A:oR K aM "is_above" "Walk.is_above" Sq tF)(T:Txt K mg)(jA:eX P w K mg base 1 aM "spend" sQ iG)(tK:eX P w K mg base 16 aM "value_of" tF uG):eX P w K mg base 17 aM "is_above" tF Ce:=eX.of A ZgF λ_ _ _ _ _ _ _ hr=>by unfold KD;exact jx (FG 2 ZgF.nd<|iw (C:=aM) (c:=n4) (m:=wd) (k:=16) (ps:=tF) bB.ok tK (hr.mono aaE) (Zd 0)<|Zb (Zd 1) Zf)<|jx (jG<|iw (C:=aM) (c:=n4) (m:=r6) (k:=1) (ps:=sQ) bB.ok jA (hr.mono aaE) (Zd 0)<|Zb Zh Zf)<|iu<|yW<|bD<|yJ ut (Zd 2) Zh
def ZhR:bZ tT tT (Zq Mm):=cN
def HU:bZ ["self","deed","number"] tT (Zq Mj):=cN
def ZhV:bZ tT tT (Zq Ml):=cN
def HV:bZ ["self","deeds","deed"] zi (Zq Mi):=cN
def ZiD(bB:Cm K mg aM)(Hy:eX P w K mg base 17 aM "is_above" tF Ce)(jA:eX P w K mg base 1 aM "spend" sQ iG)(tK:eX P w K mg base 16 aM "value_of" tF uG)(Aac:oR K aM "go_through" "Walk.go_through" Mi zi)(Aal:oR K aM "do_deed" "Walk.do_deed" Mj tT)(Aao:oR K aM "choose" "Walk.choose" Ml tT)(Aap:oR K aM "repeat" "Walk.repeat" Mm tT)(T:Txt K mg):∀n:Nat,eX P w K mg base (n+18) aM "go_through" zi (Zn n 0)/\eX P w K mg base (n+18) aM "do_deed" tT (Zn n 1)/\eX P w K mg base (n+18) aM "choose" tT (Zn n 2)/\eX P w K mg base (n+18) aM "repeat" tT (Zn n 3):=by
  intro n
  induction n with
  |zero=>exact⟨eX.of Aac HV λf oj A outer s H E hr=>Kr,eX.of Aal HU λf oj A outer s H E hr=>Kr,eX.of Aao ZhV λf oj A outer s H E hr=>Kr,eX.of Aap ZhR λf oj A outer s H E hr=>Kr⟩|succ n IH=>
    let⟨T9,Abt,AbA,AbB⟩:=IH;refine⟨?_,?_,?_,?_⟩
    · refine(eX.of (k:=n+18) Aac HV λf oj A outer s H E hr=>?_).mono c8
      have hu:=fu hr;unfold RT;exact iu<|ZxK P6 aaD (pZ<|Zd 1) (mD 2 HV.nd)<|iu<|jG<|iw (C:=aM) (c:=n4) (m:=GS) (k:=n+18) (ps:=tT) bB.ok Abt hr (Zd 0)<|Zb (Zd 2) Zf
    · refine(eX.of (k:=n+18) Aal HU λf oj A outer s H E hr=>?_).mono c8
      have hu:=fu hr;unfold oW;exact iu<|wB (cg (dR hu) (Zv Zw (Zd 1) Zh) bN) (iu<|jG<|iw (C:=aM) (c:=n4) (m:=[99,104,111,111,115,101]) (k:=n+18) (ps:=tT) bB.ok AbA hr (Zd 0)<|Zb (Zd 1) Zf)<|iu<|wB (cg (dR hu) (Zv Zw (Zd 1) Zh) bN) (iu<|jG<|iw (C:=aM) (c:=n4) (m:=[114,101,112,101,97,116]) (k:=n+18) (ps:=tT) bB.ok AbB hr (Zd 0)<|Zb (Zd 1) Zf)<|iu<|wB (cg (dR hu) (Zv Zw (Zd 1) Zh) bN) (jx (FG 2 HU.nd<|iw (C:=aM) (c:=n4) (m:=wd) (k:=16) (ps:=tF) bB.ok tK (hr.mono c8) (Zd 0)<|Zb (Zv Zw (Zd 1) Zh) Zf)<|jx (ni hu (uw (C:=aM) (c:=n4) (m:=AB) bB.ok bB.UV<|Zd 0) (Zd 2)<|iw (C:=aM) (c:=n4) (m:=wd) (k:=16) (ps:=tF) bB.ok tK (hr.mono c8) (Zd 0)<|Zb (Zv Zw (Zd 1) Zh) Zf)<|iu<|jG<|iw (C:=aM) (c:=n4) (m:=r6) (k:=1) (ps:=sQ) bB.ok jA (hr.mono c8) (Zd 0)<|Zb Zh Zf)<|iu<|wB (cg (dR hu) (Zv Zw (Zd 1) Zh) bN) (jx (ni hu (uw (C:=aM) (c:=n4) (m:=AA) bB.ok bB.UW<|Zd 0) (Zv Zw (Zd 1) Zh)<|iw (C:=aM) (c:=n4) (m:=wd) (k:=16) (ps:=tF) bB.ok tK (hr.mono c8) (Zd 0)<|Zb (Zv Zw (Zd 1) Zh) Zf)<|iu<|jG<|iw (C:=aM) (c:=n4) (m:=r6) (k:=1) (ps:=sQ) bB.ok jA (hr.mono c8) (Zd 0)<|Zb Zh Zf)<|jx (jG<|AfR (uw (C:=aM) (c:=n4) (m:=AD) bB.ok bB.Ux<|Zd 0)<|iw (C:=aM) (c:=n4) (m:=wd) (k:=16) (ps:=tF) bB.ok tK (hr.mono c8) (Zd 0)<|Zb (Zv Zw (Zd 1) Zh) Zf)<|iu<|jG<|iw (C:=aM) (c:=n4) (m:=r6) (k:=1) (ps:=sQ) bB.ok jA (hr.mono c8) (Zd 0)<|Zb Zh Zf
    · refine(eX.of (k:=n+18) Aao ZhV λf oj A outer s H E hr=>?_).mono c8
      have hu:=fu hr;unfold KH;exact iu<|Zwy (iw (C:=aM) (c:=n4) (m:=Ct) (k:=17) (ps:=tF) bB.ok Hy (hr.mono c8) (Zd 0)<|Zb (Zv Zw (Zd 1) Zh) Zf) (iu<|jG<|iw (C:=aM) (c:=n4) (m:=zg) (k:=n+18) (ps:=zi) bB.ok T9 hr (Zd 0)<|Zb (Zv Zw (Zd 1) Zh) Zf)<|jx (jG<|iw (C:=aM) (c:=n4) (m:=zg) (k:=n+18) (ps:=zi) bB.ok T9 hr (Zd 0)<|Zb (Zv Zw (Zd 1) Zh) Zf)<|iu<|jG<|iw (C:=aM) (c:=n4) (m:=r6) (k:=1) (ps:=sQ) bB.ok jA (hr.mono c8) (Zd 0)<|Zb Zh Zf
    · refine(eX.of (k:=n+18) Aap ZhR λf oj A outer s H E hr=>?_).mono c8
      have hu:=fu hr;unfold RQ;exact jx (Zqc P6 (iw (C:=aM) (c:=n4) (m:=Ct) (k:=17) (ps:=tF) bB.ok Hy (hr.mono c8) (Zd 0)<|Zb (Zv Zw (Zd 1) Zh) Zf)<|jx (jG<|iw (C:=aM) (c:=n4) (m:=zg) (k:=n+18) (ps:=zi) bB.ok T9 hr (Zd 0)<|Zb (Zv Zw (Zd 1) Zh) Zf)<|iu<|jG<|iw (C:=aM) (c:=n4) (m:=r6) (k:=1) (ps:=sQ) bB.ok jA (hr.mono c8) (Zd 0)<|Zb Zh Zf)<|iu<|jG<|iw (C:=aM) (c:=n4) (m:=r6) (k:=1) (ps:=sQ) bB.ok jA (hr.mono c8) (Zd 0)<|Zb Zh Zf
def ZiB:bZ xI xI (Zq Lg):=cN
def ZiE(A:cH K mg "refuse_bad_given" Lg xI)(T:Txt K mg){j9 iI fY:Ys}(XO:Ss K mg j9 iI fY):sI P w K mg base 1 "refuse_bad_given" xI Cg:=sI.of A ZiB λ_ _ _ _ _ _ _ hr=>by have hu:=fu hr;unfold Hc;exact iu<|wB (cg (Kd hu) (fW T<|Zd 1)<|fW T<|Zv Zw (Zd 0) Zh) (iu<|σ8 (C:=iI) XO.AcK XO.Acl<|Zb bN Zf)<|Kg d9
def Zlu:bZ ["program","given","most","walk"] CL (Zq uK):=cN
def Zq3(A:cH K mg "meaning" uK CL)(T:Txt K mg)(bB:Cm K mg aM)(Ub:Gg P w K mg base 1 aM BA Cd)(Nr:eX P w K mg base 31 aM "go_through" zi RV)(jA:eX P w K mg base 1 aM "spend" sQ iG)(Nq:sI P w K mg base 1 "refuse_bad_given" xI Cg):sI P w K mg base 32 "meaning" CL Ci:=sI.of A Zlu λ_ _ _ _ _ _ _ hr=>by unfold KJ;exact jx (jG<|hJ Nq (hr.mono aaE)<|Zb (Zd 0)<|Zb (Zd 1) Zf)<|jx (yW<|bG 3 Zlu.nd<|AfJ (C:=aM) (c:=n4) (k:=1) (ps:=BA) bB.ok Ub bB.mg (hr.mono aaE)<|Zb (Zte aaD T.AdM T.m7 (Zv Zw (Zd 0) Zh)<|Zd 1)<|Zb (Zd 2) Zf)<|jx (jG<|iw (C:=aM) (c:=n4) (m:=r6) (k:=1) (ps:=sQ) bB.ok jA (hr.mono aaE) (Zd 3)<|Zb (Zt qN Zh<|fW T<|Zd 1) Zf)<|jx (jG<|iw (C:=aM) (c:=n4) (m:=zg) (k:=31) (ps:=zi) bB.ok Nr (hr.mono aaE) (Zd 3)<|Zb (Zv Zw (Zd 0) Zh) Zf)<|iu<|yW<|bD<|cL<|Zb (uw (C:=aM) (c:=n4) (m:=AD) bB.ok bB.Ux<|Zd 3)<|Zb (uw (C:=aM) (c:=n4) (m:=xE) bB.ok bB.HF<|Zd 3) Zf
def Sx:bZ ["deed","first","second"] ["deed"] (Zq Gv):=cN
def Sy:bZ ["deeds","rows","deed"] CM (Zq Gu):=cN
def ZgQ(Aaa:cH K mg "text_rows_of_deeds" Gu CM)(Aab:cH K mg "text_rows_of_deed" Gv ["deed"])(T:Txt K mg):∀n:Nat,au P w K mg base (n+1) "text_rows_of_deeds" CM (sS n 0)/\au P w K mg base (n+1) "text_rows_of_deed" ["deed"] (sS n 1):=by
  intro n
  induction n with
  |zero=>exact⟨au.of Aaa Sy λf oj A outer s H E hr=>BP,au.of Aab Sx λf oj A outer s H E hr=>BP⟩|succ n IH=>
    let⟨T7,Abl⟩:=IH;refine⟨?_,?_⟩
    · refine(au.of (k:=n+1) Aaa Sy λf oj A outer s H E hr=>?_).mono c8
      have hu:=fu hr;unfold f9;exact Zi (bG 1 Sy.nd<|cU Zf)<|Zi (yL aaD aaD (pZ<|Zd 0) (mD 2 Sy.nd)<|Zo<|gO<|Kf (Zd 1)<|Zb (aW Abl hr<|Zb (Zd 2) Zf) Zf)<|Zo<|bD<|Zd 1
    · refine(au.of (k:=n+1) Aab Sx λf oj A outer s H E hr=>?_).mono c8
      have hu:=fu hr;unfold qQ;exact Zi (dG (cg (dR hu) (Zv Zw (Zd 0) Zh) bN) (Zi (bG 1 Sx.nd<|aW T7 hr<|Zb (Zv Zw (Zd 0) Zh) Zf)<|Zi (bG 2 Sx.nd<|aW T7 hr<|Zb (Zv Zw (Zd 0) Zh) Zf)<|Zo<|bD<|Zt bL (Zt bL (Zt bL (Zt bL (cU<|Zb (Zt bL (cL<|Zb bN Zf)<|Zv Zw (Zd 0) Zh) Zf)<|Zd 1)<|cU<|Zb (cL<|Zb bN Zf) Zf)<|Zd 2)<|cU<|Zb (cL<|Zb bN Zf) Zf) d9)<|Zi (dG (cg (dR hu) (Zv Zw (Zd 0) Zh) bN) (Zo<|bD<|Zt bL (Zt bL (cU<|Zb (Zt bL (cL<|Zb bN Zf)<|Zv Zw (Zd 0) Zh) Zf)<|aW T7 hr<|Zb (Zv Zw (Zd 0) Zh) Zf)<|cU<|Zb (cL<|Zb bN Zf) Zf) d9)<|Zi (dG (cg (dR hu) (Zv Zw (Zd 0) Zh) bN) (Zo<|bD<|cU<|Zb (Zt bL (Zt bL (cL<|Zb bN Zf)<|Zv Zw (Zd 0) Zh)<|Zv Zw (Zd 0) Zh) Zf) d9)<|Zo<|bD<|cU<|Zb (Zt bL (Bq Bv (Zd 0) Bo<|Bp<|oN oO Zh)<|Zv Zw (Zd 0)<|oN oO Zh) Zf
def Zjr:bZ ["program","rows"] ub (Zq Lh):=cN
def Zn9(A:cH K mg "text_rows" Lh ub)(T:Txt K mg)(T8:au P w K mg base 14 "text_rows_of_deeds" CM RW):au P w K mg base 15 "text_rows" ub KN:=au.of A Zjr λ_ _ _ _ _ _ _ hr=>by unfold Hd;exact Zi (bG 1 Zjr.nd<|Q6 (cg ut (fW T<|Zv Zw (Zd 0) Zh) Zh) (cU<|Zb (Zt bL (cL<|Zb bN Zf)<|Zv Zw (Zd 0) Zh) Zf)<|cU Zf)<|Zo<|bD<|Zt bL (Zd 1)<|aW T8 (hr.mono aaE)<|Zb (Zv Zw (Zd 0) Zh) Zf
def SJ:bZ ["program","names","row","word"] ub (Zq Li):=cN
def ZoI(A:cH K mg "names_of" Li ub)(T:Txt K mg)(Ut:au P w K mg base 15 "text_rows" ub KN):au P w K mg base 16 "names_of" ub KQ:=au.of A SJ λ_ _ _ _ _ _ _ hr=>by have hu:=fu hr;unfold He;exact Zi (bG 1 SJ.nd<|nF (T:="list") AfB T.m8 Zw5<|Zb (Zv Zw (Zd 0) Zh) Zf)<|Zi (yL aaD aaD (pZ<|aW Ut (hr.mono aaE)<|Zb (Zd 0) Zf) (mD 2 SJ.nd)<|Zo<|yL aaD aaD (pZ<|Zd 2) (mD 3 SJ.nd)<|Zo<|dG (CW.ct<|FT (wj<|rZ<|Bx .int T.zJ T.Dr<|Zd 3)<|FT (cg (Zxk hu) (Zd 3)<|Zuf T)<|J3<|cg Zv5 (Zd 3)<|Zd 1) (Zo<|gO<|jV (Zd 1)<|Zb (Zd 3) Zf) d9)<|Zo<|bD<|nF (T:="tuple") sy T.qm sE<|Zb (Zd 1) Zf
def ZpI:bZ xI xI (Zq Lj):=cN
def ZpD(A:cH K mg "boxes_of" Lj xI)(T:Txt K mg)(T_:au P w K mg base 1 "refuse_bad_given" xI Cg):au P w K mg base 2 "boxes_of" xI Gq:=au.of A ZpI λ_ _ _ _ _ _ _ hr=>by unfold Hk;exact Zi (gO<|aW T_ (hr.mono aaE)<|Zb (Zd 0)<|Zb (Zd 1) Zf)<|Zo<|bD<|Zt bL (nF (T:="tuple") sy T.qm sE<|Zb (Zd 1) Zf)<|Zt AfU (cL<|Zb Zh Zf)<|Zt ur (ZvL T)<|fW T<|Zd 1
def SM:bZ ["program","cells","number","name"] ub (Zq Ln):=cN
def ZmL(A:cH K mg "name_cells" Ln ub)(T:Txt K mg)(Uv:au P w K mg base 16 "names_of" ub KQ):au P w K mg base 17 "name_cells" ub RX:=au.of A SM λ_ _ _ _ _ _ _ hr=>by have hu:=fu hr;unfold Hm;exact Zi (bG 1 SM.nd ZY)<|Zi (Ro aaD aaD (Rp T.Nv<|aW Uv (hr.mono aaE)<|Zb (Zd 0) Zf) (Q9 aaD<|yK 2 SM.nd<|yK 3 SM.nd Q8)<|Zo<|Zye hu (Zd 1) (Zd 3)<|Zt bL (Zt qN Zh<|Zd 2) Zh)<|Zo<|bD<|Zd 1
def ZkR:bZ BB BB (Zq Lp):=cN
def ZkU(A:cH K mg "rows_to_name" Lp BB)(T:Txt K mg):au P w K mg base 1 "rows_to_name" BB za:=au.of A ZkR λ_ _ _ _ _ _ _ hr=>by have hu:=fu hr;unfold g6;exact Zo<|bD<|cU<|Zb (cL<|Zb bN<|Zb (Su T)<|Zb (vr hu (Zd 2)<|Zd 0) Zf)<|Zb (cL<|Zb bN<|Zb (Su T)<|Zb (Zd 1) Zf) Zf
def Zmz:bZ ["box"] ["box"] (Zq Lr):=cN
def ZmM(A:cH K mg "double_row" Lr ["box"])(T:Txt K mg):au P w K mg base 1 "double_row" ["box"] Gr:=au.of A Zmz λ_ _ _ _ _ _ _ hr=>by unfold g9;exact Zo<|bD<|cL<|Zb bN<|Zb (Zd 0)<|Zb (Zd 0)<|Zb (Zd 0) Zf
def GD:bZ ["words","box","cells","rows","parts","beside","part"] CU (Zq Lq):=cN
def Zmb(A:cH K mg "rows_of_sum" Lq CU)(T:Txt K mg)(Dm:au P w K mg base 2 "parts_of" yv wD)(Dl:au P w K mg base 1 "double_row" ["box"] Gr):au P w K mg base 16 "rows_of_sum" CU uH:=by
  have all:∀n:Nat,au P w K mg base (n+3) "rows_of_sum" CU<|R0 n:=by
    intro n
    induction n with
    |zero=>exact au.of A GD λf oj A outer s H E hr=>BP|succ n IH=>refine(au.of (k:=n+3) A GD λf oj A outer s H E hr=>?_).mono c8;have hu:=fu hr;unfold RZ;exact Zi (bG 3 GD.nd<|cU Zf)<|Zi (bG 4 GD.nd<|aW Dm (hr.mono c8)<|Zb (Zd 0) Zf)<|Zi (Ro aaD aaD (Rp T.Nv<|Zd 4) (Q9 aaD<|yK 5 GD.nd<|yK 6 GD.nd Q8)<|Zo<|gO<|Kf (Zd 3)<|Zb (aW IH hr<|Zb (Zd 6)<|Zb (Zt bL (Zd 1)<|Zd 5)<|Zb (Zd 2) Zf) Zf)<|Zi (dG (cg (dR hu) (fW T<|Zd 4) Zh) (Zo<|bD<|Zt bL (Zd 3)<|cU<|Zb (cL<|Zb (Zv Zw (Zd 0) Zh)<|Zb (Zd 1)<|Zb (Zd 1)<|Zb (Zt bL (Zd 1) Zh) Zf) Zf) d9)<|Zi (dG (cg (dR hu) (fW T<|Zd 4) Zh) (Zo<|bD<|Zt bL (Zd 3)<|cU<|Zb (aW Dl (hr.mono c8)<|Zb (Zd 1) Zf)<|Zb (cL<|Zb bN<|Zb (Zd 1)<|Zb (Zd 1) Zf) Zf) d9)<|Zi (dG (rZ<|Bx .int T.zJ T.Dr<|Zv Zw (Zd 0) Zh) (Zo<|bD<|cU<|Zb (cL<|Zb bN<|Zb (Zd 1)<|Zb (Zv Zw (Zd 0) Zh) Zf) Zf) d9)<|Zo<|bD<|cU<|Zb (cL<|Zb bN<|Zb (Su T)<|Zb (vr hu (Zd 2)<|Zv Zw (Zd 0) Zh) Zf)<|Zb (cL<|Zb bN<|Zb (Zd 1)<|Zb (Su T) Zf) Zf
  exact all 13
def GF:bZ ["deed","begin","cells","asked","inner_begin","inner","behind"] wx (Zq Gz):=cN
def zf:bZ ["deed","begin","cells","asked","second_begin","second","first_begin","first","behind"] wx (Zq Gy):=cN
def HZ:bZ ["deed","begin","cells","number"] wx (Zq Gx):=cN
def SN:bZ ["deeds","begin","cells","rows","deed"] CY (Zq Gw):=cN
def Zjy(Di:au P w K mg base 1 "rows_to_name" BB za)(xg:au P w K mg base 16 "rows_of_sum" CU uH)(Dl:au P w K mg base 1 "double_row" ["box"] Gr)(Aaj:cH K mg "rows_of_deeds" Gw CY)(Aam:cH K mg "rows_of_deed" Gx wx)(Aan:cH K mg "rows_of_when" Gy wx)(Aak:cH K mg "rows_of_while" Gz wx)(T:Txt K mg):∀n:Nat,au P w K mg base (n+17) "rows_of_deeds" CY (nH n 0)/\au P w K mg base (n+17) "rows_of_deed" wx (nH n 1)/\au P w K mg base (n+17) "rows_of_when" wx (nH n 2)/\au P w K mg base (n+17) "rows_of_while" wx (nH n 3):=by
  intro n
  induction n with
  |zero=>exact⟨au.of Aaj SN λf oj A outer s H E hr=>BP,au.of Aam HZ λf oj A outer s H E hr=>BP,au.of Aan zf λf oj A outer s H E hr=>BP,au.of Aak GF λf oj A outer s H E hr=>BP⟩|succ n IH=>
    let⟨Ua,Abu,Abv,Abr⟩:=IH;refine⟨?_,?_,?_,?_⟩
    · refine(au.of (k:=n+17) Aaj SN λf oj A outer s H E hr=>?_).mono c8
      have hu:=fu hr;unfold R6;exact Zi (bG 3 SN.nd<|cU Zf)<|Zi (yL aaD aaD (pZ<|Zd 0) (mD 4 SN.nd)<|Zo<|gO<|Kf (Zd 3)<|Zb (aW Abu hr<|Zb (Zd 4)<|Zb (Zt bL (Zd 1)<|fW T<|Zd 3)<|Zb (Zd 2) Zf) Zf)<|Zo<|bD<|Zd 3
    · refine(au.of (k:=n+17) Aam HZ λf oj A outer s H E hr=>?_).mono c8
      have hu:=fu hr;unfold zb;exact Zi (dG (cg (dR hu) (Zv Zw (Zd 0) Zh) bN) (Zo<|bD<|aW Abv hr<|Zb (Zd 0)<|Zb (Zd 1)<|Zb (Zd 2) Zf) d9)<|Zi (dG (cg (dR hu) (Zv Zw (Zd 0) Zh) bN) (Zo<|bD<|aW Abr hr<|Zb (Zd 0)<|Zb (Zd 1)<|Zb (Zd 2) Zf) d9)<|Zi (dG (cg (dR hu) (Zv Zw (Zd 0) Zh) bN) (Zi (bG 3 HZ.nd<|Zt bL (aW xg (hr.mono c8)<|Zb (Zv Zw (Zd 0) Zh)<|Zb Zh<|Zb (Zd 2) Zf)<|cU<|Zb (aW Dl (hr.mono c8)<|Zb Zh Zf) Zf)<|Zo<|bD<|Zt bL (Zt bL (Zd 3)<|aW xg (hr.mono c8)<|Zb (Zv Zw (Zd 0) Zh)<|Zb Zh<|Zb (Zd 2) Zf)<|cU<|Zb (cL<|Zb bN<|Zb Zh<|Zb Zh Zf) Zf) d9)<|Zi (dG (cg (dR hu) (Zv Zw (Zd 0) Zh) bN) (Zo<|bD<|Zt bL (aW xg (hr.mono c8)<|Zb (Zv Zw (Zd 0) Zh)<|Zb Zh<|Zb (Zd 2) Zf)<|aW Di (hr.mono c8)<|Zb (Zv Zw (Zd 0) Zh)<|Zb Zh<|Zb (Zd 2) Zf) d9)<|Zo<|bD<|Zt bL (aW xg (hr.mono c8)<|Zb (Zv Zw (Zd 0) Zh)<|Zb Zh<|Zb (Zd 2) Zf)<|cU<|Zb (cL<|Zb bN<|Zb Zh Zf) Zf
    · refine(au.of (k:=n+17) Aan zf λf oj A outer s H E hr=>?_).mono c8
      have hu:=fu hr;unfold R5;exact Zi (bG 3 zf.nd<|aW xg (hr.mono c8)<|Zb (Zv Zw (Zd 0) Zh)<|Zb Zh<|Zb (Zd 2) Zf)<|Zi (bG 4 zf.nd<|Zt bL (Zt bL (Zd 1)<|fW T<|Zd 3) Zh)<|Zi (bG 5 zf.nd<|aW Ua hr<|Zb (Zv Zw (Zd 0) Zh)<|Zb (Zd 4)<|Zb (Zd 2) Zf)<|Zi (bG 6 zf.nd<|Zt bL (Zt bL (Zd 4)<|fW T<|Zd 5) Zh)<|Zi (bG 7 zf.nd<|aW Ua hr<|Zb (Zv Zw (Zd 0) Zh)<|Zb (Zd 6)<|Zb (Zd 2) Zf)<|Zi (bG 8 zf.nd<|Zt bL (Zd 6)<|fW T<|Zd 7)<|Zo<|bD<|Zt bL (Zt bL (Zt bL (Zt bL (Zd 3)<|cU<|Zb (cL<|Zb bN<|Zb Zh<|Zb (Zd 6) Zf) Zf)<|Zd 5)<|cU<|Zb (cL<|Zb bN<|Zb (Zd 8) Zf) Zf)<|Zd 7
    · refine(au.of (k:=n+17) Aak GF λf oj A outer s H E hr=>?_).mono c8
      have hu:=fu hr;unfold R4;exact Zi (bG 3 GF.nd<|aW xg (hr.mono c8)<|Zb (Zv Zw (Zd 0) Zh)<|Zb Zh<|Zb (Zd 2) Zf)<|Zi (bG 4 GF.nd<|Zt bL (Zt bL (Zd 1)<|fW T<|Zd 3) Zh)<|Zi (bG 5 GF.nd<|aW Ua hr<|Zb (Zv Zw (Zd 0) Zh)<|Zb (Zd 4)<|Zb (Zd 2) Zf)<|Zi (bG 6 GF.nd<|Zt bL (Zt bL (Zd 4)<|fW T<|Zd 5) Zh)<|Zo<|bD<|Zt bL (Zt bL (Zt bL (Zd 3)<|cU<|Zb (cL<|Zb bN<|Zb Zh<|Zb (Zd 4) Zf)<|Zb (cL<|Zb bN<|Zb (Zd 6) Zf) Zf)<|Zd 5)<|cU<|Zb (cL<|Zb bN<|Zb (Zd 1) Zf) Zf
def Mq:bZ ["program","cells","rows","box","name"] ub (Zq Lk):=cN
def Zrk(A:cH K mg "roll_of" Lk ub)(T:Txt K mg)(Uo:au P w K mg base 17 "name_cells" ub RX)(Di:au P w K mg base 1 "rows_to_name" BB za)(Uc:au P w K mg base 30 "rows_of_deeds" CY R7):au P w K mg base 31 "roll_of" ub KR:=au.of A Mq λ_ _ _ _ _ _ _ hr=>by unfold Hn;exact Zi (bG 1 Mq.nd<|aW Uo (hr.mono aaE)<|Zb (Zd 0) Zf)<|Zi (bG 2 Mq.nd<|cU Zf)<|Zi (Ro aaD aaD (Rp T.Nv<|Zv Zw (Zd 0) Zh) (Q9 aaD<|yK 3 Mq.nd<|yK 4 Mq.nd Q8)<|Zo<|gO<|Kf (Zd 2)<|Zb (aW Di (hr.mono aaE)<|Zb (Zd 4)<|Zb (Zd 3)<|Zb (Zd 1) Zf) Zf)<|Zi (gO<|Kf (Zd 2)<|Zb (aW Uc (hr.mono aaE)<|Zb (Zv Zw (Zd 0) Zh)<|Zb (fW T<|Zd 2)<|Zb (Zd 1) Zf) Zf)<|Zo<|bD<|Zt bL (nF (T:="tuple") sy T.qm sE<|Zb (Zd 2) Zf)<|cL<|Zb (cL<|Zb bN Zf) Zf
def SQ:bZ ["script","k","cell","mixed"] zk (Zq Ls):=cN
def ZnY(A:cH K mg "_law_draw" Ls zk)(T:Txt K mg):au P w K mg base 1 "_law_draw" zk gm:=au.of A SQ λ_ _ _ _ _ _ _ hr=>by unfold HA;exact Zi (bG 2 SQ.nd Zh)<|Zi (dG (cg ut (fW T<|Zd 0) Zh) (Zo<|bG 2 SQ.nd<|Zt eV (Zv Zw (Zd 0)<|Zt eV (Zd 1)<|fW T<|Zd 0) Zh) d9)<|Zi (bG 3 SQ.nd<|Zt eV (Zt qN (Zt bL (Zt bL (Zd 2) Zh)<|Zt qN Zh<|Zt mG (Zd 1)<|WU (id:="max") (AfH aaD) T.AdL ZzH<|Zb Zh<|Zb (fW T<|Zd 0) Zf) Zh) Zh)<|Zo<|bD<|Zt eV (Zt qN (Zd 3)<|Zd 3) Zh
def Cp:bZ ["script","i","letters","pad","place","tail","word"] C0 (Zq Lw):=cN
def Zom(A:cH K mg "_law_word" Lw C0)(T:Txt K mg)(je:au P w K mg base 1 "_law_draw" zk gm):au P w K mg base 2 "_law_word" C0 p7:=au.of A Cp λ_ _ _ _ _ _ _ hr=>by have hu:=fu hr;unfold HC;exact Zi (bG 2 Cp.nd bN)<|Zi (bG 3 Cp.nd<|Zv Zw (Zd 2)<|Zt eV (aW je (hr.mono aaE)<|Zb (Zd 0)<|Zb Zh Zf) Zh)<|Zi (bG 4 Cp.nd<|Zt eV (aW je (hr.mono aaE)<|Zb (Zd 0)<|Zb Zh Zf) Zh)<|Zi (bG 5 Cp.nd<|Zt eV (aW je (hr.mono aaE)<|Zb (Zd 0)<|Zb Zh Zf)<|Zt ur Zh<|Zd 4)<|Zi (dG (cg (dR hu) (Zt eV (Zt mG (aW je (hr.mono aaE)<|Zb (Zd 0)<|Zb Zh Zf) Zh) Zh) Zh) (Zo<|bG 5 Cp.nd<|Zt eV (aW je (hr.mono aaE)<|Zb (Zd 0)<|Zb (Zt bL Zh<|Zd 1) Zf)<|Zt ur Zh<|Zd 4) d9)<|Zi (bG 6 Cp.nd<|Zt bL (Zt bL (Zt qN (Zd 3)<|Zd 4)<|Zv Zw (Zd 2)<|Zt eV (Zt bL (Zd 1)<|aW je (hr.mono aaE)<|Zb (Zd 0)<|Zb Zh Zf) Zh)<|Zt qN (Zd 3)<|Zd 5)<|Zi (dG (cg (dR hu) (Zd 6) bN) (Zo<|bD bN) d9)<|Zo<|bD<|Zd 6
def ZhJ:bZ ["draw","some"] ["draw"] (Zq Lx):=cN
def Zmi(A:cH K mg "_law_number" Lx ["draw"])(T:Txt K mg):au P w K mg base 1 "_law_number" ["draw"] uI:=au.of A ZhJ λ_ _ _ _ _ _ _ hr=>by unfold HE;exact Zi (bG 1 ZhJ.nd<|cU<|Zb (Zt eV (Zt mG (Zd 0) Zh) Zh)<|Zb (Zt eV (Zt mG (Zd 0) Zh) Zh)<|Zb (Zt eV (Zt qN (Zt mG (Zd 0) Zh) Zh)<|Zt XE Zh Zh)<|Zb Zh Zf)<|Zo<|bD<|Zv Zw (cU<|Zb (Zv Zw (Zd 1)<|Zt eV (Zd 0) Zh)<|Zb (oN oO<|Zv Zw (Zd 1)<|Zt eV (Zd 0) Zh) Zf)<|Zt eV (Zt mG (Zd 0) Zh) Zh
def Cq:bZ ["script","at","names","limit","words","due","draw"] C2 (Zq Ly):=cN
def ZpX(A:cH K mg "_law_sum" Ly C2)(T:Txt K mg)(je:au P w K mg base 1 "_law_draw" zk gm)(Dk:au P w K mg base 1 "_law_number" ["draw"] uI):au P w K mg base 2 "_law_sum" C2 qR:=au.of A Cq λ_ _ _ _ _ _ _ hr=>by have hu:=fu hr;unfold HG;exact Zi (bG 4 Cq.nd<|cU Zf)<|Zi (bG 5 Cq.nd Zh)<|Zi (YJ aaD (cg ut (Zd 5) Zh)<|Zi (bG 6 Cq.nd<|aW je (hr.mono aaE)<|Zb (Zd 0)<|Zb (Zt bL (Zd 1)<|fW T<|Zd 4) Zf)<|Zi (bG 5 Cq.nd<|Zt ur (Zd 5) Zh)<|Zo<|dG (CW.ct<|FW (cg Afo (Zt bL (fW T<|Zd 4)<|Zd 5)<|Zd 3)<|Q5<|cg J5 (Zt eV (Zd 6) Zh) Zh) (Zo<|dG (cg (dR hu) (Zt eV (Zt mG (Zd 6) Zh) Zh) Zh) (Zo<|gO<|jV (Zd 4)<|Zb (aW Dk (hr.mono aaE)<|Zb (Zt mG (Zd 6) Zh) Zf) Zf)<|Zo<|gO<|jV (Zd 4)<|Zb (Zv Zw (Zd 2)<|Zt eV (Zt mG (Zd 6) Zh)<|fW T<|Zd 2) Zf)<|Zo<|dG (cg (dR hu) (Zt eV (Zd 6) Zh) Zh) (Zi (gO<|jV (Zd 4)<|Zb bN Zf)<|Zo<|bG 5 Cq.nd<|Zt bL (Zd 5) Zh)<|Zi (gO<|jV (Zd 4)<|Zb (Zv Zw (cU<|Zb bN<|Zb bN<|Zb bN Zf)<|Zt eV (Zt mG (Zd 6) Zh) Zh) Zf)<|Zo<|bG 5 Cq.nd<|Zt bL (Zd 5) Zh)<|Zo<|bD<|nF (T:="tuple") sy T.qm sE<|Zb (Zd 4) Zf
def H0:bZ ["frames","opens","body","top"] D6 (Zq Lz):=cN
def Zl6(A:cH K mg "_law_closed" Lz D6)(T:Txt K mg):au P w K mg base 1 "_law_closed" D6 zc:=au.of A H0 λ_ _ _ _ _ _ _ hr=>by have hu:=fu hr;unfold HH;exact Zi (bG 2 H0.nd<|nF (T:="tuple") sy T.qm sE<|Zb (tB<|Zd 0) Zf)<|Zi (bG 3 H0.nd<|tB<|Zd 1)<|Zo<|dG (cg (dR hu) (Zv Zw (Zd 3) Zh) bN) (Zo<|gO<|jV (Zv Zw (Zd 0)<|oN oO Zh)<|Zb (cL<|Zb bN<|Zb (Zv Zw (Zd 3) Zh)<|Zb (Zt bL (Zd 2)<|Zv Zw (Zd 3) Zh) Zf) Zf)<|Zo<|dG (cg Ra (Zv Zw (Zd 3) Zh) wg) (Zi (gO<|jV (Zd 1)<|Zb (cL<|Zb (Zv Zw (Zd 3) Zh)<|Zb (Zv Zw (Zd 3) Zh)<|Zb (Zd 2) Zf) Zf)<|Zo<|gO<|jV (Zd 0)<|Zb (cU Zf) Zf)<|Zo<|gO<|jV (Zv Zw (Zd 0)<|oN oO Zh)<|Zb (cL<|Zb bN<|Zb (Zv Zw (Zd 3) Zh)<|Zb (Zv Zw (Zd 3) Zh)<|Zb (Zd 2) Zf) Zf
def Mr:bZ ["script","k","frames","opens","names","draw","name","some","less"] D7 (Zq LC):=cN
def Zlz(A:cH K mg "_law_opened" LC D7)(T:Txt K mg)(je:au P w K mg base 1 "_law_draw" zk gm)(zL:au P w K mg base 2 "_law_word" C0 p7)(zM:au P w K mg base 2 "_law_sum" C2 qR):au P w K mg base 3 "_law_opened" D7 Gs:=au.of A Mr λ_ _ _ _ _ _ _ hr=>by have hu:=fu hr;unfold KY;exact Zi (bG 5 Mr.nd<|aW je (hr.mono aaE)<|Zb (Zd 0)<|Zb (Zt bL Zh<|Zd 1) Zf)<|Zi (dG (cg (dR hu) (Zt eV (Zd 5) Zh) Zh) (Zi (bG 6 Mr.nd<|aW zL (hr.mono aaE)<|Zb (Zd 0)<|Zb (Zt bL Zh<|fW T<|Zd 3) Zf)<|Zi (gO<|jV (Zv Zw (Zd 2)<|oN oO Zh)<|Zb (cL<|Zb bN<|Zb (Zd 6)<|Zb (cL<|Zb (Zt eV (Zt mG (Zd 5) Zh) Zh) Zf) Zf) Zf)<|Zi (bG 7 Mr.nd<|cU<|Zb (cL<|Zb (Zd 6) Zf)<|Zb (cL<|Zb bN<|Zb (Zd 6)<|Zb Zh Zf)<|Zb (cL<|Zb bN<|Zb (Zd 6)<|Zb Zh Zf)<|Zb (cL<|Zb bN<|Zb (Zd 6)<|Zb Zh Zf)<|Zb (cL<|Zb (Zt ur Zh<|Zt eV (Zt mG (Zd 5) Zh) Zh) Zf) Zf)<|Zi (bG 8 Mr.nd<|Zv Zw (cU<|Zb (cL<|Zb (cL<|Zb bN<|Zb (Zd 6)<|Zb (cL<|Zb bN<|Zb (Zd 6)<|Zb Zh Zf) Zf) Zf)<|Zb (cL Zf) Zf)<|nF (T:="int") P' T.Dr ZI<|Zb (yJ (dR hu) (Zt eV (Zt mG (Zd 5) Zh) Zh) Zh) Zf)<|Zo<|gO<|jV (Zd 3)<|Zb (cL<|Zb bN<|Zb (Zv Zw (Zd 7)<|Zt eV (Zt eV (Zt mG (Zd 5) Zh) Zh) Zh)<|Zb (Zd 8) Zf) Zf)<|Zo<|gO<|jV (Zd 3)<|Zb (cL<|Zb bN<|Zb (aW zM (hr.mono aaE)<|Zb (Zd 0)<|Zb (Zt bL Zh<|Zt qN Zh<|Zd 1)<|Zb (Zd 4)<|Zb Zh Zf)<|Zb wg Zf) Zf)<|Zo<|gO<|jV (Zd 2)<|Zb (cU Zf) Zf
def Cr:bZ ["script","cells","names","frames","opens","k","cell","deep","one"] D8 (Zq LK):=cN
def ZmE(A:cH K mg "_law_deeds" LK D8)(T:Txt K mg)(je:au P w K mg base 1 "_law_draw" zk gm)(zM:au P w K mg base 2 "_law_sum" C2 qR)(Nt:au P w K mg base 1 "_law_closed" D6 zc)(Uh:au P w K mg base 3 "_law_opened" D7 Gs):au P w K mg base 4 "_law_deeds" D8 R8:=au.of A Cr λ_ _ _ _ _ _ _ hr=>by have hu:=fu hr;unfold HI;exact Zi (bG 3 Cr.nd<|cU<|Zb (cU Zf) Zf)<|Zi (bG 4 Cr.nd<|cU Zf)<|Zi (Ro aaD aaD (Rp T.Nv<|Zd 1) (Q9 aaD<|yK 5 Cr.nd<|yK 6 Cr.nd Q8)<|Zi (bG 7 Cr.nd<|nF (T:="int") P' T.Dr ZI<|Zb (yJ (dR hu) (Zd 5)<|Zt eV (aW je (hr.mono aaE)<|Zb (Zd 0)<|Zb Zh Zf) Zh) Zf)<|Zi (bG 8 Cr.nd<|aW zM (hr.mono aaE)<|Zb (Zd 0)<|Zb (Zt bL Zh<|Zt qN Zh<|Zd 5)<|Zb (Zd 2)<|Zb (Zv Zw (cU<|Zb Zh<|Zb Zh Zf)<|Zd 7) Zf)<|Zo<|dG (cg J5 (Zt eV (Zd 6) Zh) Zh) (Zo<|gO<|jV (Zv Zw (Zd 3)<|oN oO Zh)<|Zb (cL<|Zb bN<|Zb (Zv Zw (Zd 2)<|Zt eV (Zt mG (Zd 6) Zh) Zh)<|Zb (Zd 8) Zf) Zf)<|Zo<|dG (cg (dR hu) (Zt eV (Zd 6) Zh) Zh) (Zo<|gO<|jV (Zv Zw (Zd 3)<|oN oO Zh)<|Zb (cL<|Zb bN<|Zb (Zd 8)<|Zb (aW zM (hr.mono aaE)<|Zb (Zd 0)<|Zb (Zt bL Zh<|Zt qN Zh<|Zd 5)<|Zb (Zd 2)<|Zb (Zv Zw (cU<|Zb Zh<|Zb Zh Zf)<|Zd 7) Zf) Zf) Zf)<|Zo<|dG (CW.ct<|FT (cg J5 (Zt eV (Zd 6) Zh) Zh)<|J3<|cg J5 (fW T<|Zd 4) Zh) (Zo<|gO<|aW Uh (hr.mono aaE)<|Zb (Zd 0)<|Zb (Zd 5)<|Zb (Zd 3)<|Zb (Zd 4)<|Zb (Zd 2) Zf)<|Zo<|dG (CW.ct<|FT (cg (dR hu) (Zt eV (Zd 6) Zh) Zh)<|J3<|cg ut (fW T<|Zd 4) Zh) (Zo<|gO<|aW Nt (hr.mono aaE)<|Zb (Zd 3)<|Zb (Zd 4) Zf)<|Zo<|gO<|jV (Zv Zw (Zd 3)<|oN oO Zh)<|Zb (cL<|Zb bN<|Zb (Zd 8) Zf) Zf)<|Zi (YJ aaD (cg ut (fW T<|Zd 4) Zh)<|Zo<|gO<|aW Nt (hr.mono aaE)<|Zb (Zd 3)<|Zb (Zd 4) Zf)<|Zo<|bD<|nF (T:="tuple") sy T.qm sE<|Zb (Zv Zw (Zd 3) Zh) Zf
def Ic:bZ ["script","names","taken"] A2 (Zq LQ):=cN
def ZkV(A:cH K mg "_law_program" LQ A2)(T:Txt K mg)(je:au P w K mg base 1 "_law_draw" zk gm)(zL:au P w K mg base 2 "_law_word" C0 p7)(Uq:au P w K mg base 4 "_law_deeds" D8 R8):au P w K mg base 5 "_law_program" A2 KZ:=au.of A Ic λ_ _ _ _ _ _ _ hr=>by unfold HK;exact Zi (Rj (N':=F2) 1 (BJ aaD aaH) aaD aaD Ic.nd (YH T.U0 Zh) λC cl s H ex=>⟨(mD 3<|(show vL (F2:oB)by decide +kernel)),Rg,(aW zL (hr.mono aaE)<|Zb (Zd 0)<|Zb (Zd 3) Zf)⟩)<|Zi (bG 2 Ic.nd<|nF (T:="tuple") sy T.qm sE<|Zb (Bq Bv (Zd 1) Bo<|Bp<|Zt eV (aW je (hr.mono aaE)<|Zb (Zd 0)<|Zb Zh Zf) Zh) Zf)<|Zo<|bD<|cL<|Zb (Zd 2)<|Zb (aW Uq (hr.mono aaE)<|Zb (Zd 0)<|Zb (Bq Bv (Zd 0) Bo<|Bp Zh)<|Zb (Zt bL (Zd 1)<|cU<|Zb (aW zL (hr.mono aaE)<|Zb (Zd 0)<|Zb Zh Zf) Zf) Zf) Zf
def ZiJ:bZ ["script","program","some"] D9 (Zq LR):=cN
def Zmt(A:cH K mg "_law_given" LR D9)(T:Txt K mg)(je:au P w K mg base 1 "_law_draw" zk gm)(Dk:au P w K mg base 1 "_law_number" ["draw"] uI):au P w K mg base 2 "_law_given" D9 K1:=au.of A ZiJ λ_ _ _ _ _ _ _ hr=>by unfold HL;exact Zi (Rj (N':=ir) 2 (BJ aaD aaH) aaD aaD ZiJ.nd (YH T.U0<|fW T<|Zv Zw (Zd 1) Zh) λC cl s H ex=>⟨(mD 3<|(show vL (ir:oB)by decide +kernel)),Rg,(aW je (hr.mono aaE)<|Zb (Zd 0)<|Zb (Zt bL Zh<|Zd 3) Zf)⟩) (Zo<|bD<|nF (T:="tuple") sy T.qm sE<|Zb (YR (N':=il) (BJ aaD aaH) aaD aaD (pZ<|Zd 2) λC cl s H ex=>⟨(mD 3<|(show vL (il:oB)by decide +kernel)),Rg,(Zt qN (aW Dk (hr.mono aaE)<|Zb (Zd 3) Zf)<|Zv Zw (cU<|Zb Zh<|Zb (Zt XE Zh Zh) Zf)<|Zt eV (Zt mG (Zd 3) Zh) Zh)⟩) Zf)
def SX:bZ ["program","given","bound","found"] Ee (Zq L_):=cN
def ZkX(A:cH K mg "_law_meaning" L_ Ee)(T:Txt K mg){j9 iI fY:Ys}(XO:Ss K mg j9 iI fY)(Ny:sI P w K mg base 32 "meaning" CL Ci):au P w K mg base 33 "_law_meaning" Ee Cj:=au.of A SX λ_ _ _ _ _ _ _ hr=>by unfold R9;exact Zi (bG 3 SX.nd wg)<|Zi (ZwE (cs:=[ze]) (CE:=fY) XO.m5 XO.Ads (λRv E'=>(iu<|FG 3 SX.nd<|hJ Ny (hr.mono aaE)<|Zb (Zd 0)<|Zb (Zd 1)<|Zb (Zd 2) Zf)) λA' E'=>(Zo<|bG 3 SX.nd wg))<|Zo<|bD<|Zd 3
def Zmx:bZ zo zo (Zq Ma):=cN
def Zmm(A:cH K mg "_law_whole" Ma zo)(T:Txt K mg):au P w K mg base 1 "_law_whole" zo Ck:=au.of A Zmx λ_ _ _ _ _ _ _ hr=>by unfold m3;exact Zo<|bD<|Afl (Bx .int T.zJ T.Dr<|Zd 0)<|YC<|WJ<|Bx .bool T.zJ T.AdC<|Zd 0
def ZhX:bZ ["found","number"] zo (Zq Mf):=cN
def Zlk(A:cH K mg "_law_shaped" Mf zo)(T:Txt K mg)(Nu:au P w K mg base 1 "_law_whole" zo Ck):au P w K mg base 2 "_law_shaped" zo R_:=au.of A ZhX λ_ _ _ _ _ _ _ hr=>by have hu:=fu hr;unfold HM;exact Zi (dG (CW.ct<|FW (wj<|rZ<|Bx .tuple T.zJ T.qm<|Zd 0)<|FW (cg (Kd hu) (fW T<|Zd 0) Zh)<|FW (wj<|rZ<|Bx .list T.zJ T.m8<|Zv Zw (Zd 0) Zh)<|Q5<|wj<|rZ<|aW Nu (hr.mono aaE)<|Zb (Zv Zw (Zd 0) Zh) Zf) (Zo<|bD Bm) d9)<|Zi (yL aaD aaD (pZ<|Zv Zw (Zd 0) Zh) (mD 1 ZhX.nd)<|Zo<|dG (wj<|rZ<|aW Nu (hr.mono aaE)<|Zb (Zd 1) Zf) (Zo<|bD Bm) d9)<|Zo<|bD Bm
def Zgw:bZ ["roll","boxes","states","t"] EA (Zq Mg):=cN
def Zki(A:cH K mg "_law_followed" Mg EA)(T:Txt K mg)(Dj:au P w K mg base 1 "first_state" By uF)(zK:au P w K mg base 3 "next_state" CF qP)(u6:au P w K mg base 1 "ended" yn sO):au P w K mg base 4 "_law_followed" EA Sd:=au.of A Zgw λ_ _ _ _ _ _ _ hr=>by have hu:=fu hr;unfold HP;exact Zi (dG (CW.ct<|FW (cg (dR hu) (fW T<|Zd 2) Zh)<|Q5<|cg (Kd hu) (Zv Zw (Zd 2) Zh)<|aW Dj (hr.mono aaE)<|Zb (Zd 1) Zf) (Zo<|bD Bm) d9)<|Zi (yL aaD aaD (YH T.U0<|Zt ur (fW T<|Zd 2) Zh) (mD 3 Zgw.nd)<|Zo<|dG (cg (Kd hu) (aW zK (hr.mono aaE)<|Zb (Zd 0)<|Zb (Zv Zw (Zd 2)<|Zd 3) Zf)<|Zv Zw (Zd 2)<|Zt bL (Zd 3) Zh) (Zo<|bD Bm) d9)<|Zo<|bD<|WI (WJ<|aW u6 (hr.mono aaE)<|Zb (Zd 0)<|Zb (Zd 2) Zf)<|YC<|yJ Ra (aW zK (hr.mono aaE)<|Zb (Zd 0)<|Zb (Zv Zw (Zd 2)<|oN oO Zh) Zf) wg
def Cu:bZ ["script","program","given","roll","states","steps","found"] A2 (Zq wF):=cN
def Zzr{f:Ys}{fd:mU}(F:rP K "law" "law" wF f fd)(T:Txt K mg)(U6:au P w K mg base 4 "run" CH RL)(U4:au P w K mg base 1 "told" yn RM)(u6:au P w K mg base 1 "ended" yn sO)(Nx:au P w K mg base 2 "boxes_of" xI Gq)(Uz:au P w K mg base 31 "roll_of" ub KR)(Ue:au P w K mg base 5 "_law_program" A2 KZ)(Ur:au P w K mg base 2 "_law_given" D9 K1)(Hz:au P w K mg base 33 "_law_meaning" Ee Cj)(Ui:au P w K mg base 2 "_law_shaped" zo R_)(Ud:au P w K mg base 4 "_law_followed" EA Sd):iM P w K mg base l_ 34 f fd A2 (uq K 1 Zr2):=YF F Cu λ_ _ _ _ _ _ hr=>by have hu:=fu hr;unfold HQ;exact Zi (bG 1 Cu.nd<|aW Ue (hr.mono aaE)<|Zb (Zd 0) Zf)<|Zi (bG 2 Cu.nd<|aW Ur (hr.mono aaE)<|Zb (Zd 0)<|Zb (Zd 1) Zf)<|Zi (bG 3 Cu.nd<|aW Uz (hr.mono aaE)<|Zb (Zd 1) Zf)<|Zi (bG 4 Cu.nd<|aW U6 (hr.mono aaE)<|Zb (Zd 3)<|Zb (aW Nx (hr.mono aaE)<|Zb (Zd 1)<|Zb (Zd 2) Zf)<|Zb Zh Zf)<|Zi (dG (wj<|rZ<|aW Ud (hr.mono aaE)<|Zb (Zd 3)<|Zb (aW Nx (hr.mono aaE)<|Zb (Zd 1)<|Zb (Zd 2) Zf)<|Zb (Zd 4) Zf) (Zo<|bD Bm) d9)<|Zi (dG (wj<|rZ<|aW u6 (hr.mono aaE)<|Zb (Zd 3)<|Zb (Zd 4) Zf) (Zo<|bD<|yJ Ra (aW Hz (hr.mono aaE)<|Zb (Zd 1)<|Zb (Zd 2)<|Zb Zh Zf) wg) d9)<|Zi (bG 5 Cu.nd<|Zt ur (fW T<|Zd 4) Zh)<|Zi (bG 6 Cu.nd<|aW Hz (hr.mono aaE)<|Zb (Zd 1)<|Zb (Zd 2)<|Zb (Zd 5) Zf)<|Zi (dG (CW.ct<|FW (wj<|rZ<|aW Ui (hr.mono aaE)<|Zb (Zd 6) Zf)<|Q5<|cg (AfW hu) (Zd 6)<|cL<|Zb (aW U4 (hr.mono aaE)<|Zb (Zd 3)<|Zb (Zd 4) Zf)<|Zb (Zd 5) Zf) (Zo<|bD Bm) d9)<|Zo<|bD<|WI (yJ (dR hu) (Zd 5) Zh)<|YC<|yJ Ra (aW Hz (hr.mono aaE)<|Zb (Zd 1)<|Zb (Zd 2)<|Zb (Zt ur (Zd 5) Zh) Zf) wg
end
end Law
set_option maxHeartbeats 200000
namespace Law
open L3
abbrev My(x:Nat):oS:=O<|.ref x
abbrev e5(x:Int):oS:=O<|.int x
abbrev rf(x:i4):oS:=O<|.str x
def Xe(n d:Nat):aN n d Yj=d:=rfl
def Xf(n d k:Nat):aN n d (O (k:Int))=jL k n:=by have h:¬((k:Int)<0):=(λz=>by omega);simp only[aN,i6 h,t6]
def Zpo{α:Type}(w:List α)(k:Nat):oC w (O (k:Int)) Yj=w.drop k:=by
 unfold oC;rw[Xf,Xe];by_cases h:k<=w.length
 .rw[NR h,Aa j0]
 .rw[NO c8,MU<|Yn _,MU c8];simp
def Iq{α:Type}(w:List α)(k:Nat):oC w Yj (O (k:Int))=w.take k:=by
 unfold oC;rw[Xf,Xe];by_cases h:k<=w.length
 .rw[NR h];simp
 .rw[NO c8,Nat.sub_zero,Wa,Aa<|Yn _,Aa c8]
def Iy(n:Nat)(bs:l8):below n (bQ bs)=true:=by
 unfold bQ below
 induction bs with
 |nil=>rfl|cons b bs ih=>simp only[Y2,cu,below,ih,O_]
def IA(n:Nat)(cs:qv):below n (dZ cs)=true:=by
 unfold dZ below
 induction cs with
 |nil=>rfl|cons b bs ih=>simp only[Y2,cu,ih,j6,below,O_]
def ZkK(n:Nat)(s:cj):below n (Zu s)=true:=by simp only[Zu,below,cu,Iy,IA,O_]
def ZqZ(n:Nat)(s:Option cj):below n (JP s)=true:=by
 cases s with
 |none=>rfl|some s=>exact ZkK n s
variable{a:Nat}
def ZyH{bs:l8}(h:b9 bs=8)(ha:a<8):bs[a]?=O (bs.getD a 0):=by rw[vH,Y0 c8];rfl
def uL{bs:l8}(h:b9 bs=8)(ha:a<8):∃x,bs.getD a 0=x/\fK (bs.map D.int) (a:Int)=e5 x:=⟨bs.getD a 0,rfl,by rw[lH,lB,ZyH h ha];rfl⟩
def Ms{i j:Int}(h:-(2^64)<i/\i<2^64):qH i j=true:=by unfold qH;rw[vM];left;simp only[j5,decide_eq_true_eq];exact h
def mul_r{i j:Int}(h:-(2^64)<j/\j<2^64):qH i j=true:=by unfold qH;rw[vM];right;simp only[j5,decide_eq_true_eq];exact h
def p8(x:Int)(m:Nat)(h:0<m):∃a:Nat,x % (m:Int)=a/\a<m:=by have h1:=Ei x (b:=(m:Int)) (by exactλz=>by omega);have h2:=Wn x (b:=(m:Int)) c8;exact⟨(x % (m:Int)).toNat,(N1 h1).symm,c8⟩
variable{M M':c5}{d:D}
def Mt(h:b9 M'=b9 M):tidy M d M'= .ok d M':=by unfold tidy;rw[Aa<|xX h];split <;>rfl
def lN{i j:Int}(h:0<j/\j<1073741824):fJ (.int i) (.int j) M= .ok (.int<|i / j) M:=by simp only[UO,f_ h]
theorem _root_.xS{p:Prop}(h:p:=by exact Zg (Zg aaD aaD<|lN aaE) aaD<|fj aaE):p:=h
variable{ds:h8}{env:Zz}
def jy{g:dg}(h:g env M= .ok ds M')(hl:decide (b9 ds<=100)=true):bh g env M= .ok (.ref<|b9 M') (M'++[.L ds]):=by have z:b9 ds<=SZ:=Yx (of_decide_eq_true hl) aaE;simp only[bh,h,R3.bind,f_ z,alloc]
theorem _root_.zt{p:Prop}(h:p:=by exact jy aaD aaD):p:=h
variable{xs:h8}{n:Nat}
def sU{o t:E3}(ho:o env M= .ok (.ref n) M)(hM:M[n]?=O (.L xs))(ht:t env M= .ok d M')(IB:M'[n]?=O (.L xs))(hl:b9 xs<SZ):
  aG (bA bO cQ o<|Za t Ze) env M= .nx env (M'.set n<|.L<|xs++[d]):=by
 have e:bA bO cQ o (Za t Ze) env M= .ok .Z (M'.set n<|.L<|xs++[d]):=by simp only[bA,ho,R3.bind,A_,hM,Za,ht,Ze,QC,IB,f_ hl,if_true]
 rw[aG,e]
variable{f:E3}
def Aba{op:D->D->D->c5->R3 D}{g h:E3}{M M1 M2 M3 M4:c5}{a b c:D}(h1:f env M= .ok a M1)(h2:g env M1= .ok b M2)(h3:h env M2= .ok c M3)(h4:op a b c M3= .ok d M4):e3 op f g h env M= .ok d M4:=by simp only[e3,h1,h2,h3,h4,R3.bind]
def dr(ns:l8)(k:Nat):Int:=((((if 0<b9 ns then ns.getD (k % ns.length) 0 % 2147483629 else 0)+3+86243*((k / gR 1 (b9 ns):Nat):Int))*69621 % 2147483629)*(((if 0<b9 ns then ns.getD (k % ns.length) 0 % 2147483629 else 0)+3+86243*((k / gR 1 (b9 ns):Nat):Int))*69621 % 2147483629)) % 2147483587
def Zyw(ns:l8)(k:Nat):0<=dr ns k:=Ei _ aaE
abbrev SC(ns:l8):D:=.cI<|ns.map D.int
def IC{i j:Int}(h:-(2^64)<j/\j<2^64)(M:c5):fP (.int i) (.int j) M= .ok (.int<|i*j) M:=by rw[Av,f_<|mul_r h]
variable{ns:l8}
def Zx4(hl:b9 ns<=63)(k:Nat)(M:c5):gm [SC ns,.int k] M= .ok (.int<|dr ns k) M:=by
 refine(iR (M':=M) (d:=.int<|dr ns k) (env:=[O<|SC ns,e5 k,Yj,Yj]) ?_).trans (QQ aaD);have i7:∀a b c:oS,aL a_ (Za (Zc 0) Ze) [O<|SC ns,a,b,c] M= .ok (.int (b9 ns:Int)) M:=λa b c=>by refine eO aaD ?_;rw[QB,Y3]
 have AfX:∀a b c:oS,aL Fy (Za nN<|Za (aL a_<|Za (Zc 0) Ze) Ze) [O<|SC ns,a,b,c] M= .ok (.int ((gR 1 (b9 ns):Nat):Int)) M:=λa b c=>by simp only[aL,Za,eC,R3.bind,Ze];have:=i7 a b c;simp only[aL,Za,R3.bind,Ze]at this;rw[this];simp only[Zve];congr 2;split <;>omega
 have pV:∀z:Int,(Zx ai eR) [O<|SC ns,e5 k,e5 z,Yj] M= .rt (.int<|(((z+3+86243*((k / gR 1 (b9 ns):Nat):Int))*69621 % 2147483629)*((z+3+86243*((k / gR 1 (b9 ns):Nat):Int))*69621 % 2147483629)) % 2147483587) M:=λz=>by
  have hz:0<gR 1 (b9 ns):=by omega
  rw[Zm<|bU (d:=.int<|(z+3+86243*((k / gR 1 (b9 ns):Nat):Int))*69621 % 2147483629)<|Zg (Zg (Zg vb (Zg aaD (Zg aaD (AfX _ _ _)<|lN c8)<|by rw[Av,f_<|Ms aaE]) aaD) aaD<|IC aaE M) aaD<|fj aaE];have b1:=Ei ((z+3+86243*(((k / gR 1 (b9 ns):Nat)):Int))*69621) (b:=2147483629) aaE;have b2:=Wn ((z+3+86243*(((k / gR 1 (b9 ns):Nat)):Int))*69621) (b:=2147483629) aaE;refine dh<|Zg (Zg aaD aaD<|IC c8 M) aaD<|fj aaE
 unfold HA;rw[Zm<|bU (d:=.int 0) aaD];by_cases h0:0<ns.length
 .have e:((k:Int) % (b9 ns:Int))=((k % ns.length:Nat):Int):=by omega
  have hk:k % ns.length<b9 ns:=Nat.mod_lt _ h0;rw[Zm ((eN<|Zg (i7 _ _ _) aaD<|by rw[pN,qc c8]).trans<|bU (d:=.int<|ns.getD (k % ns.length) 0 % 2147483629)<|Zg (Zg aaD (Zg aaD (i7 _ _ _)<|fj c8) (by rw[e,JB,lH,lB,Y0 hk,vH,Y0 hk];rfl)) aaD<|fj aaE),dr,f_ h0];exact pV _
 .rw[Zm (jt<|Zg (i7 _ _ _) aaD<|by rw[pN,pf c8]),dr,i6 h0];exact pV 0
def bj(x:i4):Bool:=decide<|x=qE\/x=tq\/x=sj\/x=Co
variable{b c p:Nat}
def Zu6(h:Yg a p++[c]++Yg b p≠qE):bj (Yg a p++[c]++Yg b p)=false:=by
 refine pf λz=>?_;rcases z with z|z|z|z
 .exact h z
 all_goals
  have hl:=congrArg xU z;simp only[Ye,vI,Yh,gw]at hl
  match a,b,hl with
  | 0,b,hl=>
   first
    |(obtain rfl:b=2:=by omega);simp[Yg]at z;omega
    |(obtain rfl:b=3:=by omega);simp[Yg]at z;omega
  | 1,b,hl=>
   first
    |(obtain rfl:b=1:=by omega);simp[Yg]at z;omega
    |(obtain rfl:b=2:=by omega);simp[Yg]at z;omega
  | 2,b,hl=>
   first
    |(obtain rfl:b=0:=by omega);simp[Yg]at z;omega
    |(obtain rfl:b=1:=by omega);simp[Yg]at z;omega
  | 3,b,hl=>
   first
    |(obtain rfl:b=0:=by omega);simp[Yg]at z;omega
    |omega
  |a+4,b,hl=>omega
def sV(hl:b9 ns<=63){k:Nat}{g:E3}(h0:f env M= .ok (SC ns) M)(h1:g env M= .ok (.int (k:Int)) M):Zr gm (Za f<|Za g Ze) env M= .ok (.int<|dr ns k) M:=jU h0 h1<|Zx4 hl k M
abbrev oX:i4:=gL
def Zt9(x:Int):∃c:Nat,oX[(x % 26).toNat]?=O c/\∀M,Zj (.str oX) (.int<|x % 26) M= .ok (.str [c]) M:=by let⟨a,e,ha⟩:=p8 x 26 aaE;have hg:oX[a]?=O (oX[a]'ha):=Y0 ha;have e':x % 26=(a:Int):=e;refine⟨oX[a]'ha,by rwa[e',t6],λM=>?_⟩;rw[e',JC,lH,hg];exact f_ (show b9 oX<=SZ by decide)
def Zvk(k c:Nat):(Yg k [c]).flatten=Yg k c:=by
 induction k with
 |zero=>rfl|succ k ih=>rw[lA,tU,ih];rfl
def mul_str{k:Nat}(hk:k<100)(M:c5):fP (.str [c]) (.int (k:Int)) M= .ok (.str<|Yg k c) M:=by
 have h:[c].length*((k:Int)).toNat<=SZ/\(k:Int)<1000000/\ -1000000<(k:Int):=by refine⟨?_,c8,c8⟩;rw[Ab,Nat.one_mul,t6];exact Yx (Eg hk) aaE
 rw[ZuS,f_ h,t6,Zvk]
def add_str{x y:i4}(h:b9 x+b9 y<100)(M:c5):Zy (.str x) (.str y) M= .ok (.str<|x++y) M:=by rw[Js,f_<|Yx (Eg h) aaE]
def GJ(w:i4):Prop:=(∃a b p c,w=Yg a p++[c]++Yg b p)/\w≠qE/\w.length<=8
def GJ.op{w:i4}(h:GJ w):bj w=false:=by let⟨⟨a,b,p,c,rfl⟩,h,_⟩:=h;exact Zu6 h
def qT{a b:i4}(h:a=b):bJ (.str a) (.str b) M= .ok (.bl true) M:=by simp only[bJ,Aw,qc h]
theorem _root_.yy{p:Prop}(h:p:=by exact Zg aaD aaD<|qT aaD):p:=h
def iH{a b:i4}(h:¬a=b):bJ (.str a) (.str b) M= .ok (.bl false) M:=by simp only[bJ,Aw,pf h]
theorem _root_.sC{p:Prop}(h:p:=by exact Zg aaD aaD<|iH aaE):p:=h
def Zwd(e:Yg a p++[c]++Yg b p=qE):a=0:=by
 match a,b,e with
 |0,_,_=>rfl|1,0,e=>simp at e|1,1,e=>simp at e;omega|1,k+2,e=>simp[lA]at e
 |2,k,e=>simp[lA]at e;omega|a+3,b,e=>have:=congrArg xU e;simp at this;omega
def S6(hl:b9 ns<=63)(i:Nat):∃w,GJ w/\w[(dr ns 1 % 8).toNat]?=oX[(((i:Int)+dr ns 3) % 26).toNat]?/\∀M,p7 [SC ns,.int (i:Int)] M= .ok (.str w) M:=by
 let⟨p,hp0,hp⟩:=Zt9<|dr ns 0;let⟨c,xp,hc⟩:=Zt9<|(i:Int)+dr ns 3;let⟨pl,ep,pv⟩:=p8 (dr ns 1) 8 aaE;have ep:dr ns 1 % 8=(pl:Int):=ep;have e8:(8:Int)-(pl:Int)=((8-pl:Nat):Int):=by omega
 let⟨t1,et1,ht1⟩:=p8 (dr ns 2) (8-pl) c8;let⟨t2,et2,ht2⟩:=p8 (dr ns<|4+i) (8-pl) c8
 let b:Bool:=decide<|dr ns 1 / 8 % 2=1
 have hb:decide (dr ns 1 / 8 % 2=1)=b:=rfl
 let t:Nat:=if b then t2 else t1
 have ht:t<8-pl:=by show(if b then t2 else t1)<_;split <;>assumption
 let w0:i4:=Yg pl p++[c]++Yg t p
 have hw0:b9 w0<=8:=by simp only[w0,Ye,vI,Yh,gw];omega
 have main:∀M,p7 [SC ns,.int (i:Int)] M= .ok (.str<|if w0=qE then[97,100,100,100]else w0) M:=λM=>by
  refine(iR (M':=M) (d:=.str<|if w0=qE then[97,100,100,100]else w0) (env:=[O<|SC ns,e5 i,Yj,Yj,Yj,Yj,Yj]) ?_).trans (QQ aaD);unfold HC;rw[Zm<|bU (d:=.str oX) aaD,Zm<|bU (d:=.str [p])<|Zg aaD (Zg (sV hl (k:=0) aaD aaD) aaD<|fj aaE)<|hp M,
   Zm (bU (d:=.int (pl:Int))<|Zg (sV hl (k:=1) aaD aaD) aaD<|(fj aaE).trans<|by rw[ep]),
   Zm (bU (d:=.int (t1:Int))<|Zg (sV hl (k:=2) aaD aaD) (Zg aaD aaD<|by rw[Xv,e8])<|(fj c8).trans<|by rw[et1])]
  have EB:∀x:oS,e2 bJ cn nN [O<|SC ns,e5 (i:Int),rf oX,rf [p],e5 (pl:Int),e5 (t1:Int),x] M= .ok (.bl b) M:=λx=>Zg (Zg (Zg (sV hl (k:=1) aaD aaD) aaD<|lN aaE) aaD<|fj aaE) aaD aaD;have step:aQ br bP cG [O<|SC ns,e5 (i:Int),rf oX,rf [p],e5 (pl:Int),e5 (t1:Int),Yj] M= .nx [O<|SC ns,e5 (i:Int),rf oX,rf [p],e5 (pl:Int),e5 (t:Int),Yj] M:=by
   cases A7:b with
   |false=>
    have h1:=EB Yj;rw[A7]at h1;have et:t=t1:=by show(if b then t2 else t1)=t1;rw[A7];rfl
    rw[fU h1,et];rfl
   |true=>
    have h1:=EB Yj;rw[A7]at h1;have et:t=t2:=by show(if b then t2 else t1)=t2;rw[A7];rfl
    rw[eN h1,et];exact bU (Zg (sV hl (k:=4+i) aaD vb) (Zg aaD aaD<|by rw[Xv,e8])<|(fj c8).trans<|by rw[et2])
  rw[Zm step,Zm<|bU (d:=.str w0)<|Zg (Zg (Zg aaD aaD<|mul_str c8 M) (Zg aaD (Zg (Zg aaD (sV hl (k:=3) aaD aaD) aaD) aaD<|fj aaE)<|hc M)<|add_str (by simp only[vI,Ab];omega) M) (Zg aaD aaD<|mul_str c8 M)<|add_str (by simp only[Ye,vI,Ab];omega) M];by_cases e:w0=qE
  .rw[f_ e];exact oK<|(eN<|Zg aaD aaD<|qT e).trans aaD
  .rw[i6 e,Zm<|jt<|Zg aaD aaD<|iH e];rfl
 have zv:w0[pl]?=O c:=by simp[w0]
 refine⟨_,?_,?_,main⟩
 .by_cases e:w0=qE
  .rw[f_ e];exact⟨⟨0,3,100,97,rfl⟩,aaE,aaE⟩
  .rw[i6 e];exact⟨⟨pl,t,p,c,rfl⟩,e,hw0⟩
 .rw[ep,t6,xp];by_cases e:w0=qE
  .rw[f_ e];have h0:pl=0:=Zwd e;rw[e]at zv;rw[h0]at zv |-;exact zv
  .rwa[i6 e]
def ID{d:Int}(hd:0<=d):∃z:Int,∀M,uI [.int d] M= .ok (.int z) M:=by
 let⟨a,ea,ha⟩:=p8 d 4 aaE;let⟨b,eb,hb⟩:=p8 (d / 4) 2 aaE;have ea:d % 4=(a:Int):=ea;have eb:d / 4 % 2=(b:Int):=eb
 let xr:l8:=[d / 8 % 5,d / 8 % 1000,d / 8*4099 % 10^12,0]
 have h4:∃y:Int,(xr.map D.int)[a]?=e5 y:=⟨xr[a]'ha,by rw[lB,Y0 (show a<b9 xr from ha)];rfl⟩;let⟨y,hy⟩:=h4;have h2:∃z:Int,([D.int y,.int<|-y])[b]?=e5 z:=by
  match b,hb with
  |0,_=>exact⟨_,rfl⟩|1,_=>exact⟨_,rfl⟩
 let⟨z,hz⟩:=h2;refine⟨z,λM=>?_⟩;refine(iR (M':=M++[.L<|xr.map D.int,.L [.int y,.int<|-y]]) (d:=.int z) (env:=[e5 d,Yj]) ?_).trans (yu aaD);unfold HE;rw[Zm<|bU (d:=.ref<|b9 M) (M':=M++[.L<|xr.map D.int])<|jy (Zk xS<|Zk xS<|Zk (Zg (Zg (Zg aaD aaD<|lN aaE) aaD<|IC aaE M) vb<|fj aaE) xk) aaD];have ix:∀x:oS,e2 Zj (Zc 1) (e2 bH (Zc 0) oa) [e5 d,My<|b9 M] (M++[.L<|xr.map D.int])= .ok (.int y) (M++[.L<|xr.map D.int]):=λ_=>Zg aaD A8 (jF (cW M _ [])<|by rwa[ea,lH]);refine dh<|Zg (jy (ds:=[.int y,.int<|-y]) (Zk (ix Yj)<|Zk (di (ix Yj) aaD) aaD) aaD) xS ?_;rw[Y7];refine jF (xs:=[.int y,.int<|-y]) ?_ (by rwa[eb,lH]);rw[Ye];exact v6 M [.L<|xr.map D.int,.L [.int y,.int<|-y]] 1
inductive Sm where
 |num (i:Int)|bW (x:i4)|dw (a:Sm)|two (o:Nat) (a b:Sm)
abbrev p_:i4:=Co
def j7:Nat->i4
 |0=>qE|1=>tq|_=>sj
def Sm.flat:Sm->h8
 | .num i=>[.int i]|.bW x=>[.str x]|.dw a=>.str p_::a.flat|.two o a b=>.str (j7 o)::(a.flat++b.flat)
theorem _root_.BC{p:Prop}(h:p:=by simp[Sm.flat]):p:=h
def Sm.good:Sm->Prop
 | .num _=>True|.bW x=>bj x=false|.dw a=>a.good|.two _ a b=>a.good/\b.good
def Sm.all(Q:i4->Prop):Sm->Prop
 | .num _=>True|.bW x=>Q x|.dw a=>a.all Q|.two _ a b=>a.all Q/\b.all Q
variable{Q:i4->Prop}
theorem Sm.HD{R:i4->Prop}(h:∀x,Q x->R x):∀t:Sm,t.all Q->t.all R
 | .num _,_=>trivial|.bW x,q=>h x q|.dw a,q=>a.HD h q|.two _ a b,q=>⟨a.HD h q.1,b.HD h q.2⟩
theorem Sm.Nz:∀t:Sm,t.all (λx=>bj x=false)->t.good
 | .num _,_=>trivial|.bW _,q=>q|.dw a,q=>a.Nz q|.two _ a b,q=>⟨a.Nz q.1,b.Nz q.2⟩
def Sm.parts:Sm->List Sm
 | .num _=>[]|.bW _=>[]|.dw a=>[a]|.two _ a b=>[a,b]
def Sm.head:Sm->D
 | .num i=>.int i|.bW x=>.str x|.dw _=>.str p_|.two o _ _=>.str<|j7 o
def Sm.U3(t:Sm):t.flat=t.head::(t.parts.map Sm.flat).flatten:=by cases t<;>simp[Sm.flat,Sm.head,Sm.parts]
def ar:D->Nat
 | .str x=>if x=p_ then 1 else if bj x=true then 2 else 0|_=>0
inductive jW:D->Prop
 |int (i:Int):jW (.int i)
 |str (x:i4):jW (.str x)
theorem qb:∀(t:Sm),∀d∈t.flat,jW d
 | .num i,d,h=>by rw[Yp.mp h];exact .int i|.bW x,d,h=>by rw[Yp.mp h];exact .str x|.dw a,d,h=>by
  rcases Yt.mp h with h|h
  .rw[h];exact .str _
  .exact qb a d h
 | .two o a b,d,h=>by
  rcases Yt.mp h with h|h
  .rw[h];exact .str _
  .rcases Yr.mp h with h|h
   .exact qb a d h
   .exact qb b d h
def ZzE(x:i4):um x wC=if x=qE then O 2 else if x=tq then O 2 else if x=sj then O 2 else if x=p_ then O 1 else Yj:=rfl
def Zz7{w:D}(h:jW w)(M:c5):FP wC w (.int 0) M= .ok (.int (ar w:Nat)) M:=by
 cases h with
 |int i=>rfl|str x=>
  show(match um x wC with|some i=>R3.ok (D.int i) M|none=>R3.ok (D.int 0) M)=_;rw[ZzE];by_cases h1:x=qE
  .subst h1;rfl
  by_cases h2:x=tq
  .subst h2;rfl
  by_cases h3:x=sj
  .subst h3;rfl
  by_cases h4:x=p_
  .subst h4;rfl
  have:bj x=false:=pf λz=>z.elim h1 λz=>z.elim h2 λz=>z.elim h3 h4;simp only[i6 h1,i6 h2,i6 h3,i6 h4,ar,this];rfl
def sm(s:rk×Nat)(w:D):rk×Nat:=
 let s:=if s.2=0 then(s.1++[[]],1)else s
 (s.1.dropLast++[s.1.getLastD []++[w]],s.2-1+ar w)
def GK(ds:rk)(cur:h8)(l:Nat)(w:D):sm (ds++[cur],l+1) w=(ds++[cur++[w]],l+ar w):=by simp[sm]
def ZsC(ds:rk)(w:D):sm (ds,0) w=sm (ds++[[]],0+1) w:=by simp[sm]
theorem S8:∀(t:Sm),t.good->∀(ds:rk) (cur:h8) (l:Nat) (r:h8),(t.flat++r).foldl sm (ds++[cur],l+1)=r.foldl sm (ds++[cur++t.flat],l)
 | .num i,_,ds,cur,l,r=>by simp only[Sm.flat,pF,qy,qx,GK];rfl|.bW x,h,ds,cur,l,r=>by
  have e:ar (.str x)=0:=by
   have h:bj x=false:=h;have h':x≠p_:=λz=>by subst z;exact oz h aaE
   simp only[ar,i6 h',h];rfl
  simp only[Sm.flat,pF,qy,qx,GK,e,Wi]
 | .dw a,h,ds,cur,l,r=>by have e:ar (.str p_)=1:=rfl;simp only[Sm.flat,pF,qx,GK,e,S8 a h,Y7,qy]|.two o a b,h,ds,cur,l,r=>by
  have e:ar (.str<|j7 o)=2:=by
   match o with
   |0=>rfl|1=>rfl|_+2=>rfl
  have e2:l+2=l+1+1:=rfl;simp only[Sm.flat,pF,qx,GK,e,Y7,e2,S8 a h.1,S8 b h.2,qy]
def S_(t:Sm):∃w r,t.flat=w::r:=⟨_,_,t.U3⟩
def ZwJ(t:Sm)(h:t.good)(ds:rk)(r:h8):(t.flat++r).foldl sm (ds,0)=r.foldl sm (ds++[t.flat],0):=by let⟨w,q,e⟩:=S_ t;have h1:=S8 t h ds [] 0 r;rw[qy]at h1;rw[<-h1,e,pF,qx,qx,ZsC]
theorem Zst:∀(ts:List Sm),(∀t∈ts,t.good)->∀ds,(ts.map Sm.flat).flatten.foldl sm (ds,0)=(ds++ts.map Sm.flat,0)
 |[],_,ds=>by simp|t::ts,h,ds=>by rw[Y2,tU,ZwJ t<|h t Yv,Zst ts λt ht=>h t<|Yk _ ht];simp
def nJ(n j:Nat):h8:=(fM j).map λk=>D.ref<|n+1+k
def gn(M:c5)(done:rk):c5:=M++ .L (nJ (b9 M)<|b9 done)::done.map MO.L
def ZrO(M:c5)(done:rk):b9 (gn M done)=b9 M+1+b9 done:=by simp only[gn,Ye,Yh,Y3];exact iJ c8 c8
def Mu(M:c5)(done:rk):(gn M done)[b9 M]?=O (.L<|nJ (b9 M)<|b9 done):=cW _ _ _
def Zvn(M:c5)(done:rk)(k:Nat):(gn M done)[b9 M+1+k]?=(done[k]?).map MO.L:=by rw[gn,tZ,v6,Ai 1 k,Iz,lB]
def Zma(n j:Nat):nJ n (j+1)=nJ n j++[D.ref<|n+1+j]:=by simp[nJ,List.range_succ]
def Zya(M:c5)(done:rk):(gn M done++[MO.L []]).set (b9 M) (MO.L<|nJ (b9 M) (b9 done)++[D.ref<|b9<|gn M done])=gn M (done++[[]]):=by have h:=JM M (MO.L (nJ (b9 M)<|b9 done)::done.map MO.L++[MO.L []]) 0<|MO.L<|nJ (b9 M) (b9 done)++[D.ref<|b9<|gn M done];rw[Wi]at h;rw[ZrO]at h |-;rw[gn,Y7,h,gn,Ye,Ab,Zma];simp
def ZwB(M:c5)(ds:rk)(cur:h8)(w:D):(gn M<|ds++[cur]).set (b9 M+1+b9 ds) (MO.L<|cur++[w])=gn M (ds++[cur++[w]]):=by rw[gn,tZ,JM,gn];simp[Ai 1]
def Zm7{α:Type}{enc h:α->D}{it:iD}{g:G3}{n:Nat}{elt:E3}{I:Zz->Prop}{M:c5}:∀(as:List α) (acc:h8) (env:Zz),I env ->
  (∀a∈as,∀env,I env->∃cY,g (enc a) env=O cY/\I cY/\∀x,elt cY (M.set n<|.L x)= .ok (h a) (M.set n<|.L x))->(∀x,i8 it (M.set n<|.L x)=true)->n<b9 M->b9 acc+b9 as<=SZ ->
  eG it g [] elt n (as.map enc) env (M.set n<|.L acc)= .ok (.ref n) (M.set n<|.L<|acc++as.map h)
 |[],acc,env,_,_,hl,_,_=>by simp only[rH,QM,hl,if_true,gJ]|a::as,acc,env,hI,hf,hl,hn,hz=>by
  let⟨cY,hg,IE,he⟩:=hf a Yv env hI;have gt:(M.set n<|.L acc)[n]?=O (.L acc):=by simp[hn]
  have lt:b9 acc<SZ:=by simp only[Yh]at hz;omega
  have ih:=Zm7 as (acc++[h a]) cY IE (λb hb=>hf b<|Yk _ hb) hl hn (by simp only[Ye,Yh,gw]at hz |-;omega);simp only[Y2,Fv,hl,if_true,hg,Ft,QL,R3.bind,he,gt,lt,tW];rw[ih];simp
def IF{α:Type}{enc h:α->D}{own:Nat}{i:I3}{g:G3}{elt:E3}{M M1:c5}{lock:Option Nat}{as:List α}(I:Zz->Prop)(hi:i env M= .ok ⟨as.map enc,lock⟩ M1)(U5:∀n,lock=O n->M1[n]?=O (.L<|as.map enc))(hI:I (env++Yg own Yj))(hf:∀a∈as,∀env,I env->∃cY,g (enc a) env=O cY/\I cY/\∀x,elt cY (M1++[.L x])= .ok (h a) (M1++[.L x]))(hz:b9 as<=100000):
  lG i own g [] elt env M= .ok (.ref<|b9 M1) (M1++[.L<|as.map h]):=by
 have st:∀x:h8,(M1++[MO.L []]).set (b9 M1) (.L x)=M1++[.L x]:=λx=>by simp
 rw [XF hi];have:=Zm7 (enc:=enc) (h:=h) (it:=⟨as.map enc,lock⟩) (g:=g) (n:=b9 M1) (elt:=elt) (I:=I) (M:=M1++[.L []]) as [] (env++Yg own Yj) hI
  (λa ha e he=>by let⟨e1,h1,h2,h3⟩:=hf a ha e he;exact⟨e1,h1,h2,λx=>by rw[st];exact h3 x⟩)
  (λx=>by
   rw[st];cases lock with
   |none=>rfl|some n=>simp only[i8,decide_eq_true_eq];exact h_ (U5 n aaD) _) j0 oP
 rw[st,st]at this;simpa using this
def ZqY{x:h8}(h:M[n]?=O (.L x)):jT [.ref n] M= .ok (.U x) M:=by simp[h]
abbrev IG:S3:=Zx (aQ lh (Zx (aG<|bA bO cQ (Zc 1) mP)<|aD 2 nN) cG)<|Zx (aG eh) cE
def ZsW(n j:Nat):b9 (nJ n j)=j:=by simp[nJ]
def Cv{M M' M2:c5}{o t:E3}(ho:o env M= .ok (.ref n) M')(hM:M'[n]?=O (.L xs))(ht:t env M'= .ok d M2)(IB:M2[n]?=O (.L xs))(hl:b9 xs<SZ):
  aG (bA bO cQ o<|Za t Ze) env M= .nx env (M2.set n<|.L<|xs++[d]):=by
 have e:bA bO cQ o (Za t Ze) env M= .ok .Z (M2.set n<|.L<|xs++[d]):=by simp only[bA,ho,R3.bind,A_,hM,Za,ht,Ze,QC,IB,f_ hl,if_true]
 rw[aG,e]
def Zps(M:c5)(ds:rk)(cur:h8)(l:Nat)(w W:D)(hw:jW w)(h1:b9 ds<1000)(h2:b9 cur<1000):
  (Zx (aG eh) cE) [O W,My<|b9 M,e5 ((l+1:Nat):Int),O w] (gn M<|ds++[cur])
   = .nx [O W,My<|b9 M,e5 ((l+ar w:Nat):Int),O w] (gn M<|ds++[cur++[w]]):=by
 have hr:nJ (b9 M) (b9<|ds++[cur])=nJ (b9 M) (b9 ds)++[.ref<|b9 M+1+b9 ds]:=by rw[Ye,Ab,Zma]
 have zv:(gn M<|ds++[cur])[b9 M+1+b9 ds]?=O (.L cur):=by rw[Zvn];simp
 refine(Zm<|Cv (M':=gn M<|ds++[cur]) (Zg aaD (di aaD<|Qx 1)<|jF (Mu M _) (by rw[hr];exact getD_last _ _)) zv aaD zv<|j4 h2 aaE).trans ?_;rw[ZwB];refine bU<|Zg vb (Zg aaD aaD<|Zz7 hw _) ?_;rw[yp];congr 2;exact N2 c8 c8
def Zs0(M:c5)(done:rk)(l:Nat)(w W:D)(hw:jW w)(h1:b9 done<900)(h2:∀c∈done,b9 c<900)(hn:l≠0->done≠[]):
  IG [O W,My<|b9 M,e5 (l:Int),O w] (gn M done)= .nx [O W,My<|b9 M,O<|.int ((sm (done,l) w).2:Nat),O w] (gn M (sm (done,l) w).1):=by
 cases l with
 |zero=>
  rw[ZsC,GK];have hz:b9 (nJ (b9 M)<|b9 done)<SZ:=by rw[ZsW];exact j4 h1 aaE
  show Zx _ _ _ _=_;refine(Zm<|(eN<|Zg aaD aaD<|mC aaD).trans<|(Zm<|sU aaD (Mu M done) zt (h_ (Mu M done) _) hz).trans<|bU (d:=.int 1) aaD).trans ?_;rw[Zya];exact Zps M done [] 0 w W hw c8 j0
 |succ l=>have hd:=hn (λz=>by omega);have e:done=done.dropLast++[done.getLast hd]:=(MQ hd).symm;generalize done.dropLast=ds at e;generalize done.getLast hd=cur at e;subst e;rw[GK];show Zx _ _ _ _=_;refine(Zm<|jt<|Zg aaD aaD<|iW λz=>by omega).trans ?_;exact Zps M ds cur l w W hw (by simp at h1;omega) (by have:=h2 cur j0;omega)
def ZrH(s:rk×Nat)(w:D):(sm s w).1.length<=b9 s.1+1/\(sm s w).1≠[]:=by
 unfold sm;by_cases h:s.2=0
 .simp[h]
 .simp[h]
def ZxG(s:rk×Nat)(w:D)(k:Nat)(h:∀c∈s.1,b9 c<=k):∀c∈(sm s w).1,b9 c<=k+1:=by
 have key:∀x:rk,(∀c∈x,b9 c<=k)->∀c∈x.dropLast++[x.getLastD []++[w]],b9 c<=k+1:=by
  intro x hx c hc;rcases Yr.mp hc with hc|hc
  .exact Nat.le_succ_of_le<|hx c<|MY _ hc
  .rw[Yp.mp hc,Ye,Ab];refine Ja ?_;cases x with
   |nil=>exact dY _|cons a x=>exact hx _ (by rw[List.getLastD_cons];exact(show(x.getLastD a)∈a::x by rw[List.getLastD_eq_getLast?];cases sD:x.getLast? with|none=>simp|some y=>exact Yk _<|List.mem_of_getLast? sD))
 unfold sm;by_cases hs:s.2=0
 .simp only[hs,if_true];exact key _ λc hc=>by
   rcases Yr.mp hc with hc|hc
   .exact h c hc
   .rw[Yp.mp hc];exact dY _
 .simp only[hs,if_false];exact key _ h
def ZsT(M:c5)(W:D)(ws:h8)(hw:∀w∈ws,jW w)(hl:b9 ws<=500)(x0:oS)(it:iD)(hi:∀done,i8 it (gn M done)=true):
  ∃x,dF it (bK 3) IG ws [O W,My<|b9 M,e5 0,x0] (gn M [])= .nx [O W,My<|b9 M,O<|.int ((ws.foldl sm ([],0)).2:Nat),x] (gn M (ws.foldl sm ([],0)).1):=by
 have main:∀(ws:h8) (done:rk) (l k:Nat) (x0:oS),(∀w∈ws,jW w)->k+b9 ws<=500->b9 done<=k->(∀c∈done,b9 c<=k)->(l≠0->done≠[]) ->
   ∃x,dF it (bK 3) IG ws [O W,My<|b9 M,e5 (l:Int),x0] (gn M done)= .nx [O W,My<|b9 M,O<|.int ((ws.foldl sm (done,l)).2:Nat),x] (gn M (ws.foldl sm (done,l)).1):=by
  intro ws
  induction ws with
  |nil=>intro done l k x0 _ _ _ _ _;exact⟨x0,by rw[pW,f_<|hi _];rfl⟩|cons w ws ih=>intro done l k x0 hw hk h1 h2 hn;rw[Yh]at hk;let⟨x,hx⟩:=ih (sm (done,l) w).1 (sm (done,l) w).2 (k+1) (O w) (λy hy=>hw y<|Yk _ hy) c8 (by have:=(ZrH (done,l) w).1;simp only at this;omega) (ZxG (done,l) w k h2) λ_=>(ZrH (done,l) w).2;refine⟨x,?_⟩;rw[oH,f_<|hi _];have:=Zs0 M done l w W (hw w Yv) c8 (λc hc=>by have:=h2 c hc;omega) hn;simp only[bK,lW,lX,this];exact hx
 exact main ws [] 0 0 x0 hw c8 (dY _) (λc hc=>by cases hc) λh=>oz aaD h
variable{it:iD}
def Zpp(M:c5)(ts:List Sm)(hg:∀t∈ts,t.good)(hl:(ts.map Sm.flat).flatten.length<=500){W:D}(qV:it.items=(ts.map Sm.flat).flatten)(hi:∀done,i8 it (gn M done)=true)(hv:g_ (Zc 0) [O W,My<|b9 M,e5 0,Yj] (gn M [])= .ok it (gn M [])):∃G k,KC [W] M= .ok (.ref<|b9 M+k) (M++G)/\G[k]?=O (.L<|ts.map λt=>.U t.flat):=by
 have hws:∀w∈(ts.map Sm.flat).flatten,jW w:=λw hw=>by let⟨l,h1,h2⟩:=List.mem_flatten.mp hw;let⟨t,_,rfl⟩:=rJ.mp h1;exact qb t w h2
 let⟨x,hx⟩:=ZsT M W _ hws hl Yj it hi;rw[Zst ts hg]at hx;simp only[qy]at hx;have hn:b9 (ts.map Sm.flat)<=100000:=by
  have:∀l:List Sm,b9 (l.map Sm.flat)<=(l.map Sm.flat).flatten.length:=by
   intro l
   induction l with
   |nil=>exact Yn _|cons t l ih=>rw[Y2,tU,Ye,Yh];let⟨w,r,e⟩:=S_ t;rw[e,Yh];omega
  have:=this ts;omega
 let S:=gn M<|ts.map Sm.flat
 have lc:lG (g_<|Zc 1) 1 (bK 4) [] mm [O W,My<|b9 M,e5 ((0:Nat):Int),x] S= .ok (.ref<|b9 S) (S++[.L<|(fM<|b9<|ts.map Sm.flat).map λk=>D.U<|(ts.map Sm.flat).getD k []]):=by
  refine IF (enc:=λk=>D.ref<|b9 M+1+k) (h:=λk=>D.U<|(ts.map Sm.flat).getD k []) (as:=fM<|b9<|ts.map Sm.flat) (M1:=S) (lock:=O<|b9 M) (λe=>∃a b c d y,e=[a,b,c,d,y]) ?_ ?_ ⟨_,_,_,_,_,rfl⟩ ?_ (by rwa[V8])
  .show(R3.ok (D.ref<|b9 M) S).bind _=_;simp only[R3.bind];rw[show S[b9 M]?=_ from Mu M _];rfl
  .intro n A6;cases A6;exact Mu M _
  .intro k hk env ⟨a,b,c,d,y,e⟩;subst e;have hk:=I_.mp hk;refine⟨_,rfl,⟨_,_,_,_,_,rfl⟩,λz=>?_⟩;refine eO aaD ?_;refine(ZqY (x:=(ts.map Sm.flat).getD k [])<|h_ ?_ _);rw[Zvn,Y0 hk,vH,Y0 hk];rfl
 have so:((fM<|b9<|ts.map Sm.flat).map λk=>D.U<|(ts.map Sm.flat).getD k [])=ts.map λt=>D.U t.flat:=by
  apply O2;intro j;rw[lB,lB];by_cases hj:j<ts.length
  .rw[List.getElem?_range (by simpa using hj),Y0 hj];simp[vH,lB,Y0 hj]
  .rw[MV (by simpa using hj),MV<|by simpa using hj];rfl
 rw[so]at lc;have hS:S=M++(.L (nJ (b9 M)<|b9<|ts.map Sm.flat)::(ts.map Sm.flat).map MO.L):=rfl;refine⟨(.L (nJ (b9 M)<|b9<|ts.map Sm.flat)::(ts.map Sm.flat).map MO.L)++[.L<|ts.map λt=>.U t.flat],1+b9 (ts.map Sm.flat),?_,?_⟩
 .have i7:b9 S=b9 M+(1+b9 (ts.map Sm.flat)):=by rw[ZrO,tZ]
  refine(iR (M':=S++[.L<|ts.map λt=>.U t.flat]) (d:=.ref<|b9 S) (env:=[O W,Yj,Yj,Yj]) ?_).trans ?_
  .unfold G1;rw[Zm<|bU (d:=.ref<|b9 M) (M':=gn M []) zt,Zm<|bU (d:=.int 0) aaD,Zm<|(Bb (it:=it) hv).trans<|by rwa[qV]];exact dh<|(QS<|Zg aaD aaD<|mC aaD).trans lc
  .have hb:below (b9 M) (.ref<|b9 S)=false:=by show decide (b9 S<b9 M)=false;rw[i7];exact pf (λz=>by omega)
   rw[tidy,hb,i7,hS,Y7];rfl
 .simp[Ai 1]
def Zrj(M:c5)(ts:List Sm)(hg:∀t∈ts,t.good)(hl:(ts.map Sm.flat).flatten.length<=500):∃G k,KC [.U (ts.map Sm.flat).flatten] M= .ok (.ref<|b9 M+k) (M++G)/\G[k]?=O (.L<|ts.map λt=>.U t.flat):=Zpp M ts hg hl (it:=⟨(ts.map Sm.flat).flatten,Yj⟩) aaD (λ_=>rfl) aaD
def ZpP(M:c5)(t:Sm)(hg:t.good)(hl:b9 t.flat<=500):∃G k,wD [.U t.flat] M= .ok (.ref<|b9 M+k) (M++G)/\G[k]?=O (.L<|t.parts.map λt=>.U t.flat):=by
 have hgp:∀s∈t.parts,s.good:=by
  cases t with
  |num _=>intro s h;cases h|bW _=>intro s h;cases h|dw a=>intro s h;rwa[Yp.mp h]|two o a b=>
   intro s h;rcases Yt.mp h with h|h
   .rw[h];exact hg.1
   .rw[Yp.mp h];exact hg.2
 have e:=t.U3;have z5:(t.parts.map Sm.flat).flatten.length<=500:=by rw[e,Yh]at hl;omega
 let⟨G,k,h1,h2⟩:=Zrj M t.parts hgp z5;refine⟨G,k,?_,h2⟩;refine(iR (M':=M++G) (d:=.ref<|b9 M+k) (env:=[O<|.U t.flat]) ?_).trans ?_
 .unfold Ha;refine dh<|lJ (M1:=M) (a:=.U (t.parts.map Sm.flat).flatten) ?_ h1;show R3.ok (D.U<|oC t.flat (O ((1:Nat):Int)) Yj) M=_;rw[Zpo,e];rfl
 .have hb:below (b9 M) (.ref<|b9 M+k)=false:=pf (λz=>by omega);rw[tidy,hb];rfl
abbrev II:S3:=Zx df<|Zx (aD 5 lI)<|aQ (jO fg fF) (aQ du (aG dn)<|aG bu)<|aQ fN (Zx (aG eS)<|aD 5<|e2 Zy (Zc 5) nN)<|Zx (aG ay)<|aD 5<|e2 Zy (Zc 5) nS
inductive GP(Q:i4->Prop)(lim n d:Nat):D->Nat->Prop
 |num (i:Int):GP Q lim n d (.int i) d
 |bW (x:i4) (h:Q x):GP Q lim n d (.str x) d
 |dw (h:n+d<lim):GP Q lim n d (.str p_) (d+1)
 |two (o:Nat) (h:n+d<lim):GP Q lim n d (.str (j7 o)) (d+2)
def Due(Q:i4->Prop)(words:h8)(due:Nat):Prop:=∀ts:List Sm,b9 ts=due->(∀t∈ts,t.all Q)->∃t:Sm,t.all Q/\t.flat=words++(ts.map Sm.flat).flatten
def AfY:Due Q [] 1:=λts h hg=>by
 match ts,h with
 |[t],_=>exact⟨t,hg t j0,j0⟩
variable{words:h8}
def Tc{d:Nat}{t:Sm}{ts:List Sm}(h:Due Q words (d+1))(hl:b9 ts=d)(ht:t.all Q)(hg:∀t∈ts,t.all Q):∃s:Sm,s.all Q/\s.flat=words++(t.flat++(ts.map Sm.flat).flatten):=by
 let⟨s,h1,h2⟩:=h (t::ts) (by rw[Yh,hl]) (λx hx=>by
  rcases Yt.mp hx with e|e
  .rwa[e]
  .exact hg x e)
 exact⟨s,h1,h2⟩
def Zt6{lim n d xH:Nat}{w:D}(h:Due Q words (d+1))(t:GP Q lim n d w xH):Due Q (words++[w]) xH:=by
 cases t with
 |num i=>exactλts hl hg=>by simpa[Sm.flat]using Tc h hl (t:=.num i) trivial hg|bW x hx=>exactλts hl hg=>by simpa[Sm.flat]using Tc h hl (t:=.bW x) hx hg|dw hh=>
  intro ts hl hg;cases ts with
  |nil=>cases hl|cons a ts=>simpa[Sm.flat]using Tc h (P0 hl) (t:=.dw a) (hg a j0) λt ht=>hg t<|Yk _ ht
 | two o hh=>
  intro ts hl hg;cases ts with
  |nil=>cases hl|cons a ts=>cases ts with
   |nil=>simp at hl|cons b ts=>simpa[Sm.flat]using Tc h (by simp at hl;omega) (t:=.two o a b) ⟨hg a j0,hg b j0⟩ λt ht=>hg t<|Yk _<|Yk _ ht
def GQ{G:c5}{x y:h8}:(M++ .L x::G).set (b9 M) (.L y)=M++ .L y::G:=by have:=JM M (.L x::G) 0<|.L y;simpa using this
def Zs8(hl:b9 ns<=63){G:c5}{nr at0 lim d:Nat}{names:k9}(hn:M[nr]?=O (.L<|names.map D.str))(oq:0<b9 names)(n9:b9 names<1000)(sN:∀x∈names,Q x)(hw:b9 words<1000)(x:oS):
  ∃w xH G' Td,GP Q lim (b9 words) d w xH/\II [O<|SC ns,e5 (at0:Int),My nr,e5 (lim:Int),My<|b9 M,e5 ((d+1:Nat):Int),x] (M++ .L words::G)=
   .nx [O<|SC ns,e5 (at0:Int),My nr,e5 (lim:Int),My<|b9 M,e5 (xH:Nat),Td] (M++ .L (words++[w])::G'):=by
 have h4:(M++ .L words::G)[b9 M]?=O (.L words):=cW _ _ _;have i7:∀{env:Zz},Zc 4 env (M++ .L words::G)= .ok (.ref<|b9 M) (M++ .L words::G)->aL a_ nt env (M++ .L words::G)= .ok (.int (b9 words:Int)) (M++ .L words::G):=λh=>eO h<|kO h4;have Te:b9 words<SZ:=j4 hw aaE
 let D0:=dr ns<|at0+b9 words
 have hD:0<=D0:=Zyw _ _;have s1:aD 6 dP [O<|SC ns,e5 (at0:Int),My nr,e5 (lim:Int),My<|b9 M,e5 ((d+1:Nat):Int),x] (M++ .L words::G)= .nx [O<|SC ns,e5 (at0:Int),My nr,e5 (lim:Int),My<|b9 M,e5 ((d+1:Nat):Int),e5 D0] (M++ .L words::G):=bU<|sV hl (k:=at0+b9 words) aaD<|Zg aaD (i7 aaD) aaD;have s2:aD 5 lI [O<|SC ns,e5 (at0:Int),My nr,e5 (lim:Int),My<|b9 M,e5 ((d+1:Nat):Int),e5 D0] (M++ .L words::G)= .nx [O<|SC ns,e5 (at0:Int),My nr,e5 (lim:Int),My<|b9 M,e5 (d:Int),e5 D0] (M++ .L words::G):=bU (d:=.int (d:Int)) (Zg aaD aaD (by rw[Xv];congr 2;omega));have c1:∀b:Bool,(b=true↔(lim:Int)<=(b9 words:Int)+(d:Int)\/D0 % 5<2)->jO fg fF [O<|SC ns,e5 (at0:Int),My nr,e5 (lim:Int),My<|b9 M,e5 (d:Int),e5 D0] (M++ .L words::G)= .ok (.bl b) (M++ .L words::G):=λb hb=>by
  by_cases hq:(lim:Int)<=(b9 words:Int)+(d:Int)
  .have:b=true:=hb.mpr<|.inl hq;subst this;exact XQ (Zg (Zg (i7 aaD) aaD aaD) aaD<|by rw[UP,qc hq])
  .rw[yC<|Zg (Zg (i7 aaD) aaD aaD) aaD<|by rw[UP,pf hq]];refine Zg A8 aaD ?_;rw[yr];congr 2;cases hb2:b with
   |true=>exact qc ((hb.mp hb2).resolve_left hq)|false=>exact pf λz=>by have:=hb.mpr<|.inr z;rw[hb2]at this;cases this
 show∃w xH G' Td,_/\Zx _ _ _ _=_;rw[Zm s1,Zm s2];by_cases AaK:(lim:Int)<=(b9 words:Int)+(d:Int)\/D0 % 5<2
 .rw[eN<|c1 true ⟨λ_=>AaK,λ_=>rfl⟩];by_cases h3:D0 / 5 % 3=0
  .let⟨z,hz⟩:=ID (d:=D0 / 15) c8;refine⟨.int z,d,G,e5 D0,.num z,?_⟩;rw[eN<|Zg xS aaD<|mC h3,sU aaD h4 (lJ (Zg aaD aaD<|lN aaE)<|hz _) h4 Te,GQ]
  .let⟨a,ea,ha⟩:=p8 (D0 / 15) (b9 names) oq;have hga:names[a]?=O (names[a]'ha):=Y0 ha;refine⟨.str<|names[a]'ha,d,G,e5 D0,.bW _<|sN _<|xT ha,?_⟩;have EC:(M++ .L words::G)[nr]?=O (.L<|names.map D.str):=h_ hn _;rw[fU<|Zg xS aaD<|iW h3,sU aaD h4 (Zg aaD (Zg (Zg aaD aaD<|lN aaE) (eO aaD<|kO EC)<|fj (by rw[Y3];omega))<|jF EC (by rw[Y3,ea,lH,lB,hga];rfl)) h4 Te,GQ]
 .have yT:b9 words+d<lim:=by omega
  rw[fU<|c1 false ⟨λz=>ft z,λz=>oz z AaK⟩];by_cases h2:D0 % 5=2
  .refine⟨.str p_,d+1,G,e5 D0,.dw yT,?_⟩;rw[eN<|Zg A8 aaD<|mC h2,Zm<|sU aaD h4 aaD h4 Te,GQ];exact bU vb
  .let⟨o,eo,ho⟩:=p8 (D0 / 5) 3 aaE;have eo:D0 / 5 % 3=(o:Int):=eo;refine⟨.str<|j7 o,d+2,G++[.L [.str qE,.str tq,.str sj]],e5 D0,.two o yT,?_⟩;have XM:M++ .L words::G++[.L [.str qE,.str tq,.str sj]]=M++ .L words::(G++[.L [.str qE,.str tq,.str sj]]):=by simp
   have hi:[D.str qE,.str tq,.str sj][o]?=rf (j7 o):=by
    match o,ho with
    |0,_=>rfl|1,_=>rfl|2,_=>rfl
   rw[fU<|Zg A8 aaD<|iW h2,Zm (sU (M':=M++ .L words::(G++[.L [.str qE,.str tq,.str sj]])) aaD h4 (Zg (jy (ds:=[.str qE,.str tq,.str sj]) aaD aaD) xS (by rw[<-XM];exact jF (cW _ _ [])<|by rwa[eo,lH])) (cW _ _ _) Te),GQ];exact bU vb
def Zqj(hl:b9 ns<=63){nr at0 lim:Nat}{names:k9}(hn:M[nr]?=O (.L<|names.map D.str))(oq:0<b9 names)(n9:b9 names<1000)(sN:∀x∈names,Q x)(vE:lim<=900):
  ∀(m pb d:Nat) (words:h8) (G:c5) (x:oS),b9 words+m=lim+2->m<pb->b9 words+d<=lim+2->Due Q words d->(∀w∈words,jW w) ->
  ∃t:Sm,t.all Q/\t.flat.length<=lim+2/\(∀w∈t.flat,jW w)/\∃G' x',jl (e2 iQ (Zc 5) nL) II pb [O<|SC ns,e5 (at0:Int),My nr,e5 (lim:Int),My<|b9 M,e5 (d:Int),x] (M++ .L words::G)=
   .nx [O<|SC ns,e5 (at0:Int),My nr,e5 (lim:Int),My<|b9 M,e5 0,x'] (M++ .L t.flat::G'):=by
 intro m
 induction m with
 |zero=>
  intro pb d words G x hm hf hd NZ hw;have:d=0:=by omega
  subst this;let⟨t,h1,h2⟩:=NZ [] aaD (λt ht=>by cases ht);have h2:t.flat=words:=by simpa using h2
  refine⟨t,h1,by rw[h2];omega,by rwa[h2],G,x,?_⟩;obtain⟨f,rfl⟩:∃f,pb=f+1:=⟨pb-1,c8⟩;rw[oJ,h2];rfl
 | succ m ih=>
  intro pb d words G x hm hf hd NZ hw;obtain⟨f,rfl⟩:∃f,pb=f+1:=⟨pb-1,c8⟩;cases d with
  |zero=>
   let⟨t,h1,h2⟩:=NZ [] aaD (λt ht=>by cases ht);have h2:t.flat=words:=by simpa using h2
   refine⟨t,h1,by rw[h2];omega,by rwa[h2],G,x,?_⟩;rw[oJ,h2];rfl
  | succ d=>
   let⟨w,xH,G',Td,ht,hb⟩:=Zs8 (at0:=at0) (lim:=lim) (d:=d) (G:=G) hl hn oq n9 sN (words:=words) c8 x;have i7:b9 (words++[w])=b9 words+1:=by simp
   have AdN:=Zt6 NZ ht;have hiw:jW w:=by cases ht<;>first|exact .int _|exact .str _
   let⟨t,g1,g2,g3,ZiS,x2,g4⟩:=ih f xH (words++[w]) G' Td c8 c8 (by rw[i7];cases ht<;>omega) AdN (λy hy=>by
    rcases Yr.mp hy with hy|hy
    .exact hw y hy
    .rwa[Yp.mp hy])
   refine⟨t,g1,g2,g3,ZiS,x2,?_⟩;rw[oJ];have hc:e2 iQ (Zc 5) nL [O<|SC ns,e5 (at0:Int),My nr,e5 (lim:Int),My<|b9 M,e5 ((d+1:Nat):Int),x] (M++ .L words::G)= .ok (.bl true) (M++ .L words::G):=Zg aaD aaD (by rw[pN,qc c8]);rw[hc];show(match II _ _ with| .nx e M'=>_| .ct e M'=>_| .bk e M'=>_|o=>o)=_;rwa[hb]
theorem qU{n:Nat}:∀{l:h8},(∀w∈l,jW w)->cu n l=true
 |[],_=>rfl|w::l,h=>by
  have h1:below n w=true:=by cases h w Yv<;>rfl
  show(below n w&&cu n l)=true;rw[h1,qU λx hx=>h x<|Yk _ hx];rfl
def Zsl(hl:b9 ns<=63){nr at0 lim:Nat}{names:k9}(hn:M[nr]?=O (.L<|names.map D.str))(oq:0<b9 names)(n9:b9 names<1000)(sN:∀x∈names,Q x)(vE:lim<=900):
  ∃t:Sm,t.all Q/\t.flat.length<=lim+2/\qR [SC ns,.int (at0:Int),.ref nr,.int (lim:Int)] M= .ok (.U t.flat) M:=by
 let⟨t,h1,h2,h3,G,x,h4⟩:=Zqj (at0:=at0) hl hn oq n9 sN vE (lim+2) 1000000 1 [] [] Yj j0 c8 j0 AfY (λw hw=>by cases hw);refine⟨t,h1,h2,?_⟩;refine(iR (M':=M++ .L t.flat::G) (d:=.U t.flat) (env:=[O<|SC ns,e5 (at0:Int),My nr,e5 (lim:Int),Yj,Yj,Yj]) ?_).trans (yu (by show cu _ _=true;exact qU h3));unfold HG;rw[Zm<|bU (d:=.ref<|b9 M) (M':=M++[.L []]) zt,Zm<|bU (d:=.int 1) aaD];refine(Zm h4).trans ?_;exact dh<|eO aaD<|yx<|cW _ _ _
def he4(t:Sm):fK t.flat (0:Int)=O t.head:=by rw[t.U3];exact lH _ 0
theorem _root_.wy{p:Prop}(h:p:=by exact Zg aaD aaD<|mz<|he4 _):p:=h
def IJ{t p:Sm}(h:p∈t.parts):b9 p.flat<b9 t.flat:=by
 cases t with
 |num _=>cases h|bW _=>cases h|dw a=>rw[Yp.mp h];simp[Sm.flat]|two o a b=>
  rcases Yt.mp h with h|h
  .rw[h];simp[Sm.flat];omega
  .rw[Yp.mp h];simp[Sm.flat];omega
def Zm1{t p:Sm}(hg:t.good)(h:p∈t.parts):p.good:=by
 cases t with
 |num _=>cases h|bW _=>cases h|dw a=>rwa[Yp.mp h]|two o a b=>
  rcases Yt.mp h with h|h
  .rw[h];exact hg.1
  .rw[Yp.mp h];exact hg.2
variable{o:E3}
def Tf{ty:D->c5->Bool}{me:D->h8->c5->R3 D}{g:dg}{M M1 M2 M3:c5}{a:D}(h1:o env M= .ok a M1)(hi:ty a M1=true)(h2:g env M1= .ok ds M2)(h3:me a ds M2= .ok d M3):bA ty me o g env M= .ok d M3:=by simp only[bA,h1,R3.bind,hi,if_true,h2,h3]
def uM(kvs:l9):Prop:=∀k d,cD kvs k=O d->∃z,d= .int z
def ox(kvs:l9)(k:aH):Int:=match cD kvs k with
 |some (.int z)=>z|_=>0
variable{kvs:l9}
def uM.get(h:uM kvs)(k:aH):(cD kvs k).getD (.int 0)= .int (ox kvs k):=by
 unfold ox;cases e:cD kvs k with
 |none=>rfl|some d=>let⟨z,rfl⟩:=h k d e;rfl
def IL(h:uM kvs)(k:aH)(v:Int):uM (oI k (.int v) kvs):=λj d hd=>by
 rw[XX]at hd;by_cases e:j=k
 .rw[f_ e]at hd;exact⟨v,(Y9 hd).symm⟩
 .rw[i6 e]at hd;exact h j d hd
def ZoW:uM []:=λ_ _ h=>e_ h
def Tg(k:aH)(v:D)(kvs:l9):b9 (oI k v kvs)<=b9 kvs+1:=by unfold oI;split <;>simp
def Th{i:yD}{g:G3}{u:S3}{it:Be}(h:i env M= .ok it M'):yE i g u env M=ju it.lk g u it.items env M':=by rw[yE,h]
variable{S:c5}
def gD{o:MO}(h:M<+:S)(e:M[n]?=O o):S[n]?=O o:=by let⟨G,rfl⟩:=h;exact h_ e G
def uN{r:Nat}{o:MO}(h:M<+:S)(hr:b9 M<=r):M<+:S.set r o:=by let⟨G,rfl⟩:=h;let⟨k,rfl⟩:=Nat.le.dest hr;rw[JM];exact⟨_,rfl⟩
def LE(f:E3)(env:Zz)(M:c5)(xs:h8):Prop:=∃n S,f env M= .ok (.ref n) S/\M<+:S/\S[n]?=O (.L xs)
def LF(f:E3)(env:Zz)(M:c5)(xs:h8):Prop:=∃n S,f env M= .ok (.ref n) S/\M<+:S/\S[n]?=O (.L xs)/\M.length<=n
def FL(F:F3)(ds:h8)(M:c5)(xs:h8):Prop:=∃n S,F ds M= .ok (.ref n) S/\M<+:S/\S[n]?=O (.L xs)/\M.length<=n
def BL(M0:c5)(u:S3)(env:Zz)(M:c5)(xs:h8):Prop:=∃n S,u env M= .rt (.ref n) S/\M0<+:S/\S[n]?=O (.L xs)/\M0.length<=n
def LF.le(h:LF f env M xs):LE f env M xs:=let⟨n,S,a,b,c,_⟩:=h;⟨n,S,a,b,c⟩
def Zu7{m:Nat}{x y:h8}(h1:M[n]?=O (.L x))(h2:M[m]?=O (.L y))(hz:b9 x+b9 y<=900000):Zy (.ref n) (.ref m) M= .ok (.ref<|b9 M) (M++[.L<|x++y]):=by rw[Jt,h1,h2];exact f_<|Yx hz aaE
def LE.add{g:E3}{x y:h8}(hf:LE f env M x)(hg:∀S,M<+:S->LE g env S y)(hz:b9 x+b9 y<=900000):LF (e2 Zy f g) env M (x++y):=by let⟨n,S,h1,p1,g1⟩:=hf;let⟨m,S2,h2,p2,g2⟩:=hg S p1;exact⟨b9 S2,S2++[.L<|x++y],Zg h1 h2<|Zu7 (gD p2 g1) g2 hz,(p1.trans p2).trans<|mX _ _,cW _ _ _,(p1.trans p2).length_le⟩
variable{i:Nat}
def LE.var{x:h8}(h:Zc i env M= .ok (.ref n) M)(hx:M[n]?=O (.L x)):LE (Zc i) env M x:=⟨n,M,h,tV _,hx⟩
def LF.L{g:dg}{env:Zz}{M:c5}{ds:h8}(h:g env M= .ok ds M)(hl:decide (b9 ds<=100)=true):LF (bh g) env M ds:=⟨b9 M,M++[.L ds],jy h hl,mX _ _,cW _ _ _,Yn _⟩
variable{F:F3}
def LF.call{g:dg}{x:h8}(h:g env M= .ok ds M)(hF:FL F ds M x):LF (Zr F g) env M x:=by let⟨n,S,h1,p1,g1⟩:=hF;exact⟨n,S,by simp only[Zr,h,R3.bind,h1],p1,g1⟩
variable{M0:c5}
def BL.set{u:S3}{x xs:h8}(hf:LE f env M x)(hu:∀n S,M<+:S->S[n]?=O (.L x)->BL M0 u (env.set i<|My n) S xs):BL M0 (Zx (aD i f) u) env M xs:=by let⟨n,S,h1,p1,g1⟩:=hf;let⟨m,S2,h2,r⟩:=hu n S p1 g1;exact⟨m,S2,(Zm<|bU h1 aaD).trans h2,r⟩
def BL.Ie{u:S3}(hf:f env M= .ok d M)(hu:BL M0 u (env.set i<|O d) M xs):BL M0 (Zx (aD i f) u) env M xs:=by let⟨m,S2,h2,r⟩:=hu;exact⟨m,S2,(Zm<|bU hf aaD).trans h2,r⟩
def BL.ret(hf:LF f env M xs)(p:M0<+:M):BL M0 (aP f) env M xs:=by let⟨n,S,h1,p1,g1,l1⟩:=hf;exact⟨n,S,dh h1,p.trans p1,g1,Yx p.length_le l1⟩
def BL.skip{c:E3}{u v:S3}(hc:c env M= .ok (.bl false) M)(hv:BL M0 v env M xs):BL M0 (Zx (aQ c u cG) v) env M xs:=by let⟨n,S,h1,r⟩:=hv;exact⟨n,S,(Zm<|jt hc).trans h1,r⟩
def BL.take{c:E3}{u v w:S3}(hc:c env M= .ok (.bl true) M)(hu:BL M0 u env M xs):BL M0 (Zx (aQ c u w) v) env M xs:=by let⟨n,S,h1,r⟩:=hu;exact⟨n,S,oK<|(eN hc).trans h1,r⟩
def BL.step{u v:S3}{env':Zz}(hu:u env M= .nx env' S)(hv:BL M0 v env' S xs):BL M0 (Zx u v) env M xs:=by let⟨n,S2,h1,r⟩:=hv;exact⟨n,S2,(Zm hu).trans h1,r⟩
variable{ps:Nat}
def FL.of{body:S3}(h:BL M body env M xs)(hl:b9 ds=ps)(he:ds.map O++Yg (n-ps) Yj=env):FL (aK ps n body) ds M xs:=by let⟨k,S,h1,p1,g1,l1⟩:=h;refine⟨k,S,(iR (n:=n) h1 hl he).trans ?_,p1,g1,l1⟩;have hb:below (b9 M) (.ref k)=false:=pf (λz=>by omega);rw[tidy,hb];rfl
def Mv{o t:E3}{r:Nat}{ys:h8}(ho:o env M= .ok (.ref r) M)(hr:M[r]?=O (.L xs))(ht:LF t env M ys)(hz:b9 xs+b9 ys<=900000):
  ∃S,aG (bA bO oM o<|Za t Ze) env M= .nx env (S.set r<|.L<|xs++ys)/\M<+:S:=by
 let⟨n,S,h1,p1,g1,l1⟩:=ht;refine⟨S,jE (d:=.Z) (Tf ho (by rw[A_,hr]) (Zk h1 aaD) ?_),p1⟩;have n9:=(Yd.mp hr).1;rw[Bg,gD p1 hr,g1];exact f_ ⟨(λz=>by omega),Yx hz aaE⟩
inductive Ds where
 |nil
 |set (x:i4) (t:Sm) (r:Ds)
 |put (t u:Sm) (r:Ds)
 |tell (t:Sm) (r:Ds)
 |bM (t:Sm) (a b r:Ds)
 |ot (t:Sm) (a r:Ds)
abbrev Mw:i4:=[115,101,116]
abbrev Mx:i4:=Cs
abbrev Mz:i4:=D1
abbrev wG:i4:=D2
abbrev zj:i4:=[119,104,105,108,101]
abbrev qX(x:i4)(t:Sm):D:=.U [.str Mw,.str x,.U t.flat]
abbrev sW(t u:Sm):D:=.U [.str Mx,.U t.flat,.U u.flat]
abbrev sX(t:Sm):D:=.U [.str Mz,.U t.flat]
abbrev jX(t:Sm)(a b:h8):D:=.U [.str wG,.U t.flat,.U a,.U b]
abbrev cV(t:Sm)(a:h8):D:=.U [.str zj,.U t.flat,.U a]
def Ds.enc:Ds->h8
 | .nil=>[]|.set x t r=>qX x t::r.enc|.put t u r=>sW t u::r.enc|.tell t r=>sX t::r.enc
 | .bM t a b r=>jX t a.enc b.enc::r.enc|.ot t a r=>cV t a.enc::r.enc
def Sm.ok(t:Sm):Prop:=t.good/\t.flat.length<=12
def Ds.ok:Ds->Prop
 | .nil=>True|.set x t r=>bj x=false/\t.ok/\r.ok|.put t u r=>t.ok/\u.ok/\r.ok|.tell t r=>t.ok/\r.ok
 | .bM t a b r=>t.ok/\a.ok/\b.ok/\r.ok|.ot t a r=>t.ok/\a.ok/\r.ok
def Ds.dep:Ds->Nat
 | .nil=>0|.set _ _ r=>r.dep|.put _ _ r=>r.dep|.tell _ r=>r.dep
 | .bM _ a b r=>gR (gR a.dep b.dep+1) r.dep|.ot _ a r=>gR (a.dep+1) r.dep
def Ds.wt:Ds->Nat
 | .nil=>0|.set _ t r=>2*b9 t.flat+3+r.wt|.put t u r=>2*b9 t.flat+2*b9 u.flat+3+r.wt|.tell t r=>2*b9 t.flat+3+r.wt
 | .bM t a b r=>2*b9 t.flat+3+a.wt+b.wt+r.wt|.ot t a r=>2*b9 t.flat+3+a.wt+r.wt
def bf(x:i4):Bool:=sJ.contains x
def rep1(w:i4):Bool:=(fM<|b9 w).any λi=>(w.eraseIdx i).all λc=>c==(w.eraseIdx i).headD 0
def Zxx(a b p c:Nat):rep1 (Yg a p++[c]++Yg b p)=true:=by
 unfold rep1;rw[Ad];refine⟨a,I_.mpr (by simp only[Ye,vI,Yh,gw];omega),?_⟩;have e:(Yg a p++[c]++Yg b p).eraseIdx a=Yg (a+b) p:=by rw[Y7,List.eraseIdx_append_of_length_le j0];simp[List.replicate_append_replicate]
 rw[e,nY];intro y hy;let⟨h1,rfl⟩:=List.mem_replicate.mp hy;obtain⟨k,hk⟩:∃k,a+b=k+1:=⟨a+b-1,c8⟩;rw[hk,lA];simp
def GJ.bf{w:i4}(h:GJ w):bf w=false:=by
 let⟨⟨a,b,p,c,e⟩,oq,_⟩:=h;have h1:=Zxx a b p c;rw[<-e]at h1;cases hr:Law.bf w with
 |false=>rfl|true=>
  have hm:w∈sJ:=V5.mp hr;have key:∀y∈sJ,y=qE\/rep1 y=false:=by decide
  rcases key w hm with h|h
  .exact oz h oq
  .rw[h]at h1;cases h1
def ZxA{x:i4}(h:bj x=true):bf x=true:=by rcases of_decide_eq_true h with rfl|rfl|rfl|rfl <;>decide
def MF{x:i4}(h:bf x=false):bj x=false:=by
 cases hx:bj x with
 |false=>rfl|true=>rw[ZxA hx]at h;cases h
def Sm.nm:Sm->Prop
 | .num _=>True|.bW x=>bf x=false|.dw a=>a.nm|.two _ a b=>a.nm/\b.nm
def Ds.nm:Ds->Prop
 | .nil=>True|.set x t r=>bf x=false/\t.nm/\r.nm|.put t u r=>t.nm/\u.nm/\r.nm|.tell t r=>t.nm/\r.nm
 | .bM t a b r=>t.nm/\a.nm/\b.nm/\r.nm|.ot t a r=>t.nm/\a.nm/\r.nm
abbrev Cw(b i:Int):D:=.U [.str Cs,.int b,.int i]
abbrev Vd(a b:Int):D:=.U [.str [103,101,116],.int a,.int b]
abbrev GR(a b:Int):D:=.U [.str [115,101,116],.int a,.int b]
abbrev wH(x:i4)(a b c:Int):D:=.U [.str x,.int a,.int b,.int c]
abbrev ZyK(a:Int):D:=.U [.str D2,.int 0,.int a]
abbrev IM(a:Int):D:=.U [.str [106,117,109,112],.int a]
abbrev AfZ:D:=.U [.str D1,.int 0]
def Sm.rows(ck:l9):Sm->Int->h8
 | .num i,b=>[Cw b i]|.bW x,b=>[Cw 7<|ox ck<|.inr x,Vd b 7]|.dw a,b=>a.rows ck b++[wH qE b b b,Vd b b]|.two o a c,b=>a.rows ck b++c.rows ck (b+1)++[wH (j7 o) b b<|b+1]
def Sm.kn(ck:l9):Sm->Prop
 | .num _=>True|.bW x=>∃z,cD ck (.inr x)=e5 z|.dw a=>a.kn ck|.two _ a c=>a.kn ck/\c.kn ck
theorem oY(ck:l9):∀(t:Sm) (b:Int),b9 (t.rows ck b)<=2*t.flat.length
 | .num _,_=>by simp[Sm.rows,Sm.flat]|.bW _,_=>by simp[Sm.rows,Sm.flat]|.dw a,b=>by have:=oY ck a b;simp[Sm.rows,Sm.flat];omega|.two _ a c,b=>by have:=oY ck a b;have:=oY ck c<|b+1;simp[Sm.rows,Sm.flat];omega
variable{ck:l9}
def ZrL{x:i4}(hc:M[c]?=O (.j3 ck))(h:∃z,cD ck (.inr x)=e5 z):JD (.ref c) (.str x) M= .ok (.int<|ox ck<|.inr x) M:=by
 let⟨z,h⟩:=h;rw[UR,hc];show(match cD ck (.inr x)with|some d=>R3.ok d M|none=>R3.bad)=_;have:ox ck (.inr x)=z:=by unfold ox;rw[h]
 rw[h,this]
def GX(ck:l9)(F:F3)(t:Sm):Prop:=∀(M:c5) (c:Nat) (b:Int),M[c]?=O (.j3 ck)->FL F [.U t.flat,.int b,.ref c] M (t.rows ck b)
abbrev Af0(rec:F3):S3:=aG<|bA bO oM (Zc 3)<|Za (Zr rec eW) Ze
def Zpw{ck:l9}{rec:F3}{W:D}{b:Int}{c pk r:Nat}{items:h8}(hpr:pk≠r)(GZ:c≠r):∀(ts:List Sm),(∀t∈ts,GX ck rec t/\t.flat.length<=500)->∀(k:Nat) (acc:h8) (M M0:c5) (x y:oS),M0<+:M->b9 M0<=r->M[r]?=O (.L acc)->M[pk]?=O (.L items)->M[c]?=O (.j3 ck)->b9 acc+2000*b9 ts<=800000 ->
  ∃S x' y',ju [(pk,items)] (pR [5,6]) (Af0 rec) (i_ k<|ts.map λt=>.U t.flat) [O W,e5 b,My c,My r,My pk,x,y] M= .nx [O W,e5 b,My c,My r,My pk,x',y'] S/\M0<+:S/\
   S[r]?=O (.L<|acc++((ts.zipIdx k).map λp=>p.1.rows ck<|b+(p.2:Int)).flatten)/\S[pk]?=O (.L items)/\S[c]?=O (.j3 ck)
 |[],_,k,acc,M,M0,x,y,p,_,hr,hp,hc,_=>⟨M,x,y,by show ju _ _ _ [] _ _=_;rw[Fw,f_<|by simp[kW,hp]],p,by simpa using hr,hp,hc⟩|t::ts,ht,k,acc,M,M0,x,y,p,hl,hr,hp,hc,hz=>by let⟨h1,h2⟩:=ht t Yv;rw[Yh]at hz;have hrl:=oY ck t<|b+(k:Int);let⟨S,e,p1⟩:=Mv (o:=Zc 3) (t:=Zr rec eW) (env:=[O W,e5 b,My c,My r,My pk,e5 (k:Int),O<|.U t.flat]) aaD hr (LF.call aaD<|h1 M c (b+(k:Int)) hc) c8;have MJ:r<b9 S:=(Yd.mp<|gD p1 hr).1;let⟨S2,x',y',e2,q1,q2,q3,q4⟩:=Zpw (W:=W) (b:=b) hpr GZ ts (λt' h'=>ht t'<|Yk _ h') (k+1) (acc++t.rows ck (b+(k:Int))) (S.set r<|.L<|acc++t.rows ck (b+(k:Int))) M0 (e5 (k:Int)) (O<|.U t.flat) (uN (p.trans p1) hl) hl (Yu MJ) (by rw[Ym hpr.symm];exact gD p1 hp) (by rw[Ym GZ.symm];exact gD p1 hc) oP;refine⟨S2,x',y',?_,q1,by rw[q2];simp,q3,q4⟩;show ju _ _ _ (.U [.int (k:Int),.U t.flat]::i_ (k+1) (ts.map λt=>.U t.flat)) _ _=_;rw[Fx,f_<|by simp[kW,hp]];simp only[pR,QK,QJ,lW,lX,e,e2]
def Zwl(b:Int)(M:c5):Gr [.int b] M= .ok (wH qE b b b) M:=(iR (M':=M) (env:=[e5 b])<|dh xm).trans<|QQ aaD
def Zux{rec:F3}{t:Sm}(hg:t.good)(hk:t.kn ck)(hl:b9 t.flat<=500)(hr:∀p∈t.parts,GX ck rec p):GX ck (aK 3 7<|RZ rec) t:=by
 intro M c b hc;refine FL.of (env:=[O<|.U t.flat,e5 b,My c,Yj,Yj,Yj,Yj]) ?_ aaD aaD;unfold RZ;have MK:M<+:(M++[MO.L []]):=mX _ _;let⟨G,k,hp,hG⟩:=ZpP (M++[MO.L []]) t hg hl;have BD:(M++[MO.L []]++G)[b9 (M++[MO.L []])+k]?=O (.L<|t.parts.map λt=>.U t.flat):=(v6 (M++[MO.L []]) G k).trans hG;have tm:c<b9 M:=(Yd.mp hc).1;have hlM:b9 (M++[MO.L []])=b9 M+1:=by simp
 have pS:M<+:M++[MO.L []]++G:=MK.trans<|mX _ _;have IP:(M++[MO.L []]++G)[b9 M]?=O (.L []):=h_ (cW M _ []) G;have Af1:b9 t.parts<=2:=by cases t<;>simp[Sm.parts]
 let⟨S,x',y',e,q1,q2,q3,q4⟩:=Zpw (W:=.U t.flat) (b:=b) (pk:=b9 (M++[MO.L []])+k) (r:=b9 M) (c:=c) (items:=t.parts.map λt=>.U t.flat) c8 c8 t.parts (λp h=>⟨hr p h,by have:=IJ h;omega⟩) 0 [] (M++[MO.L []]++G) M Yj Yj pS (Yn _) IP BD (gD pS hc) oP;refine BL.step (env':=[O<|.U t.flat,e5 b,My c,My<|b9 M,Yj,Yj,Yj]) (S:=M++[MO.L []]) (bU zt) ?_;refine BL.step (env':=[O<|.U t.flat,e5 b,My c,My<|b9 M,My<|b9 (M++[MO.L []])+k,Yj,Yj]) (S:=M++[MO.L []]++G) (bU<|lJ aaD hp) ?_;have qV:Bf (Zc 4) [O<|.U t.flat,e5 b,My c,My<|b9 M,My<|b9 (M++[MO.L []])+k,Yj,Yj] (M++[MO.L []]++G)= .ok ⟨i_ 0<|t.parts.map λt=>.U t.flat,[(b9 (M++[MO.L []])+k,t.parts.map λt=>.U t.flat)]⟩ (M++[MO.L []]++G):=by show(match(M++[MO.L []]++G)[b9 (M++[MO.L []])+k]? with|some (.L ds)=>R3.ok (⟨i_ 0 ds,[(b9 (M++[MO.L []])+k,ds)]⟩:Be) (M++[MO.L []]++G)|_=>R3.bad)=_;rw[BD]
 refine BL.step ((Th qV).trans e) ?_;have i7:∀x y:oS,aL a_ nt [O<|.U t.flat,e5 b,My c,My<|b9 M,My<|b9 (M++[MO.L []])+k,x,y] S= .ok (.int (b9 t.parts:Int)) S:=λx y=>by refine eO aaD ?_;rw[kO q3,Y3]
 rw[qy]at q2;cases t with
 |two o s u=>
  have q2:S[b9 M]?=O (.L<|s.rows ck b++u.rows ck (b+1)):=by rw[q2];simp[Sm.parts,List.zipIdx]
  refine BL.take (Zg (i7 _ _) aaD<|mC aaD)<|BL.ret (LE.add (LE.var aaD q2) (λT pT=>(LF.L (ds:=[wH (j7 o) b b<|b+1]) (Zk (cR (Zk wy<|Zk aaD<|Zk aaD<|Zk vb aaD) aaD) aaD) aaD).le) ?_) q1;have h1:=oY ck s b;have h2:=oY ck u<|b+1;have h3:(Sm.two o s u).flat.length=b9 s.flat+b9 u.flat+1:=by simp[Sm.flat]
  simp;omega
 |dw s=>
  have q2:S[b9 M]?=O (.L<|s.rows ck b):=by rw[q2];simp[Sm.parts,List.zipIdx]
  refine BL.skip (Zg (i7 _ _) aaD<|iW (show¬((1:Nat):Int)=2 by decide))<|BL.take (Zg (i7 _ _) aaD<|mC aaD)<|BL.ret (LE.add (LE.var aaD q2) (λT pT=>(LF.L (ds:=[wH qE b b b,Vd b b]) (Zk (lJ aaD<|Zwl b T) vc) aaD).le) ?_) q1;have h1:=oY ck s b;have h3:(Sm.dw s).flat.length=b9 s.flat+1:=by simp[Sm.flat]
  simp;omega
 |num i=>exact BL.skip (Zg (i7 _ _) aaD<|iW (show¬((0:Nat):Int)=2 by decide)) (BL.skip (Zg (i7 _ _) aaD<|iW (show¬((0:Nat):Int)=1 by decide))<|BL.take (di wy (show jk .int (.int i) S= .ok (.bl true) S from rfl))<|BL.ret (LF.L (Zk (cR (Zk aaD<|Zk aaD<|Zk wy aaD) aaD) aaD) aaD) q1)|bW x=>exact BL.skip (Zg (i7 _ _) aaD<|iW (show¬((0:Nat):Int)=2 by decide)) (BL.skip (Zg (i7 _ _) aaD<|iW (show¬((0:Nat):Int)=1 by decide))<|BL.skip (di wy (show jk .int (.str x) S= .ok (.bl false) S from rfl))<|BL.ret (LF.L (Zk (cR (Zk aaD<|Zk aaD<|Zk (Zg aaD wy<|ZrL q4 hk) aaD) aaD)<|Zk (cR (Zk aaD<|Zk aaD xk) aaD) aaD) aaD) q1)
def ZwW{t p:Sm}(hk:t.kn ck)(h:p∈t.parts):p.kn ck:=by
 cases t with
 |num _=>cases h|bW _=>cases h|dw a=>rwa[Yp.mp h]|two o a b=>
  rcases Yt.mp h with h|h
  .rw[h];exact hk.1
  .rw[Yp.mp h];exact hk.2
def ZxZ:∀(n:Nat) (t:Sm),t.good->t.kn ck->b9 t.flat<=n->n<=500->GX ck (R0 n) t:=by
 intro n
 induction n with
 |zero=>intro t _ _ h _;let⟨x,r,e⟩:=S_ t;rw[e,Yh]at h;omega|succ n ih=>intro t hg hk hl hn;exact Zux hg hk c8 λp hp=>ih p (Zm1 hg hp) (ZwW hk hp) (by have:=IJ hp;omega) c8
def Af2{t:Sm}(hg:t.good)(hk:t.kn ck)(hl:b9 t.flat<=12):GX ck uH t:=ZxZ 13 t hg hk c8 c8
def Ds.kn(ck:l9):Ds->Prop
 | .nil=>True|.set x t r=>(∃z,cD ck (.inr x)=e5 z)/\t.kn ck/\r.kn ck|.put t u r=>t.kn ck/\u.kn ck/\r.kn ck|.tell t r=>t.kn ck/\r.kn ck
 | .bM t a b r=>t.kn ck/\a.kn ck/\b.kn ck/\r.kn ck|.ot t a r=>t.kn ck/\a.kn ck/\r.kn ck
def uO(ck:l9)(x:i4)(t:Sm):h8:=t.rows ck 0++[Cw 7<|ox ck<|.inr x,GR 7 0]
def sY(ck:l9)(t u:Sm):h8:=t.rows ck 0++[wH qE 0 0 0]++u.rows ck 1++[GR 0 1]
def uP(ck:l9)(t:Sm):h8:=t.rows ck 0++[AfZ]
def sZ(ck:l9)(t:Sm)(A B:Int->h8)(p:Int):h8:=
 t.rows ck 0++[ZyK<|p+(b9 (t.rows ck 0):Int)+1+(b9 (B<|p+(b9 (t.rows ck 0):Int)+1):Int)+1]++B (p+(b9 (t.rows ck 0):Int)+1)++
  [IM<|p+(b9 (t.rows ck 0):Int)+1+(b9 (B<|p+(b9 (t.rows ck 0):Int)+1):Int)+1+(b9 (A<|p+(b9 (t.rows ck 0):Int)+1+(b9 (B<|p+(b9 (t.rows ck 0):Int)+1):Int)+1):Int)]++
  A (p+(b9 (t.rows ck 0):Int)+1+(b9 (B<|p+(b9 (t.rows ck 0):Int)+1):Int)+1)
def tu(ck:l9)(t:Sm)(A:Int->h8)(p:Int):h8:=t.rows ck 0++[ZyK<|p+(b9 (t.rows ck 0):Int)+2,IM<|p+(b9 (t.rows ck 0):Int)+2+(b9 (A<|p+(b9 (t.rows ck 0):Int)+2):Int)+1]++A (p+(b9 (t.rows ck 0):Int)+2)++[IM p]
def Ds.rows(ck:l9):Ds->Int->h8
 | .nil,_=>[]|.set x t r,p=>uO ck x t++r.rows ck (p+(b9 (uO ck x t):Int))|.put t u r,p=>sY ck t u++r.rows ck (p+(b9 (sY ck t u):Int))|.tell t r,p=>uP ck t++r.rows ck (p+(b9 (uP ck t):Int))
 | .bM t a b r,p=>sZ ck t (a.rows ck) (b.rows ck) p++r.rows ck (p+(b9 (sZ ck t (a.rows ck) (b.rows ck) p):Int))|.ot t a r,p=>tu ck t (a.rows ck) p++r.rows ck (p+(b9 (tu ck t (a.rows ck) p):Int))
def Zpl(ck:l9)(x:i4)(t:Sm):b9 (uO ck x t)<=2*b9 t.flat+3:=by have:=oY ck t 0;simp[uO];omega
def ZoM(ck:l9)(t u:Sm):b9 (sY ck t u)<=2*b9 t.flat+2*b9 u.flat+3:=by have:=oY ck t 0;have:=oY ck u 1;simp[sY];omega
def Znm(ck:l9)(t:Sm):b9 (uP ck t)<=2*b9 t.flat+3:=by have:=oY ck t 0;simp[uP];omega
def ZpY(ck:l9)(t:Sm){A B:Int->h8}{x y:Nat}(hA:∀p,b9 (A p)<=x)(hB:∀p,b9 (B p)<=y)(p:Int):b9 (sZ ck t A B p)<=2*b9 t.flat+3+x+y:=by have h1:=oY ck t 0;have h2:=hB<|p+(b9 (t.rows ck 0):Int)+1;have h3:=hA<|p+(b9 (t.rows ck 0):Int)+1+(b9 (B<|p+(b9 (t.rows ck 0):Int)+1):Int)+1;simp only[sZ,Ye,Yh,gw];omega
def ZoO(ck:l9)(t:Sm){A:Int->h8}{x:Nat}(hA:∀p,b9 (A p)<=x)(p:Int):b9 (tu ck t A p)<=2*b9 t.flat+3+x:=by have h1:=oY ck t 0;have h2:=hA<|p+(b9 (t.rows ck 0):Int)+2;simp only[tu,Ye,Yh,gw];omega
theorem nO(ck:l9):∀(ds:Ds) (p:Int),b9 (ds.rows ck p)<=ds.wt
 | .nil,_=>Yn _|.set x t r,p=>by have:=Zpl ck x t;have:=nO ck r<|p+(b9 (uO ck x t):Int);simp only[Ds.rows,Ds.wt,Ye];omega|.put t u r,p=>by have:=ZoM ck t u;have:=nO ck r<|p+(b9 (sY ck t u):Int);simp only[Ds.rows,Ds.wt,Ye];omega|.tell t r,p=>by have:=Znm ck t;have:=nO ck r<|p+(b9 (uP ck t):Int);simp only[Ds.rows,Ds.wt,Ye];omega
 | .bM t a b r,p=>by have:=ZpY ck t (nO ck a) (nO ck b) p;have:=nO ck r<|p+(b9 (sZ ck t (a.rows ck) (b.rows ck) p):Int);simp only[Ds.rows,Ds.wt,Ye];omega|.ot t a r,p=>by have:=ZoO ck t (nO ck a) p;have:=nO ck r<|p+(b9 (tu ck t (a.rows ck) p):Int);simp only[Ds.rows,Ds.wt,Ye];omega
def Cy(ck:l9)(F:F3)(ds:Ds):Prop:=∀(M:c5) (c:Nat) (p:Int),M[c]?=O (.j3 ck)->FL F [.U ds.enc,.int p,.ref c] M (ds.rows ck p)
section
variable {ck:l9}
def G4{t:Sm}(h:t.ok)(hk:t.kn ck):GX ck uH t:=Af2 h.1 hk h.2
def G5{t:Sm}(h:t.ok)(b:Int):b9 (t.rows ck b)<=26:=by have:=oY ck t b;have:=h.2;omega
def ZuW{x:i4}(hx:∃z,cD ck (.inr x)=e5 z)(b:Int)(hc:M[c]?=O (.j3 ck)):FL za [.str x,.int b,.ref c] M [Cw 7<|ox ck<|.inr x,GR 7 b]:=FL.of (env:=[rf x,e5 b,My c]) (BL.ret (LF.L (Zk (cR (Zk aaD<|Zk aaD<|Zk (Zg aaD aaD<|ZrL hc hx) aaD) aaD) vc) aaD)<|tV _) aaD aaD
def ZoP(rec:Nat->F3){x:i4}{t:Sm}(hx:∃z,cD ck (.inr x)=e5 z)(ht:t.ok)(hk:t.kn ck)(p:Int)(hc:M[c]?=O (.j3 ck)):FL (aK 3 4<|zb rec) [qX x t,.int p,.ref c] M (uO ck x t):=by refine FL.of (env:=[O<|qX x t,e5 p,My c,Yj]) ?_ aaD aaD;unfold zb;have hl:=G5 (ck:=ck) ht 0;exact BL.skip sC<|BL.skip sC<|BL.skip sC<|BL.take yy<|BL.ret (LE.add (LF.call aaD<|G4 ht hk M c 0 hc).le (λS pS=>(LF.call aaD<|ZuW hx 0<|gD pS hc).le) oP)<|tV _
def Zni(rec:Nat->F3){t:Sm}(ht:t.ok)(hk:t.kn ck)(p:Int)(hc:M[c]?=O (.j3 ck)):FL (aK 3 4<|zb rec) [sX t,.int p,.ref c] M (uP ck t):=by refine FL.of (env:=[O<|sX t,e5 p,My c,Yj]) ?_ aaD aaD;unfold zb;have hl:=G5 (ck:=ck) ht 0;exact BL.skip sC<|BL.skip sC<|BL.skip sC<|BL.skip sC<|BL.ret (LE.add (LF.call aaD<|G4 ht hk M c 0 hc).le (λS pS=>(LF.L vc aaD).le) oP)<|tV _
def Zp1(rec:Nat->F3){t u:Sm}(ht:t.ok)(hk:t.kn ck)(hu:u.ok)(hku:u.kn ck)(p:Int)(hc:M[c]?=O (.j3 ck)):FL (aK 3 4<|zb rec) [sW t u,.int p,.ref c] M (sY ck t u):=by refine FL.of (env:=[O<|sW t u,e5 p,My c,Yj]) ?_ aaD aaD;unfold zb;have hl:=G5 (ck:=ck) ht 0;have sP:=G5 (ck:=ck) hu 1;refine BL.skip sC<|BL.skip sC<|BL.take yy<|BL.set (x:=t.rows ck 0++[wH qE 0 0 0]) (LE.add (LF.call aaD<|G4 ht hk M c 0 hc).le (λS pS=>(LF.L (Zk (lJ aaD<|Zwl 0 S) aaD) aaD).le) oP).le λn S pS hn=>?_;exact BL.ret (LE.add (LE.add (LE.var aaD hn) (λT pT=>(LF.call aaD<|G4 hu hku T c 1<|gD (pS.trans pT) hc).le) oP).le (λT pT=>(LF.L vc aaD).le) oP) pS
def Zwg(rec:Nat->F3){t:Sm}{a b:Ds}(ht:t.ok)(hk:t.kn ck)(ha:Cy ck (rec 0) a)(hb:Cy ck (rec 0) b)(hw:a.wt+b.wt<=200000)(p:Int)(hc:M[c]?=O (.j3 ck)):FL (aK 3 9<|R5 rec) [jX t a.enc b.enc,.int p,.ref c] M (sZ ck t (a.rows ck) (b.rows ck) p):=by
 refine FL.of (env:=[O<|jX t a.enc b.enc,e5 p,My c,Yj,Yj,Yj,Yj,Yj,Yj]) ?_ aaD aaD;unfold R5;have hl:=G5 (ck:=ck) ht 0;have B1:=nO ck a;have hlb:=nO ck b;refine BL.set (LF.call aaD<|G4 ht hk M c 0 hc).le λn1 S1 p1 g1=>?_;refine BL.Ie (d:=.int<|p+(b9 (t.rows ck 0):Int)+1) (Zg (Zg aaD (eO aaD<|kO g1) aaD) aaD aaD) ?_;refine BL.set (LF.call aaD<|hb S1 c (p+(b9 (t.rows ck 0):Int)+1)<|gD p1 hc).le λn2 S2 p2 g2=>?_;refine BL.Ie (d:=.int<|p+(b9 (t.rows ck 0):Int)+1+(b9 (b.rows ck<|p+(b9 (t.rows ck 0):Int)+1):Int)+1) (Zg (Zg aaD (eO aaD<|kO g2) aaD) aaD aaD) ?_;refine BL.set (LF.call aaD<|ha S2 c (p+(b9 (t.rows ck 0):Int)+1+(b9 (b.rows ck<|p+(b9 (t.rows ck 0):Int)+1):Int)+1)<|gD (p1.trans p2) hc).le λn3 S3 p3 g3=>?_;refine BL.Ie (Zg aaD (eO aaD<|kO g3) aaD) ?_;have q1:=hlb<|p+(b9 (t.rows ck 0):Int)+1;have q2:=B1<|p+(b9 (t.rows ck 0):Int)+1+(b9 (b.rows ck<|p+(b9 (t.rows ck 0):Int)+1):Int)+1;refine BL.ret (LE.add (LE.add (LE.add (LE.add (LE.var aaD<|gD (p2.trans p3) g1) (λT pT=>(LF.L vc aaD).le) ?_).le (λT pT=>LE.var aaD<|gD (p3.trans pT) g2) ?_).le (λT pT=>(LF.L vc aaD).le) ?_).le (λT pT=>LE.var aaD<|gD pT g3) ?_)<|(p1.trans p2).trans p3
 all_goals simp;omega
def Zwi(rec:Nat->F3){t:Sm}{a:Ds}(ht:t.ok)(hk:t.kn ck)(ha:Cy ck (rec 0) a)(hw:a.wt<=200000)(p:Int)(hc:M[c]?=O (.j3 ck)):FL (aK 3 7<|R4 rec) [cV t a.enc,.int p,.ref c] M (tu ck t (a.rows ck) p):=by
 refine FL.of (env:=[O<|cV t a.enc,e5 p,My c,Yj,Yj,Yj,Yj]) ?_ aaD aaD;unfold R4;have hl:=G5 (ck:=ck) ht 0;have B1:=nO ck a<|p+(b9 (t.rows ck 0):Int)+2;refine BL.set (LF.call aaD<|G4 ht hk M c 0 hc).le λn1 S1 p1 g1=>?_;refine BL.Ie (d:=.int<|p+(b9 (t.rows ck 0):Int)+2) (Zg (Zg aaD (eO aaD<|kO g1) aaD) aaD aaD) ?_;refine BL.set (LF.call aaD<|ha S1 c (p+(b9 (t.rows ck 0):Int)+2)<|gD p1 hc).le λn2 S2 p2 g2=>?_;refine BL.Ie (Zg (Zg aaD (eO aaD<|kO g2) aaD) aaD aaD) ?_;refine BL.ret (LE.add (LE.add (LE.add (LE.var aaD<|gD p2 g1) (λT pT=>(LF.L (Zk xm vc) aaD).le) ?_).le (λT pT=>LE.var aaD<|gD pT g2) ?_).le (λT pT=>(LF.L vc aaD).le) ?_)<|p1.trans p2
 all_goals simp;omega
end
variable{W:oS}{rec:Nat->F3}{acc:h8}
section
variable {ck:l9}
abbrev IQ(F:F3):S3:=aG<|bA bO oM (Zc 3)<|Za (Zr F dq) Ze
def G6(ck:l9)(F:F3)(d:D)(h:Int->h8):Prop:=∀(M:c5) (c:Nat) (p:Int),M[c]?=O (.j3 ck)->FL F [d,.int p,.ref c] M (h p)
def MN(hi:it.lock=Yj){p:Int}{c r:Nat}{h:Int->h8}{x:oS}(H:G6 ck F d h)(hp:M0<+:M)(hr:M[r]?=O (.L acc))(hl:b9 M0<=r)(hc:M[c]?=O (.j3 ck))(hz:b9 acc+b9 (h<|p+(b9 acc:Int))<=800000)(ds:h8):
  ∃S,dF it (bK 4) (IQ F) (d::ds) [W,e5 p,My c,My r,x] M=dF it (bK 4) (IQ F) ds [W,e5 p,My c,My r,O d] S/\M0<+:S/\S[r]?=O (.L<|acc++h (p+(b9 acc:Int)))/\S[c]?=O (.j3 ck):=by
 have GZ:c≠r:=λe=>by rw[e,hr]at hc;cases hc
 let⟨S,e,p1⟩:=Mv (o:=Zc 3) (t:=Zr F dq) (env:=[W,e5 p,My c,My r,O d]) (ys:=h<|p+(b9 acc:Int)) aaD hr (LF.call (ds:=[d,.int<|p+(b9 acc:Int),.ref c]) (Zk aaD<|Zk (Zg aaD (eO aaD<|kO hr) aaD) aaD)<|H M c (p+(b9 acc:Int)) hc) c8;refine⟨_,?_,uN (hp.trans p1) hl,Yu (Yd.mp<|gD p1 hr).1,by rw[Ym GZ.symm];exact gD p1 hc⟩;rw[oH,f_ (by unfold i8;rw[hi])];simp only[bK,lW,lX,e]
def wI(ck:l9)(F:F3):Ds->Prop
 | .nil=>True|.set x t r=>G6 ck F (qX x t) (λ_=>uO ck x t)/\wI ck F r|.put t u r=>G6 ck F (sW t u) (λ_=>sY ck t u)/\wI ck F r|.tell t r=>G6 ck F (sX t) (λ_=>uP ck t)/\wI ck F r
 | .bM t a b r=>G6 ck F (jX t a.enc b.enc) (sZ ck t (a.rows ck)<|b.rows ck)/\wI ck F r|.ot t a r=>G6 ck F (cV t a.enc) (tu ck t<|a.rows ck)/\wI ck F r
def G8{F:F3}{it:iD}(hi:it.lock=Yj){W:oS}{p:Int}{c r:Nat}{M0:c5}(hl:b9 M0<=r):∀(ds:Ds),wI ck F ds->∀(acc:h8) (M:c5) (x:oS),M0<+:M->M[r]?=O (.L acc)->M[c]?=O (.j3 ck)->b9 acc+ds.wt<=700000 ->
  ∃S x',dF it (bK 4) (IQ F) ds.enc [W,e5 p,My c,My r,x] M= .nx [W,e5 p,My c,My r,x'] S/\M0<+:S/\S[r]?=O (.L<|acc++ds.rows ck (p+(b9 acc:Int)))
 | .nil,_,acc,M,x,hp,hr,hc,_=>⟨M,x,by show dF _ _ _ [] _ _=_;rw[pW,f_ (by unfold i8;rw[hi])],hp,by simpa[Ds.rows]using hr⟩|.set y t rr,H,acc,M,x,hp,hr,hc,hz=>by have h1:=Zpl ck y t;rw[Ds.wt]at hz;let⟨S,e,q1,q2,q3⟩:=MN (W:=W) (p:=p) (x:=x) hi H.1 hp hr hl hc c8 rr.enc;let⟨S2,x2,p0,q4,q5⟩:=G8 hi hl rr H.2 _ S _ q1 q2 q3 oP;exact⟨S2,x2,e.trans p0,q4,by rw[q5,Ds.rows,Ye,Y7,qC,vN]⟩|.put t u rr,H,acc,M,x,hp,hr,hc,hz=>by have h1:=ZoM ck t u;rw[Ds.wt]at hz;let⟨S,e,q1,q2,q3⟩:=MN (W:=W) (p:=p) (x:=x) hi H.1 hp hr hl hc c8 rr.enc;let⟨S2,x2,p0,q4,q5⟩:=G8 hi hl rr H.2 _ S _ q1 q2 q3 oP;exact⟨S2,x2,e.trans p0,q4,by rw[q5,Ds.rows,Ye,Y7,qC,vN]⟩|.tell t rr,H,acc,M,x,hp,hr,hc,hz=>by have h1:=Znm ck t;rw[Ds.wt]at hz;let⟨S,e,q1,q2,q3⟩:=MN (W:=W) (p:=p) (x:=x) hi H.1 hp hr hl hc c8 rr.enc;let⟨S2,x2,p0,q4,q5⟩:=G8 hi hl rr H.2 _ S _ q1 q2 q3 oP;exact⟨S2,x2,e.trans p0,q4,by rw[q5,Ds.rows,Ye,Y7,qC,vN]⟩
 | .bM t a b rr,H,acc,M,x,hp,hr,hc,hz=>by have h1:=ZpY ck t (nO ck a) (nO ck b)<|p+(b9 acc:Int);rw[Ds.wt]at hz;let⟨S,e,q1,q2,q3⟩:=MN (W:=W) (p:=p) (x:=x) hi H.1 hp hr hl hc c8 rr.enc;let⟨S2,x2,p0,q4,q5⟩:=G8 hi hl rr H.2 _ S _ q1 q2 q3 (by rw[Ye];omega);exact⟨S2,x2,e.trans p0,q4,by rw[q5,Ds.rows,Ye,Y7,qC,vN]⟩|.ot t a rr,H,acc,M,x,hp,hr,hc,hz=>by have h1:=ZoO ck t (nO ck a)<|p+(b9 acc:Int);rw[Ds.wt]at hz;let⟨S,e,q1,q2,q3⟩:=MN (W:=W) (p:=p) (x:=x) hi H.1 hp hr hl hc c8 rr.enc;let⟨S2,x2,p0,q4,q5⟩:=G8 hi hl rr H.2 _ S _ q1 q2 q3 (by rw[Ye];omega);exact⟨S2,x2,e.trans p0,q4,by rw[q5,Ds.rows,Ye,Y7,qC,vN]⟩
def Zv2{ds:Ds}(H:wI ck (rec 1) ds)(hw:ds.wt<=600000):Cy ck (aK 3 5<|R6 rec) ds:=by intro M c p hc;refine FL.of (env:=[O<|.U ds.enc,e5 p,My c,Yj,Yj]) ?_ aaD aaD;unfold R6;let⟨S,x,e,q1,q2⟩:=G8 (F:=rec 1) (it:=⟨ds.enc,Yj⟩) aaD (W:=O<|.U ds.enc) (p:=p) (c:=c) (M0:=M) (Yn _) ds H [] (M++[.L []]) Yj (mX _ _) (cW M _ []) (h_ hc _) oP;refine BL.step (env':=[O<|.U ds.enc,e5 p,My c,My<|b9 M,Yj]) (S:=M++[.L []]) (bU zt)<|BL.step ((Bb (it:=⟨ds.enc,Yj⟩) aaD).trans e) ?_;exact⟨b9 M,S,dh aaD,q1,by rw[q2];simp,Yn _⟩
theorem G9{j:Nat}(IH:∀ds:Ds,ds.ok->ds.kn ck->ds.wt<=100000->3*ds.dep+2<=j->Cy ck (nH j 0) ds):∀(ds:Ds),ds.ok->ds.kn ck->ds.wt<=100000->3*ds.dep+2<=j+3->wI ck (nH (j+2) 1) ds
 | .nil,_,_,_,_=>trivial|.set x t r,ho,hk,hw,hd=>⟨λM c p hc=>ZoP _ hk.1 ho.2.1 hk.2.1 p hc,G9 IH r ho.2.2 hk.2.2 (by simp only[Ds.wt]at hw;omega) hd⟩|.put t u r,ho,hk,hw,hd=>⟨λM c p hc=>Zp1 _ ho.1 hk.1 ho.2.1 hk.2.1 p hc,G9 IH r ho.2.2 hk.2.2 (by simp only[Ds.wt]at hw;omega) hd⟩|.tell t r,ho,hk,hw,hd=>⟨λM c p hc=>Zni _ ho.1 hk.1 p hc,G9 IH r ho.2 hk.2 (by simp only[Ds.wt]at hw;omega) hd⟩
 | .bM t a b r,ho,hk,hw,hd=>by simp only[Ds.wt]at hw;simp only[Ds.dep]at hd;refine⟨λM c p hc=>?_,G9 IH r ho.2.2.2 hk.2.2.2 c8 c8⟩;have h1:=Zwg (nH j) ho.1 hk.1 (IH a ho.2.1 hk.2.1 c8 c8) (IH b ho.2.2.1 hk.2.2.1 c8 c8) c8 p hc;refine FL.of (env:=[O<|jX t a.enc b.enc,e5 p,My c,Yj]) ?_ aaD aaD;exact BL.take yy (BL.ret (LF.call aaD h1)<|tV _)|.ot t a r,ho,hk,hw,hd=>by simp only[Ds.wt]at hw;simp only[Ds.dep]at hd;refine⟨λM c p hc=>?_,G9 IH r ho.2.2 hk.2.2 c8 c8⟩;have h1:=Zwi (nH j) ho.1 hk.1 (IH a ho.2.1 hk.2.1 c8 c8) c8 p hc;refine FL.of (env:=[O<|cV t a.enc,e5 p,My c,Yj]) ?_ aaD aaD;exact BL.skip sC<|BL.take yy<|BL.ret (LF.call aaD h1)<|tV _
theorem Ti{j:Nat}:∀(ds:Ds),ds.ok->ds.kn ck->ds.wt<=100000->ds.dep=0->wI ck (nH (j+1) 1) ds
 | .nil,_,_,_,_=>trivial|.set x t r,ho,hk,hw,hd=>⟨λM c p hc=>ZoP _ hk.1 ho.2.1 hk.2.1 p hc,Ti r ho.2.2 hk.2.2 (by simp only[Ds.wt]at hw;omega) hd⟩|.put t u r,ho,hk,hw,hd=>⟨λM c p hc=>Zp1 _ ho.1 hk.1 ho.2.1 hk.2.1 p hc,Ti r ho.2.2 hk.2.2 (by simp only[Ds.wt]at hw;omega) hd⟩|.tell t r,ho,hk,hw,hd=>⟨λM c p hc=>Zni _ ho.1 hk.1 p hc,Ti r ho.2 hk.2 (by simp only[Ds.wt]at hw;omega) hd⟩
 | .bM t a b r,_,_,_,hd=>by simp only[Ds.dep]at hd;omega|.ot t a r,_,_,_,hd=>by simp only[Ds.dep]at hd;omega
def Zx6:∀(n:Nat) (ds:Ds),ds.ok->ds.kn ck->ds.wt<=100000->3*ds.dep+2<=n->Cy ck (nH n 0) ds:=by
 intro n
 induction n using NS with
 |ind n ih=>
  intro ds ho hk hw hd
  match n,ih,hd with
  |0,_,hd=>omega|1,_,hd=>omega|2,_,hd=>exact Zv2 (Ti (j:=0) ds ho hk hw c8) (by omega)|j+3,ih,hd=>exact Zv2 (G9 (j:=j) (λds ho hk hw hd=>ih j c8 ds ho hk hw hd) ds ho hk hw hd) c8
def Zy9{ds:Ds}(ho:ds.ok)(hk:ds.kn ck)(hw:ds.wt<=100000)(hd:ds.dep<=3):Cy ck R7 ds:=Zx6 13 ds ho hk hw c8
end
def cX(R:i4->Bool)(xs:k9):D->k9
 | .str x=>if R x=true\/x∈xs then xs else xs++[x]|_=>xs
abbrev cO(R:i4->Bool)(xs:k9)(ws:h8):k9:=ws.foldl (cX R) xs
def IS{x:i4}(h:bj x=bf x)(xs:k9):cX bf xs (.str x)=cX bj xs (.str x):=by simp only[cX,h]
theorem fold_same:∀(t:Sm),t.nm->∀xs,cO bf xs t.flat=cO bj xs t.flat
 | .num _,_,_=>rfl|.bW x,h,xs=>by have h:bf x=false:=h;simp only[Sm.flat,cO,qx,List.foldl_nil,cX,h,MF h]
 | .dw a,h,xs=>by have e:cX bf xs (.str p_)=cX bj xs (.str p_):=IS aaE xs;show cO bf (cX bf xs<|.str p_) a.flat=cO bj (cX bj xs<|.str p_) a.flat;rw[e,fold_same a h]|.two o a b,h,xs=>by
  have e:cX bf xs (.str<|j7 o)=cX bj xs (.str<|j7 o):=IS (by
   match o with
   |0=>decide|1=>decide|o+2=>show bj sj=bf sj;decide) xs
  show(a.flat++b.flat).foldl (cX bf) (cX bf xs<|.str<|j7 o)=(a.flat++b.flat).foldl (cX bj) (cX bj xs<|.str<|j7 o);have ha:=fold_same a h.1<|cX bj xs<|.str<|j7 o;have hb:=fold_same b h.2<|cO bj (cX bj xs<|.str<|j7 o) a.flat;rw[e,O4,O4];show cO bf (cO bf (cX bj xs<|.str<|j7 o) a.flat) b.flat=_;rw[ha,hb]
def Ds.names:Ds->k9->k9
 | .nil,xs=>xs|.set x t r,xs=>r.names (cO bj xs<|.str x::t.flat)|.put t u r,xs=>r.names (cO bj (cO bj xs t.flat) u.flat)|.tell t r,xs=>r.names<|cO bj xs t.flat
 | .bM t a b r,xs=>r.names (b.names<|a.names<|cO bj xs t.flat)|.ot t a r,xs=>r.names<|a.names<|cO bj xs t.flat
def Ds.text:Ds->rk
 | .nil=>[]|.set x t r=>(.str Mw:: .str x::t.flat)::r.text|.put t u r=>(.str Mx::(t.flat++u.flat))::r.text|.tell t r=>(.str Mz::t.flat)::r.text
 | .bM t a b r=>((.str wG::t.flat)::(a.text++[[.str ym]]++b.text++[[.str tw]]))++r.text|.ot t a r=>((.str zj::t.flat)::(a.text++[[.str tw]]))++r.text
def qY(xs:k9)(rows:rk):k9:=rows.foldl (cO bf) xs
def Cz(xs:k9)(a b:rk):qY xs (a++b)=qY (qY xs a) b:=O4
def MP(xs:k9)(a:h8)(b:rk):qY xs (a::b)=qY (cO bf xs a) b:=rfl
def wJ{x:i4}(h:bf x=true)(xs:k9)(ws:h8):cO bf xs (.str x::ws)=cO bf xs ws:=by
 have:cX bf xs (.str x)=xs:=by simp[cX,h]
 show cO bf (cX bf xs<|.str x) ws=_;rw[this]
theorem wK:∀(ds:Ds),ds.nm->∀xs,qY xs ds.text=ds.names xs
 | .nil,_,_=>rfl|.set x t r,h,xs=>by
  have e:cX bf xs (.str x)=cX bj xs (.str x):=IS (by rw[h.1,MF h.1]) xs;have e2:cO bf xs (.str x::t.flat)=cO bj xs (.str x::t.flat):=by show cO bf (cX bf xs<|.str x) t.flat=cO bj (cX bj xs<|.str x) t.flat;rw[e,fold_same t h.2.1]
  rw[Ds.text,MP,wJ aaE,e2,wK r h.2.2];rfl
 | .put t u r,h,xs=>by
  have e:cO bf xs (t.flat++u.flat)=cO bj (cO bj xs t.flat) u.flat:=by show(t.flat++u.flat).foldl _ _=_;rw[O4];show cO bf (cO bf xs t.flat) u.flat=_;rw[fold_same t h.1,fold_same u h.2.1]
  rw[Ds.text,MP,wJ aaE,e,wK r h.2.2];rfl
 | .tell t r,h,xs=>by rw[Ds.text,MP,wJ aaE,fold_same t h.1,wK r h.2];rfl|.bM t a b r,h,xs=>by have e1:∀ys,qY ys [[D.str ym]]=ys:=λys=>(wJ (x:=ym) aaE ys []:cO bf ys [D.str ym]=ys);have e2:∀ys,qY ys [[D.str tw]]=ys:=λys=>(wJ (x:=tw) aaE ys []:cO bf ys [D.str tw]=ys);rw[Ds.text,Cz,MP,wJ aaE,fold_same t h.1,Cz,Cz,Cz,wK a h.2.1,e1,wK b h.2.2.1,e2,wK r h.2.2.2];rfl|.ot t a r,h,xs=>by have e2:∀ys,qY ys [[D.str tw]]=ys:=λys=>(wJ (x:=tw) aaE ys []:cO bf ys [D.str tw]=ys);rw[Ds.text,Cz,MP,wJ aaE,fold_same t h.1,Cz,wK a h.2.1,e2,wK r h.2.2];rfl
def Zsx{w:D}{xs:k9}(h:M[n]?=O (.L<|xs.map D.str))(x:i4)(e:w= .str x):JZ w (.ref n) M= .ok (.bl<|decide<|x∉xs) M:=by
 subst e;show(match M[n]? with|some (.L ys)=>(if fc (.str x)&&ys.all fc then R3.ok (D.bl<|!ys.any λy=>eU y<|.str x) M else R3.bad)|_=>R3.bad)=_;rw[h];have h1:(xs.map D.str).all fc=true:=by rw[Wd];exact nY.mpr λ_ _=>rfl
 have h2:((xs.map D.str).any λy=>eU y<|.str x)=decide (x∈xs):=by
  rw[List.any_map];by_cases q:x∈xs
  .rw[qc q,Ad];exact⟨x,q,by simp[Qw]⟩
  .rw[pf q,V6];intro y hy;show¬eU (.str y) (.str x)=true;rw[Qw];simp only[beq_iff_eq];exactλz=>q<|z▸hy
 show(if fc (.str x)&&(xs.map D.str).all fc then R3.ok (D.bl<|!(xs.map D.str).any λy=>eU y<|.str x) M else R3.bad)=_;rw[h1,h2];show R3.ok (D.bl<|!decide (x∈xs)) M=_;by_cases q:x∈xs<;>simp[q]
def G_{o:MO}(h:M[n]?=O o):M.set n o=M:=by
 apply O2;intro j;by_cases hj:j=n
 .subst hj;rw[Yu (Yd.mp h).1,h]
 .rw[Ym<|cF hj]
def Zpx(R:i4->Bool)(xs:k9)(w:D):b9 (cX R xs w)<=b9 xs+1:=by
 unfold cX;split
 .split <;>simp
 .omega
theorem zm(R:i4->Bool):∀(ws:h8) (xs:k9),b9 (cO R xs ws)<=b9 xs+ws.length
 |[],xs=>by simp|w::ws,xs=>by have h1:=Zpx R xs w;have h2:=zm R ws<|cX R xs w;show(cO R (cX R xs w) ws).length<=_;rw[Yh];omega
def Zv7{s:Nat}{xs:k9}(h:M[s]?=O (.L<|xs.map D.str))(o:MO):(M.set s o)[s]?=O o:=Yu (Yd.mp h).1
theorem wL:∀(ds:Ds) (xs:k9),b9 (ds.names xs)<=b9 xs+ds.wt
 | .nil,xs=>Yn _|.set x t r,xs=>by have h1:=zm bj (.str x::t.flat) xs;have h2:=wL r<|cO bj xs<|.str x::t.flat;simp only[Ds.names,Ds.wt,Yh]at h1 h2 |-;omega|.put t u r,xs=>by have h0:=zm bj t.flat xs;have h1:=zm bj u.flat<|cO bj xs t.flat;have h2:=wL r<|cO bj (cO bj xs t.flat) u.flat;simp only[Ds.names,Ds.wt]at h2 |-;omega|.tell t r,xs=>by have h1:=zm bj t.flat xs;have h2:=wL r<|cO bj xs t.flat;simp only[Ds.names,Ds.wt]at h2 |-;omega
 | .bM t a b r,xs=>by have h0:=zm bj t.flat xs;have h1:=wL a<|cO bj xs t.flat;have h2:=wL b<|a.names<|cO bj xs t.flat;have h3:=wL r<|b.names<|a.names<|cO bj xs t.flat;simp only[Ds.names,Ds.wt]at h3 |-;omega|.ot t a r,xs=>by have h0:=zm bj t.flat xs;have h1:=wL a<|cO bj xs t.flat;have h3:=wL r<|a.names<|cO bj xs t.flat;simp only[Ds.names,Ds.wt]at h3 |-;omega
def Hf(F:F3)(ds:Ds):Prop:=∀(M:c5),FL F [.U ds.enc] M<|ds.text.map D.U
theorem text_len:∀(ds:Ds),b9 ds.text<=ds.wt
 | .nil=>Yn _|.set x t r=>by have:=text_len r;simp only[Ds.text,Ds.wt,Yh];omega|.put t u r=>by have:=text_len r;simp only[Ds.text,Ds.wt,Yh];omega|.tell t r=>by have:=text_len r;simp only[Ds.text,Ds.wt,Yh];omega
 | .bM t a b r=>by have:=text_len r;have:=text_len a;have:=text_len b;simp only[Ds.text,Ds.wt,Yh,Ye,gw];omega|.ot t a r=>by have:=text_len r;have:=text_len a;simp only[Ds.text,Ds.wt,Yh,Ye,gw];omega
def CJ{x y:h8}(h:b9 x+b9 y<=1000)(M:c5):Zy (.U x) (.U y) M= .ok (.U<|x++y) M:=by rw[yq];exact f_<|Yx h aaE
def Hg(F:F3)(d:D)(h:rk):Prop:=∀(M:c5),FL F [d] M<|h.map D.U
def Zy5(rec:Nat->F3){x:i4}{t:Sm}(ht:t.ok):Hg (aK 1 3<|qQ rec) (qX x t) [.str Mw:: .str x::t.flat]:=by intro M;have hl:=ht.2;refine FL.of (env:=[O<|qX x t,Yj,Yj]) ?_ aaD aaD;unfold qQ;have A3:jR (Zc 0) jP lT [O<|qX x t,Yj,Yj] M= .ok (.U [.str Mw,.str x]) M:=rfl;exact BL.skip sC<|BL.skip sC<|BL.skip sC<|BL.ret (LF.L (Zk (Zg A3 vb<|CJ (x:=[.str Mw,.str x]) (y:=t.flat) oP M) aaD) aaD)<|tV _
def Zyd(rec:Nat->F3){t:Sm}(ht:t.ok):Hg (aK 1 3<|qQ rec) (sX t) [.str Mz::t.flat]:=by intro M;have hl:=ht.2;refine FL.of (env:=[O<|sX t,Yj,Yj]) ?_ aaD aaD;unfold qQ;have A3:jR (Zc 0) jP lT [O<|sX t,Yj,Yj] M= .ok (.U [.str Mz]) M:=rfl;exact BL.skip sC<|BL.skip sC<|BL.skip sC<|BL.ret (LF.L (Zk (Zg A3 vb<|CJ (x:=[.str Mz]) (y:=t.flat) oP M) aaD) aaD)<|tV _
def Af3(rec:Nat->F3){t u:Sm}(ht:t.ok)(hu:u.ok):Hg (aK 1 3<|qQ rec) (sW t u) [.str Mx::(t.flat++u.flat)]:=by intro M;have hl:=ht.2;have sP:=hu.2;refine FL.of (env:=[O<|sW t u,Yj,Yj]) ?_ aaD aaD;unfold qQ;exact BL.skip sC<|BL.skip sC<|BL.take yy<|BL.ret (LF.L (Zk (Zg (Zg xm aaD<|CJ (x:=[.str Mx]) (y:=t.flat) oP M) aaD<|CJ (x:=.str Mx::t.flat) (y:=u.flat) oP M) aaD) aaD)<|tV _
def ZzY{t:Sm}{a b:Ds}(ht:t.ok)(ha:Hf (rec 0) a)(hb:Hf (rec 0) b)(hw:a.wt+b.wt<=700000):Hg (aK 1 3<|qQ rec) (jX t a.enc b.enc) ((.str wG::t.flat)::(a.text++[[.str ym]]++b.text++[[.str tw]])):=by
 intro M;have hl:=ht.2;have q1:=text_len a;have q2:=text_len b;refine FL.of (env:=[O<|jX t a.enc b.enc,Yj,Yj]) ?_ aaD aaD;unfold qQ;refine BL.take yy<|BL.set (LF.call (ds:=[.U a.enc]) aaD<|ha M).le λn1 S1 p1 g1=>BL.set (LF.call (ds:=[.U b.enc]) aaD<|hb S1).le λn2 S2 p2 g2=>?_;have h:=LE.add (LE.add (LE.add (LE.add (env:=[O<|jX t a.enc b.enc,My n1,My n2]) (M:=S2) (LF.L (ds:=[.U<|.str wG::t.flat]) (g:=Za cx Ze) (Zk (Zg xm aaD<|CJ (x:=[.str wG]) (y:=t.flat) oP S2) aaD) aaD).le (λT pT=>LE.var (i:=1) aaD<|gD (p2.trans pT) g1) oP).le (λT pT=>(LF.L (ds:=[.U [.str ym]]) (g:=Za gS Ze) vc aaD).le) oP).le (λT pT=>LE.var (i:=2) aaD<|gD pT g2) oP).le (λT pT=>(LF.L (ds:=[.U [.str tw]]) (g:=Za iO Ze) vc aaD).le) oP;have e:[D.U<|.str wG::t.flat]++a.text.map D.U++[.U [.str ym]]++b.text.map D.U++[.U [.str tw]]=((.str wG::t.flat)::(a.text++[[.str ym]]++b.text++[[.str tw]])).map D.U:=by simp
 rw[e]at h;exact BL.ret h<|p1.trans p2
def Zy4{t:Sm}{a:Ds}(ht:t.ok)(ha:Hf (rec 0) a)(hw:a.wt<=700000):Hg (aK 1 3<|qQ rec) (cV t a.enc) ((.str zj::t.flat)::(a.text++[[.str tw]])):=by
 intro M;have hl:=ht.2;have q1:=text_len a;refine FL.of (env:=[O<|cV t a.enc,Yj,Yj]) ?_ aaD aaD;unfold qQ;have h:=LE.add (LE.add (env:=[O<|cV t a.enc,Yj,Yj]) (M:=M) (LF.L (ds:=[.U<|.str zj::t.flat]) (g:=Za cp Ze) (Zk (Zg xm aaD<|CJ (x:=[.str zj]) (y:=t.flat) oP M) aaD) aaD).le (λT pT=>(LF.call (F:=rec 0) (ds:=[.U a.enc]) (g:=Za (e2 Zj (Zc 0) nS) Ze) aaD<|ha T).le) oP).le (λT pT=>(LF.L (ds:=[.U [.str tw]]) (g:=Za iO Ze) vc aaD).le) oP;have e:[D.U<|.str zj::t.flat]++a.text.map D.U++[.U [.str tw]]=((.str zj::t.flat)::(a.text++[[.str tw]])).map D.U:=by simp
 rw[e]at h;exact BL.skip sC<|BL.take yy<|BL.ret h<|tV _
abbrev IT(F:F3):S3:=aG<|bA bO oM (Zc 1)<|Za (Zr F mT) Ze
def MT(hi:it.lock=Yj){r:Nat}{h:rk}{x:oS}(H:Hg F d h)(hp:M0<+:M)(hr:M[r]?=O (.L acc))(hl:b9 M0<=r)(hz:b9 acc+b9 h<=800000)(ds:h8):
  ∃S,dF it (bK 2) (IT F) (d::ds) [W,My r,x] M=dF it (bK 2) (IT F) ds [W,My r,O d] S/\M0<+:S/\S[r]?=O (.L<|acc++h.map D.U):=by
 let⟨S,e,p1⟩:=Mv (o:=Zc 1) (t:=Zr F mT) (env:=[W,My r,O d]) (ys:=h.map D.U) aaD hr (LF.call (ds:=[d]) aaD<|H M) oP;refine⟨_,?_,uN (hp.trans p1) hl,Yu (Yd.mp<|gD p1 hr).1⟩;rw[oH,f_ (by unfold i8;rw[hi])];simp only[bK,lW,lX,e]
def Hh{j:Nat}(IH:∀ds:Ds,ds.ok->ds.wt<=100000->2*ds.dep+2<=j->Hf (sS j 0) ds){it:iD}(hi:it.lock=Yj){W:oS}{r:Nat}{M0:c5}(hl:b9 M0<=r):∀(ds:Ds),ds.ok->ds.wt<=100000->2*ds.dep<=j->∀(acc:h8) (M:c5) (x:oS),M0<+:M->M[r]?=O (.L acc)->b9 acc+ds.wt<=700000 ->
  ∃S x',dF it (bK 2) (IT<|sS (j+1) 1) ds.enc [W,My r,x] M= .nx [W,My r,x'] S/\M0<+:S/\S[r]?=O (.L<|acc++ds.text.map D.U)
 | .nil,_,_,_,acc,M,x,hp,hr,_=>⟨M,x,by show dF _ _ _ [] _ _=_;rw[pW,f_ (by unfold i8;rw[hi])],hp,by simpa[Ds.text]using hr⟩|.set y t rr,ho,hw,hd,acc,M,x,hp,hr,hz=>by rw[Ds.wt]at hz hw;let⟨S,e,q1,q2⟩:=MT (W:=W) (x:=x) hi (Zy5 (sS j) (x:=y) ho.2.1) hp hr hl oP rr.enc;let⟨S2,x2,p0,q4,q5⟩:=Hh IH hi hl rr ho.2.2 c8 hd _ S _ q1 q2 oP;exact⟨S2,x2,e.trans p0,q4,by rw[q5];simp[Ds.text]⟩|.put t u rr,ho,hw,hd,acc,M,x,hp,hr,hz=>by rw[Ds.wt]at hz hw;let⟨S,e,q1,q2⟩:=MT (W:=W) (x:=x) hi (Af3 (sS j) ho.1 ho.2.1) hp hr hl oP rr.enc;let⟨S2,x2,p0,q4,q5⟩:=Hh IH hi hl rr ho.2.2 c8 hd _ S _ q1 q2 oP;exact⟨S2,x2,e.trans p0,q4,by rw[q5];simp[Ds.text]⟩|.tell t rr,ho,hw,hd,acc,M,x,hp,hr,hz=>by rw[Ds.wt]at hz hw;let⟨S,e,q1,q2⟩:=MT (W:=W) (x:=x) hi (Zyd (sS j) ho.1) hp hr hl oP rr.enc;let⟨S2,x2,p0,q4,q5⟩:=Hh IH hi hl rr ho.2 c8 hd _ S _ q1 q2 oP;exact⟨S2,x2,e.trans p0,q4,by rw[q5];simp[Ds.text]⟩
 | .bM t a b rr,ho,hw,hd,acc,M,x,hp,hr,hz=>by rw[Ds.wt]at hz hw;simp only[Ds.dep]at hd;have l1:=text_len a;have l2:=text_len b;let⟨S,e,q1,q2⟩:=MT (W:=W) (x:=x) hi (ZzY ho.1 (IH a ho.2.1 c8 c8) (IH b ho.2.2.1 c8 c8) c8) hp hr hl oP rr.enc;let⟨S2,x2,p0,q4,q5⟩:=Hh IH hi hl rr ho.2.2.2 c8 c8 _ S _ q1 q2 oP;exact⟨S2,x2,e.trans p0,q4,by rw[q5];simp[Ds.text]⟩|.ot t a rr,ho,hw,hd,acc,M,x,hp,hr,hz=>by rw[Ds.wt]at hz hw;simp only[Ds.dep]at hd;have l1:=text_len a;let⟨S,e,q1,q2⟩:=MT (W:=W) (x:=x) hi (Zy4 ho.1 (IH a ho.2.1 c8 c8) c8) hp hr hl oP rr.enc;let⟨S2,x2,p0,q4,q5⟩:=Hh IH hi hl rr ho.2.2 c8 c8 _ S _ q1 q2 oP;exact⟨S2,x2,e.trans p0,q4,by rw[q5];simp[Ds.text]⟩
def ZzC:∀(n:Nat) (ds:Ds),ds.ok->ds.wt<=100000->2*ds.dep+2<=n->Hf (sS n 0) ds:=by
 intro n
 induction n using NS with
 | ind n ih=>
  intro ds ho hw hd M
  match n,ih,hd with
  |0,_,hd=>omega|1,_,hd=>omega|j+2,ih,hd=>refine FL.of (env:=[O<|.U ds.enc,Yj,Yj]) ?_ aaD aaD;let⟨S,x,e,q1,q2⟩:=Hh (j:=j) (λds ho hw hd=>ih j c8 ds ho hw hd) (it:=⟨ds.enc,Yj⟩) aaD (W:=O<|.U ds.enc) (M0:=M) (Yn _) ds ho hw c8 [] (M++[.L []]) Yj (mX _ _) (cW M _ []) oP;refine BL.step (env':=[O<|.U ds.enc,My<|b9 M,Yj]) (S:=M++[.L []]) (bU zt)<|BL.step ((Bb (it:=⟨ds.enc,Yj⟩) aaD).trans e) ?_;exact⟨b9 M,S,dh aaD,q1,by rw[q2];simp,Yn _⟩
def Af4{ds:Ds}(ho:ds.ok)(hw:ds.wt<=100000)(hd:ds.dep<=3):Hf RW ds:=ZzC 13 ds ho hw c8
abbrev Tj:i4:=[116,97,107,101]
abbrev fB(tk:k9)(ds:Ds):D:=.U [.U<|tk.map D.str,.U ds.enc]
def mL(tk:k9):rk:=if 0<b9 tk then[.str Tj::tk.map D.str]else[]
variable{tk:k9}
def ZnQ{ds:Ds}(tN:b9 tk<=6)(ho:ds.ok)(hw:ds.wt<=100000)(hd:ds.dep<=3)(M:c5):FL KN [fB tk ds] M ((mL tk++ds.text).map D.U):=by
 refine FL.of (env:=[O<|fB tk ds,Yj]) ?_ aaD aaD;unfold Hd;have hl:=text_len ds;have i7:aL a_ jI [O<|fB tk ds,Yj] M= .ok (.int (b9 tk:Int)) M:=by refine eO (a:=.U<|tk.map D.str) (M1:=M) aaD ?_;rw[Ay,Y3]
 have h1:LE aS [O<|fB tk ds,Yj] M ((mL tk).map D.U):=by
  by_cases h:0<tk.length
  .have e:=QS (c:=e2 iQ gp nL) (f:=bh cm) (g:=bh Ze) (M1:=M) (env:=[O<|fB tk ds,Yj]) (Zg i7 aaD<|by rw[pN,qc c8]);let⟨n,S,q1,q2⟩:=(LF.L (ds:=[.U<|.str Tj::tk.map D.str]) (env:=[O<|fB tk ds,Yj]) (M:=M) (g:=Za cy Ze) (Zk (Zg xm aaD<|CJ (x:=[.str Tj]) (y:=tk.map D.str) oP M) aaD) aaD).le;refine⟨n,S,e.trans q1,?_⟩;unfold mL;rwa[f_ h]
  .have e:=XR (c:=e2 iQ gp nL) (f:=bh cm) (g:=bh Ze) (M1:=M) (env:=[O<|fB tk ds,Yj]) (Zg i7 aaD<|by rw[pN,pf c8]);let⟨n,S,q1,q2⟩:=(LF.L (ds:=[]) (env:=[O<|fB tk ds,Yj]) (M:=M) (g:=Ze) aaD aaD).le;refine⟨n,S,e.trans q1,?_⟩;unfold mL;rwa[i6 h]
 have hz:b9 (mL tk)<=1:=by unfold mL;split <;>simp
 refine BL.set h1 λn S p1 g1=>?_;have h2:=LE.add (env:=[O<|fB tk ds,My n]) (LE.var (i:=1) aaD g1) (λT pT=>(LF.call (F:=RW) (ds:=[.U ds.enc]) (g:=Za (e2 Zj (Zc 0) nN) Ze) aaD<|Af4 ho hw hd T).le) oP;rw[<-gK]at h2;exact BL.ret h2 p1
abbrev Tn:S3:=aQ (iV ky<|iV (e2 Jz (Zc 3) Ku)<|e2 JZ (Zc 3)<|Zc 1) (aG<|bA bO cQ (Zc 1) ng) cG
def IU(x:i4)(M:c5):Jz (.str x) (.U<|sJ.map D.str) M= .ok (.bl<|!bf x) M:=by
 have h1:(sJ.map D.str).all fc=true:=by rw[Wd];exact nY.mpr λ_ _=>rfl
 have h2:((sJ.map D.str).any λy=>eU y<|.str x)=bf x:=by
  rw[List.any_map];unfold bf;cases hc:sJ.contains x with
  |true=>rw[Ad];exact⟨x,V5.mp hc,by simp[Qw]⟩|false=>rw[V6];intro y hy;show¬eU (.str y) (.str x)=true;rw[Qw];simp only[beq_iff_eq];intro z;subst z;rw[V5.mpr hy]at hc;cases hc
 show(match inD (.str x) (.U<|sJ.map D.str)with|some r=>R3.ok (D.bl<|!r) M|none=>R3.bad)=_;rw[Afe,h1,h2];rfl
def ZwS{w:D}(hw:jW w){P R:oS}{s:Nat}{xs:k9}(h:M[s]?=O (.L<|xs.map D.str))(hz:b9 xs<900000):Tn [P,My s,R,O w] M= .nx [P,My s,R,O w] (M.set s<|.L<|(cX bf xs w).map D.str):=by
 have B3:b9 (xs.map D.str)<SZ:=by rw[Y3];exact j4 hz aaE
 cases hw with
 |int i=>show _=O3.nx _ (M.set s<|.L<|xs.map D.str);rw[G_ h];exact jt (JN<|di (di aaD (show jk .int (.int i) M= .ok (.bl true) M from rfl)) aaD)|str x=>
  have c1:∀g:E3,iV ky g [P,My s,R,rf x] M=g [P,My s,R,rf x] M:=λg=>ul<|di (di aaD (show jk .int (.str x) M= .ok (.bl false) M from rfl)) aaD;by_cases hx:bf x=true
  .have e:cX bf xs (.str x)=xs:=by simp[cX,hx]
   rw[e,G_ h];exact jt ((c1 _).trans<|JN<|Zg aaD aaD<|(IU x M).trans (by rw[hx];rfl))
  .have sD:bf x=false:=by cases q:bf x with|true=>exact oz q hx|false=>rfl
   by_cases hm:x∈xs
   .have e:cX bf xs (.str x)=xs:=by simp[cX,hm]
    rw[e,G_ h];exact jt ((c1 _).trans<|(ul<|Zg aaD aaD<|(IU x M).trans (by rw[sD];rfl)).trans<|Zg aaD aaD<|(Zsx h x aaD).trans<|by simp[hm])
   .have e:cX bf xs (.str x)=xs++[x]:=by simp[cX,sD,hm]
    rw[e,gK];exact(eN<|(c1 _).trans<|(ul<|Zg aaD aaD<|(IU x M).trans (by rw[sD];rfl)).trans<|Zg aaD aaD<|(Zsx h x aaD).trans<|by simp[hm]).trans (sU aaD h aaD h B3)
def ZrQ{it:iD}(hi:it.lock=Yj){P R:oS}{s:Nat}:∀(ws:h8),(∀w∈ws,jW w)->∀(xs:k9) (M:c5) (x:oS),M[s]?=O (.L<|xs.map D.str)->b9 xs+b9 ws<900000 ->
  ∃x',dF it (bK 3) Tn ws [P,My s,R,x] M= .nx [P,My s,R,x'] (M.set s<|.L<|(cO bf xs ws).map D.str)
 |[],_,xs,M,x,h,_=>⟨x,by rw[pW,f_ (by unfold i8;rw[hi])];show _=O3.nx _ (M.set s<|.L<|xs.map D.str);rw[G_ h]⟩|w::ws,hw,xs,M,x,h,hz=>by rw[Yh]at hz;have hl:=Zpx bf xs w;let⟨x',e⟩:=ZrQ hi (P:=P) (R:=R) ws (λy hy=>hw y<|Yk _ hy) (cX bf xs w) (M.set s<|.L<|(cX bf xs w).map D.str) (O w) (Zv7 h _) c8;refine⟨x',?_⟩;rw[oH,f_ (by unfold i8;rw[hi])];simp only[bK,lW,lX,ZwS (hw w Yv) h c8];rw[e,tW];rfl
def ZoH{items:h8}{rr s:Nat}(IX:rr≠s){P:oS}:∀(rows:rk),(∀r∈rows,∀w∈r,jW w)->∀(xs:k9) (M:c5) (x y:oS),M[s]?=O (.L<|xs.map D.str)->M[rr]?=O (.L items)->b9 xs+(rows.map xU).sum<900000 ->
  ∃x' y',dF ⟨items,O rr⟩ (bK 2) (lF (g_<|Zc 2) (bK 3) Tn) (rows.map D.U) [P,My s,x,y] M= .nx [P,My s,x',y'] (M.set s<|.L<|(qY xs rows).map D.str)
 |[],_,xs,M,x,y,h,hr,_=>⟨x,y,by rw[rH,pW,f_ (show i8 ⟨items,O rr⟩ M=true from qc hr)];show _=O3.nx _ (M.set s<|.L<|xs.map D.str);rw[G_ h]⟩|r::rows,hw,xs,M,x,y,h,hr,hz=>by rw[Y2,Af]at hz;have hl:=zm bf r xs;let⟨y1,e1⟩:=ZrQ (it:=⟨r,Yj⟩) aaD (P:=P) (R:=O<|.U r) r (hw r Yv) xs M y h c8;let⟨x',y',e⟩:=ZoH IX (P:=P) rows (λq hq=>hw q<|Yk _ hq) (cO bf xs r) (M.set s<|.L<|(cO bf xs r).map D.str) (O<|.U r) y1 (Zv7 h _) (by rwa[Ym IX.symm]) c8;refine⟨x',y',?_⟩;rw[Y2,oH,f_ (show i8 ⟨items,O rr⟩ M=true from qc hr)];have e2:lF (g_<|Zc 2) (bK 3) Tn [P,My s,O<|.U r,y] M= .nx [P,My s,O<|.U r,y1] (M.set s<|.L<|(cO bf xs r).map D.str):=(Bb (it:=⟨r,Yj⟩) aaD).trans e1;simp only[bK,lW,lX,e2];rw[e,tW];rfl
def ZzD:∀(ds:Ds),∀r∈ds.text,∀w∈r,jW w:=by
 have hc:∀(x:i4) (t:Sm),∀w∈(.str x::t.flat:h8),jW w:=λx t w hw=>by
  rcases Yt.mp hw with e|e
  .rw[e];exact .str x
  .exact qb t w e
 intro ds
 induction ds with
 |nil=>intro r hr;cases hr|set x t r ih=>
  intro q hq;rcases Yt.mp hq with e|e
  .subst e;intro w hw;rcases Yt.mp hw with e|e
   .rw[e];exact .str _
   .exact hc x t w e
  .exact ih q e
 | put t u r ih=>
  intro q hq;rcases Yt.mp hq with e|e
  .subst e;intro w hw;rcases Yt.mp hw with e|e
   .rw[e];exact .str _
   .rcases Yr.mp e with e|e
    .exact qb t w e
    .exact qb u w e
  .exact ih q e
 |tell t r ih=>
  intro q hq;rcases Yt.mp hq with e|e
  .subst e;exact hc _ t
  .exact ih q e
 |bM t a b r IY ihb ih=>
  intro q hq;simp only[Ds.text,pF,Yt,Yr,vK,or_false]at hq;rcases hq with e|((((e|e)|e)|e)|e)
  .subst e;exact hc _ t
  .exact IY q e
  .subst e;intro w hw;rw[Yp.mp hw];exact .str _
  .exact ihb q e
  .subst e;intro w hw;rw[Yp.mp hw];exact .str _
  .exact ih q e
 |ot t a r IY ih=>
  intro q hq;simp only[Ds.text,pF,Yt,Yr,vK,or_false]at hq;rcases hq with e|((e|e)|e)
  .subst e;exact hc _ t
  .exact IY q e
  .subst e;intro w hw;rw[Yp.mp hw];exact .str _
  .exact ih q e
theorem wM:∀(ds:Ds),(ds.text.map xU).sum<=ds.wt
 | .nil=>Yn _|.set x t r=>by have:=wM r;simp only[Ds.text,Ds.wt,Y2,Af,Yh];omega|.put t u r=>by have:=wM r;simp only[Ds.text,Ds.wt,Y2,Af,Yh,Ye];omega|.tell t r=>by have:=wM r;simp only[Ds.text,Ds.wt,Y2,Af,Yh];omega
 | .bM t a b r=>by have:=wM r;have:=wM a;have:=wM b;simp only[Ds.text,Ds.wt,Y2,gK,V_,Af,Yh,rH,List.sum_nil,gw];omega|.ot t a r=>by have:=wM r;have:=wM a;simp only[Ds.text,Ds.wt,Y2,gK,V_,Af,Yh,rH,List.sum_nil,gw];omega
theorem ZlU:∀(ws xs:k9),(∀x∈ws,x∈xs)->cO bf xs (ws.map D.str)=xs
 |[],_,_=>rfl|w::ws,xs,h=>by
  have e:cX bf xs (.str w)=xs:=by simp[cX,h w Yv]
  show cO bf (cX bf xs<|.str w) (ws.map D.str)=xs;rw[e];exact ZlU ws xs λx hx=>h x<|Yk _ hx
def ZpK{ds:Ds}(tN:b9 tk<=6)(ho:ds.ok)(hn:ds.nm)(hw:ds.wt<=100000)(hd:ds.dep<=3)(M:c5):KQ [fB tk ds] M= .ok (.U<|(ds.names tk).map D.str) M:=by
 let⟨rr,S,h1,⟨G,p1⟩,g1,l1⟩:=ZnQ tN ho hw hd<|M++[.L<|tk.map D.str];have IZ:S[b9 M]?=O (.L<|tk.map D.str):=gD ⟨G,p1⟩<|cW M _ [];have hlM:b9 (M++[MO.L<|tk.map D.str])=b9 M+1:=by simp
 have htw:∀r∈mL tk++ds.text,∀w∈r,jW w:=λr hr=>by
  rcases Yr.mp hr with e|e
  .unfold mL at e;split at e
   .rw[Yp.mp e];intro w hw;rcases Yt.mp hw with e|e
    .rw[e];exact .str _
    .let⟨x,_,rfl⟩:=rJ.mp e;exact .str x
   .cases e
  .exact ZzD ds r e
 have DS:=wM ds;have ED:((mL tk).map xU).sum<=7:=by unfold mL;split <;>simp <;>omega
 let⟨x',y',e⟩:=ZoH (items:=(mL tk++ds.text).map D.U) (rr:=rr) (s:=b9 M) c8 (P:=O<|fB tk ds) (mL tk++ds.text) htw tk S Yj Yj IZ g1 (by rw[gK,V_];omega);have hft:qY tk (mL tk++ds.text)=ds.names tk:=by
  rw[Cz];have:qY tk (mL tk)=tk:=by
   unfold mL;split
   .exact(wJ (x:=Tj) aaE tk _).trans (ZlU tk tk λ_ h=>h)
   .rfl
  rw[this,wK ds hn]
 rw[hft]at e;have Af5:S.set (b9 M) (.L<|(ds.names tk).map D.str)=M++(.L ((ds.names tk).map D.str)::G):=by rw[<-p1,Y7];exact GQ
 rw[Af5]at e;refine(iR (M':=M++(.L ((ds.names tk).map D.str)::G)) (d:=.U<|(ds.names tk).map D.str) (env:=[O<|fB tk ds,Yj,Yj,Yj]) ?_).trans (yu ?_)
 .unfold He;refine(Zm<|bU (d:=.ref<|b9 M) (M':=M++[.L<|tk.map D.str])<|eO aaD<|UX _).trans ((Zm<|(Bb (it:=⟨(mL tk++ds.text).map D.U,O rr⟩) (M':=S) ?_).trans e).trans<|dh<|eO aaD<|yx<|cW _ _ _);show(Zr KN mS [O<|fB tk ds,My<|b9 M,Yj,Yj]<|M++[.L<|tk.map D.str]).bind _=_;rw[lJ aaD h1,R3.rm];show(match S[rr]? with|some (.L ds)=>R3.ok (⟨ds,O rr⟩:iD) S|_=>R3.bad)=_;rw[g1]
 .show cu _ _=true;exact qU λw hw=>by let⟨x,_,rfl⟩:=rJ.mp hw;exact .str x
def wN:Nat->k9->l9
 |_,[]=>[]|k,x::r=>(.inr x,.int<|2*(k:Int)+1)::wN (k+1) r
def gF(L:k9):l9:=dictOf<|wN 0 L
theorem Zpc:∀(k:Nat) (L:k9),(wN k L).map (·.1)=L.map Sum.inr
 |_,[]=>rfl|k,x::r=>by rw[wN,Y2,Y2,Zpc (k+1) r]
theorem ZoE:∀(L:k9) (k i:Nat) (x:i4),L.Nodup->L[i]?=O x->cD (wN k L) (.inr x)=O (.int<|2*((k+i:Nat):Int)+1)
 |[],_,_,_,_,h=>by cases h|y::r,k,0,x,_,h=>by have e:y=x:=Y9 h;subst e;show(if(Sum.inr y:aH)= .inr y then O (D.int<|2*(k:Int)+1)else _)=_;rw[f_ aaD];rfl
 | y::r,k,i+1,x,hn,h=>by
  have hr:r[i]?=O x:=h;have oq:¬(Sum.inr y:aH)= .inr x:=λe=>by have e:y=x:=P_ e;subst e;exact(lC.mp hn).1 (rG hr)
  show(if(Sum.inr y:aH)= .inr x then _ else cD (wN (k+1) r) (.inr x))=_;rw[i6 oq,ZoE r (k+1) i x (lC.mp hn).2 hr,tZ,Ai 1 i]
variable{L:k9}
def ZsM(h:L.Nodup):(L.map (Sum.inr:i4->aH)).Nodup:=by
 induction L with
 |nil=>exact Wb|cons x r ih=>rw[Y2,lC];refine⟨λhm=>?_,ih (lC.mp h).2⟩;let⟨y,hy,e⟩:=rJ.mp hm;have e:y=x:=P_ e;exact(lC.mp h).1 (e▸hy)
def Zyn(hn:L.Nodup){x:i4}(h:L[i]?=O x):cD (gF L) (.inr x)=e5 (2*(i:Int)+1):=by
 have hk:((wN 0 L).map (·.1)).Nodup:=by rw[Zpc];exact ZsM hn
 unfold gF dictOf;rw[X4 _ _ _ hk,ZoE L 0 i x hn h,qz]
def Af6(hn:L.Nodup){x:i4}(h:L[i]?=O x):ox (gF L) (.inr x)=2*(i:Int)+1:=by unfold ox;rw[Zyn hn h]
def I0(hn:L.Nodup){x:i4}(h:x∈L):∃z,cD (gF L) (.inr x)=e5 z:=by let⟨i,hi⟩:=IK h;exact⟨_,Zyn hn hi⟩
def ZvX(R:i4->Bool)(xs:k9)(w:D):∀x∈xs,x∈cX R xs w:=λx hx=>by
 unfold cX;split
 .split
  .exact hx
  .exact vJ _ hx
 .exact hx
def Zqq(R:i4->Bool){xs:k9}(w:D)(h:xs.Nodup):(cX R xs w).Nodup:=by
 unfold cX;split
 .split
  .exact h
  .rename_i x hx;rw[NA];refine⟨h,j0,λa ha b hb=>?_⟩;rw[Yp.mp hb];intro e;subst e;exact hx<|.inr ha
 .exact h
theorem uQ(R:i4->Bool):∀(ws:h8) (xs:k9),∀x∈xs,x∈cO R xs ws
 |[],_,_,h=>h|w::ws,xs,x,h=>uQ R ws (cX R xs w) x<|ZvX R xs w x h
theorem CK(R:i4->Bool):∀(ws:h8) {xs:k9},xs.Nodup->(cO R xs ws).Nodup
 |[],_,h=>h|w::ws,_,h=>CK R ws<|Zqq R w h
theorem nP{x:i4}(hx:bj x=false):∀(ws:h8) (xs:k9),.str x∈ws->x∈cO bj xs ws
 |[],_,h=>by cases h|w::ws,xs,h=>by
  rcases Yt.mp h with e|e
  .subst e;refine uQ bj ws _ x ?_;show x∈(if bj x=true\/x∈xs then xs else xs++[x]);by_cases hm:x∈xs
   .rwa[f_<|Or.inr hm]
   .rw[i6 λq=>q.elim (λq=>by rw[hx]at q;cases q) hm];simp
  .exact nP hx ws _ e
theorem dX:∀(ds:Ds) (xs:k9),∀x∈xs,x∈ds.names xs
 | .nil,_,_,h=>h|.set y t r,xs,x,h=>dX r _ x (uQ bj _ xs x h)|.put t u r,xs,x,h=>dX r _ x (uQ bj _ _ x<|uQ bj _ xs x h)|.tell t r,xs,x,h=>dX r _ x<|uQ bj _ xs x h
 | .bM t a b r,xs,x,h=>dX r _ x (dX b _ x<|dX a _ x<|uQ bj _ xs x h)|.ot t a r,xs,x,h=>dX r _ x<|dX a _ x<|uQ bj _ xs x h
theorem names_nodup:∀(ds:Ds) {xs:k9},xs.Nodup->(ds.names xs).Nodup
 | .nil,_,h=>h|.set y t r,_,h=>names_nodup r (CK bj _ h)|.put t u r,_,h=>names_nodup r (CK bj _<|CK bj _ h)|.tell t r,_,h=>names_nodup r<|CK bj _ h
 | .bM t a b r,_,h=>names_nodup r (names_nodup b<|names_nodup a<|CK bj _ h)|.ot t a r,_,h=>names_nodup r<|names_nodup a<|CK bj _ h
theorem wO{L:k9}(hn:L.Nodup):∀(t:Sm),t.good->(∀x,bj x=false-> .str x∈t.flat->x∈L)->t.kn (gF L)
 | .num _,_,_=>trivial|.bW x,hg,h=>I0 hn (h x hg<|Yp.mpr aaD)|.dw a,hg,h=>wO hn a hg λx hx hm=>h x hx (Yk _ hm)|.two o a b,hg,h=>⟨wO hn a hg.1 λx hx hm=>h x hx<|Yk _<|vJ _ hm,wO hn b hg.2 λx hx hm=>h x hx<|Yk _<|lV _ hm⟩
theorem wQ{L:k9}(hn:L.Nodup):∀(ds:Ds) (xs:k9),ds.ok->(∀x∈ds.names xs,x∈L)->ds.kn (gF L)
 | .nil,_,_,_=>trivial|.set y t r,xs,ho,h=>⟨I0 hn<|h y<|dX r _ y<|nP ho.1 _ xs Yv,wO hn t ho.2.1.1 λx hx hm=>h x<|dX r _ x<|nP hx _ xs<|Yk _ hm,wQ hn r _ ho.2.2 h⟩|.put t u r,xs,ho,h=>⟨wO hn t ho.1.1 λx hx hm=>h x<|dX r _ x<|uQ bj _ _ x<|nP hx _ xs hm,wO hn u ho.2.1.1 λx hx hm=>h x<|dX r _ x<|nP hx _ _ hm,wQ hn r _ ho.2.2 h⟩|.tell t r,xs,ho,h=>⟨wO hn t ho.1.1 λx hx hm=>h x<|dX r _ x<|nP hx _ xs hm,wQ hn r _ ho.2 h⟩
 | .bM t a b r,xs,ho,h=>⟨wO hn t ho.1.1 λx hx hm=>h x<|dX r _ x<|dX b _ x<|dX a _ x<|nP hx _ xs hm,wQ hn a _ ho.2.1 λx hx=>h x<|dX r _ x<|dX b _ x hx,wQ hn b _ ho.2.2.1 λx hx=>h x<|dX r _ x hx,wQ hn r _ ho.2.2.2 h⟩|.ot t a r,xs,ho,h=>⟨wO hn t ho.1.1 λx hx hm=>h x<|dX r _ x<|dX a _ x<|nP hx _ xs hm,wQ hn a _ ho.2.1 λx hx=>h x<|dX r _ x hx,wQ hn r _ ho.2.2 h⟩
abbrev ncB:S3:=QH (Zc 1) (Zc 3) fE
def ZrM{P:oS}{n:Nat}:∀(L:k9) (k:Nat) (kvs:l9) (M:c5) (x y:oS),M[n]?=O (.j3 kvs)->b9 kvs+b9 L<900000 ->
  ∃x' y',ju [] (pR [2,3]) ncB (i_ k<|L.map D.str) [P,My n,x,y] M= .nx [P,My n,x',y'] (M.set n<|.j3<|(wN k L).foldl (λacc p=>oI p.1 p.2 acc) kvs)
 |[],k,kvs,M,x,y,h,_=>⟨x,y,by show ju _ _ _ [] _ _=O3.nx _ (M.set n<|.j3 kvs);rw[Fw,f_ (show kW [] M=true from rfl),G_ h]⟩|w::L,k,kvs,M,x,y,h,hz=>by
  rw[Yh]at hz;have hl:=Tg (.inr w) (.int<|2*(k:Int)+1) kvs;have hn:=(Yd.mp h).1;have e:ncB [P,My n,e5 (k:Int),rf w] M= .nx [P,My n,e5 (k:Int),rf w] (M.set n<|.j3<|oI (.inr w) (.int<|2*(k:Int)+1) kvs):=by refine jE (d:=.Z) (Aba (Zg (Zg aaD aaD<|by rw[Av,f_<|Ms aaE]) aaD aaD) aaD aaD ?_);rw[QD,h];exact f_ (j4 (show b9 kvs<900000 by omega) aaE)
  let⟨x',y',e2⟩:=ZrM (P:=P) L (k+1) (oI (.inr w) (.int<|2*(k:Int)+1) kvs) (M.set n<|.j3<|oI (.inr w) (.int<|2*(k:Int)+1) kvs) (e5 (k:Int)) (rf w) (Yu hn) c8;refine⟨x',y',?_⟩;show ju _ _ _ (.U [.int (k:Int),.str w]::i_ (k+1) (L.map D.str)) _ _=_;rw[Fx,f_ (show kW [] M=true from rfl)];simp only[pR,QK,QJ,lW,lX,e];rw[e2,tW];rfl
def ZmJ{ds:Ds}(tN:b9 tk<=6)(ho:ds.ok)(hn:ds.nm)(hw:ds.wt<=100000)(hd:ds.dep<=3)(M:c5):RX [fB tk ds] M= .ok (.ref<|b9 M) (M++[.j3<|gF<|ds.names tk]):=by
 have hln:=wL ds tk;let⟨x',y',e⟩:=ZrM (P:=O<|fB tk ds) (n:=b9 M) (ds.names tk) 0 [] (M++[.j3 []]) Yj Yj (cW M _ []) oP;have hs:(M++[MO.j3 []]).set (b9 M) (.j3<|(wN 0<|ds.names tk).foldl (λacc p=>oI p.1 p.2 acc) [])=M++[.j3<|gF<|ds.names tk]:=by simp[gF,dictOf]
 rw[hs]at e;refine(iR (M':=M++[.j3<|gF<|ds.names tk]) (d:=.ref<|b9 M) (env:=[O<|fB tk ds,Yj,Yj,Yj]) ?_).trans ?_
 .unfold Hm;refine(Zm<|bU (d:=.ref<|b9 M) (M':=M++[.j3 []]) aaD).trans ((Zm<|(Th (it:=⟨i_ 0<|(ds.names tk).map D.str,[]⟩) (M':=M++[.j3 []]) ?_).trans e).trans<|dh aaD);show(Zr KQ mS _ _).bind _=_;rw[lJ aaD<|ZpK tN ho hn hw hd _,R3.rm]
 .have hb:below (b9 M) (.ref<|b9 M)=false:=pf<|pG _;rw[tidy,hb];rfl
def oZ(ck:l9):Nat->k9->h8
 |_,[]=>[]|k,x::r=>Cw 7 (ox ck<|.inr x)::GR 7 (k:Int)::oZ ck (k+1) r
theorem Zpm(ck:l9):∀(k:Nat) (tk:k9),b9 (oZ ck k tk)=2*tk.length
 |_,[]=>rfl|k,x::r=>by simp only[oZ,Yh,Zpm ck (k+1) r];omega
abbrev roB:S3:=aG de
def ZrX{ck:l9}{P:oS}{c r:Nat}{M0:c5}(hl:b9 M0<=r):∀(tk:k9),(∀x∈tk,∃z,cD ck (.inr x)=e5 z)->∀(k:Nat) (acc:h8) (M:c5) (x y:oS),M0<+:M->M[r]?=O (.L acc)->M[c]?=O (.j3 ck)->b9 acc+2*b9 tk<=1000 ->
  ∃S x' y',ju [] (pR [3,4]) roB (i_ k<|tk.map D.str) [P,My c,My r,x,y] M= .nx [P,My c,My r,x',y'] S/\M0<+:S/\S[r]?=O (.L<|acc++oZ ck k tk)/\S[c]?=O (.j3 ck)
 |[],_,k,acc,M,x,y,hp,hr,hc,_=>⟨M,x,y,by show ju _ _ _ [] _ _=_;rw[Fw,f_ (show kW [] M=true from rfl)],hp,by simpa[oZ]using hr,hc⟩|w::tk,hk,k,acc,M,x,y,hp,hr,hc,hz=>by
  rw[Yh]at hz;have GZ:c≠r:=λe=>by rw[e,hr]at hc;cases hc
  let⟨S,e,p1⟩:=Mv (o:=Zc 2) (t:=Zr za iS) (env:=[P,My c,My r,e5 (k:Int),rf w]) aaD hr (LF.call (ds:=[.str w,.int (k:Int),.ref c]) aaD<|ZuW (hk w Yv) (k:Int) hc) oP;have MJ:=(Yd.mp<|gD p1 hr).1;let⟨S2,x',y',e2,q1,q2,q3⟩:=ZrX (P:=P) hl tk (λz hz=>hk z<|Yk _ hz) (k+1) (acc++[Cw 7<|ox ck<|.inr w,GR 7 (k:Int)]) (S.set r<|.L<|acc++[Cw 7<|ox ck<|.inr w,GR 7 (k:Int)]) (e5 (k:Int)) (rf w) (uN (hp.trans p1) hl) (Yu MJ) (by rw[Ym GZ.symm];exact gD p1 hc) oP;refine⟨S2,x',y',?_,q1,by rw[q2];simp[oZ],q3⟩;show ju _ _ _ (.U [.int (k:Int),.str w]::i_ (k+1) (tk.map D.str)) _ _=_;rw[Fx,f_ (show kW [] M=true from rfl)];simp only[pR,QK,QJ,lW,lX,e,e2]
def M_(d:D):Prop:=∃(x:i4) (is:l8),d= .U (.str x::is.map D.int)
theorem wR(ck:l9):∀(t:Sm) (b:Int),∀d∈t.rows ck b,M_ d
 | .num i,b,d,h=>by rw[Yp.mp h];exact⟨_,[b,i],rfl⟩|.bW x,b,d,h=>by
  rcases Yt.mp h with e|e
  .rw[e];exact⟨_,[7,_],rfl⟩
  .rw[Yp.mp e];exact⟨_,[b,7],rfl⟩
 | .dw a,b,d,h=>by
  rcases Yr.mp h with e|e
  .exact wR ck a b d e
  .rcases Yt.mp e with e|e
   .rw[e];exact⟨_,[b,b,b],rfl⟩
   .rw[Yp.mp e];exact⟨_,[b,b],rfl⟩
 | .two o a c,b,d,h=>by
  rcases Yr.mp h with e|e
  .rcases Yr.mp e with e|e
   .exact wR ck a b d e
   .exact wR ck c (b+1) d e
  .rw[Yp.mp e];exact⟨_,[b,b,b+1],rfl⟩
theorem wU(ck:l9):∀(ds:Ds) (p:Int),∀d∈ds.rows ck p,M_ d
 | .nil,_,d,h=>by cases h|.set x t r,p,d,h=>by
  rcases Yr.mp h with e|e
  .rcases Yr.mp e with e|e
   .exact wR ck t 0 d e
   .rcases Yt.mp e with e|e
    .rw[e];exact⟨_,[7,_],rfl⟩
    .rw[Yp.mp e];exact⟨_,[7,0],rfl⟩
  .exact wU ck r _ d e
 | .put t u r,p,d,h=>by
  rcases Yr.mp h with e|e
  .simp only[sY,Yr,Yp]at e;rcases e with((e|e)|e)|e
   .exact wR ck t 0 d e
   .rw[e];exact⟨_,[0,0,0],rfl⟩
   .exact wR ck u 1 d e
   .rw[e];exact⟨_,[0,1],rfl⟩
  .exact wU ck r _ d e
 | .tell t r,p,d,h=>by
  rcases Yr.mp h with e|e
  .rcases Yr.mp e with e|e
   .exact wR ck t 0 d e
   .rw[Yp.mp e];exact⟨_,[0],rfl⟩
  .exact wU ck r _ d e
 | .bM t a b r,p,d,h=>by
  rcases Yr.mp h with e|e
  .simp only[sZ,Yr,Yp]at e;rcases e with(((e|e)|e)|e)|e
   .exact wR ck t 0 d e
   .rw[e];exact⟨_,[0,_],rfl⟩
   .exact wU ck b _ d e
   .rw[e];exact⟨_,[_],rfl⟩
   .exact wU ck a _ d e
  .exact wU ck r _ d e
 | .ot t a r,p,d,h=>by
  rcases Yr.mp h with e|e
  .simp only[tu,Yr,Yt,vK,or_false]at e;rcases e with((e|(e|e))|e)|e
   .exact wR ck t 0 d e
   .rw[e];exact⟨_,[0,_],rfl⟩
   .rw[e];exact⟨_,[_],rfl⟩
   .exact wU ck a _ d e
   .rw[e];exact⟨_,[p],rfl⟩
  .exact wU ck r _ d e
theorem ZrN(ck:l9):∀(k:Nat) (tk:k9),∀d∈oZ ck k tk,M_ d
 |_,[],d,h=>by cases h|k,x::r,d,h=>by
  rcases Yt.mp h with e|e
  .rw[e];exact⟨_,[7,_],rfl⟩
  .rcases Yt.mp e with e|e
   .rw[e];exact⟨_,[7,_],rfl⟩
   .exact ZrN ck (k+1) r d e
theorem ZmR{n:Nat}:∀{l:h8},(∀d∈l,M_ d)->cu n l=true
 |[],_=>rfl|d::l,h=>by
  let⟨x,is,e⟩:=h d Yv;have h1:below n d=true:=by
   rw[e];show cu n _=true;exact qU λw hw=>by
    rcases Yt.mp hw with e|e
    .rw[e];exact .str x
    .let⟨i,_,rfl⟩:=rJ.mp e;exact .int i
  show(below n d&&cu n l)=true;rw[h1,ZmR λy hy=>h y<|Yk _ hy];rfl
abbrev Af7:D:=.U [.str [104,97,108,116]]
def Hi(ck:l9)(tk:k9)(ds:Ds):h8:=oZ ck 0 tk++ds.rows ck (2*(b9 tk:Int))++[Af7]
def Zur(ck:l9)(tk:k9)(ds:Ds):∀d∈Hi ck tk ds,M_ d:=λd h=>by
 simp only[Hi,Yr,Yp]at h;rcases h with(e|e)|e
 .exact ZrN ck 0 tk d e
 .exact wU ck ds _ d e
 .rw[e];exact⟨_,[],rfl⟩
def Zqv{ds:Ds}(tN:b9 tk<=6)(EE:tk.Nodup)(ho:ds.ok)(hn:ds.nm)(hw:ds.wt<=100000)(hd:ds.dep<=3)(M:c5):KR [fB tk ds] M= .ok (.U<|Hi (gF<|ds.names tk) tk ds) M:=by
 let L:=ds.names tk
 have hL:L.Nodup:=names_nodup ds EE;have xC:∀x∈tk,x∈L:=dX ds tk
 let M1:=M++[MO.j3<|gF L]++[.L []]
 have MK:b9 (M++[MO.j3<|gF L])=b9 M+1:=by simp
 have IP:M1[b9 M+1]?=O (.L []):=by rw[<-MK];exact cW _ _ []
 have xp:M1[b9 M]?=O (.j3<|gF L):=h_ (cW M _ []) _;have hp0:M<+:M1:=(mX M _).trans<|mX _ _;let⟨S,x',y',e,q1,q2,q3⟩:=ZrX (P:=O<|fB tk ds) (M0:=M) (r:=b9 M+1) (c:=b9 M) c8 tk (λx hx=>I0 hL<|xC x hx) 0 [] M1 Yj Yj hp0 IP xp oP;rw[qy]at q2;have pv:=Zpm (gF L) 0 tk;have DV:=nO (gF L) ds<|2*(b9 tk:Int);have hD:=Zy9 ho (wQ hL ds tk ho λ_ h=>h) hw hd S (b9 M) (2*(b9 tk:Int)) q3;let⟨S2,p0,p2⟩:=Mv (o:=Zc 2) (t:=Zr R7 cz) (env:=[O<|fB tk ds,My<|b9 M,My<|b9 M+1,x',y']) aaD q2 (LF.call (ds:=[.U ds.enc,.int<|2*(b9 tk:Int),.ref<|b9 M]) (Zk aaD<|Zk (eO aaD<|(kO q2).trans (by rw[pv];congr 2)) aaD) hD) c8;have MJ:=(Yd.mp<|gD p2 q2).1;obtain⟨G,hG⟩:M<+:S2.set (b9 M+1) (.L<|oZ (gF L) 0 tk++ds.rows (gF L) (2*(b9 tk:Int))):=uN (q1.trans p2) c8;have zv:(S2.set (b9 M+1)<|.L<|oZ (gF L) 0 tk++ds.rows (gF L) (2*(b9 tk:Int)))[b9 M+1]?=O (.L<|oZ (gF L) 0 tk++ds.rows (gF L) (2*(b9 tk:Int))):=Yu MJ;rw[<-hG]at zv p0;refine(iR (M':=M++G) (d:=.U<|Hi (gF L) tk ds) (env:=[O<|fB tk ds,Yj,Yj,Yj,Yj]) ?_).trans (yu ?_)
 .unfold Hn;refine(Zm<|bU (d:=.ref<|b9 M) (M':=M++[MO.j3<|gF L])<|lJ aaD<|ZmJ tN ho hn hw hd M).trans ((Zm<|bU (d:=.ref<|b9 M+1) (M':=M1) ?_).trans<|(Zm<|(Th (it:=⟨i_ 0<|tk.map D.str,[]⟩) (M':=M1) aaD).trans e).trans<|(Zm p0).trans<|dh<|Zg (eO aaD<|yx zv) (cR vc aaD) ?_)
  .refine(jy (ds:=[]) (M':=M++[MO.j3<|gF L]) aaD aaD).trans ?_;rw[MK]
  .rw[yq];exact f_ (show(oZ (gF L) 0 tk++ds.rows (gF L) (2*(b9 tk:Int))).length+1<=1000000 by rw[Ye];omega)
 .show cu _ _=true;exact ZmR<|Zur _ tk ds
def mO(ns:l8)(i:Nat):i4:=if h:b9 ns<=63 then(S6 h i).choose else[]
def Jn(h:b9 ns<=63)(i:Nat):GJ (mO ns i):=by unfold mO;rw[dif_pos h];exact(S6 h i).choose_spec.1
def JA(h:b9 ns<=63)(i:Nat)(M:c5):p7 [SC ns,.int (i:Int)] M= .ok (.str<|mO ns i) M:=by unfold mO;rw[dif_pos h];exact(S6 h i).choose_spec.2.2 M
def Zyq(h:b9 ns<=63)(i:Nat):(mO ns i)[(dr ns 1 % 8).toNat]?=oX[(((i:Int)+dr ns 3) % 26).toNat]?:=by unfold mO;rw[dif_pos h];exact(S6 h i).choose_spec.2.1
def Hj(d:Int):Int:=if h:0<=d then(ID h).choose else 0
def Zza{d:Int}(h:0<=d)(M:c5):uI [.int d] M= .ok (.int<|Hj d) M:=by unfold Hj;rw[dif_pos h];exact(ID h).choose_spec M
def zp(ns:l8)(n:Nat):k9:=(fM n).map<|mO ns
def JE(ns:l8)(n:Nat):b9 (zp ns n)=n:=by simp[zp]
def Af8(n:Nat):qJ 0 n=(fM n).map λ(k:Nat)=>D.int (k:Int):=by unfold qJ;refine Na λk _=>?_;rw[Wr]
def Znn(h:f env M= .ok (.int (n:Int)) M)(hn:n<=1000):pU f env M= .ok ⟨(fM n).map λ(k:Nat)=>D.int (k:Int),Yj⟩ M:=by
 have hc:(n:Int)<=1000000/\ -1000000<=(n:Int):=by omega
 simp only[pU,h,R3.bind,f_ hc,t6,Af8]
def CN(d:Int):Int:=if d / 7 % 2=0 then 1 else 10^17
def tD(ns:l8)(n:Nat):l8:=(fM n).map λk=>Hj (dr ns<|60+k)*CN (dr ns<|60+k)
def ZvH(ns:l8)(n:Nat):b9 (tD ns n)=n:=by simp[tD]
def Zuq{d:Int}(hd:0<=d)(h3:∀M,Zc 3 env M= .ok (.int d) M)(M:c5):e2 fP my bg env M= .ok (.int<|Hj d*CN d) (M++[.L [.int 1,.int<|10^17]]):=by
 let⟨b,eb,hb⟩:=p8 (d / 7) 2 aaE;have eb:d / 7 % 2=(b:Int):=eb;have hg:[D.int 1,.int<|10^17][b]?=e5 (CN d):=by
  unfold CN;rw[eb]
  match b,hb with
  |0,_=>rfl|1,_=>rfl
 refine Zg (lJ (h3 M)<|Zza hd M) (Zg (jy (ds:=[.int 1,.int<|10^17]) aaD aaD) (Zg (Zg (h3 _) aaD<|lN aaE) aaD<|fj aaE)<|jF (cW M _ [])<|by rwa[eb,lH]) ?_;rw[Av,f_<|mul_r (by unfold CN;split <;>decide)]
def Zmc{α:Type}{enc h:α->D}{it:iD}{g:G3}{n:Nat}{elt:E3}{I:Zz->Prop}{J:α->MO}:∀(as:List α) (acc:h8) (env:Zz) (M G:c5),I env->b9 M=n ->
  (∀a∈as,∀env,I env->∃cY,g (enc a) env=O cY/\I cY/\∀S,elt cY S= .ok (h a) (S++[J a]))->(∀x G,i8 it (M++ .L x::G)=true)->b9 acc+b9 as<=SZ ->
  ∃G',eG it g [] elt n (as.map enc) env (M++ .L acc::G)= .ok (.ref n) (M++ .L (acc++as.map h)::G')
 |[],acc,env,M,G,_,_,_,hl,_=>⟨G,by rw[rH,QM,f_<|hl _ _,rH,gJ]⟩|a::as,acc,env,M,G,hI,hn,hf,hl,hz=>by
  let⟨cY,hg,IE,he⟩:=hf a Yv env hI;have lt:b9 acc<SZ:=by simp only[Yh]at hz;omega
  let⟨G',ih⟩:=Zmc as (acc++[h a]) cY M (G++[J a]) IE hn (λb hb=>hf b<|Yk _ hb) hl (by simp only[Ye,Yh,gw]at hz |-;omega);refine⟨G',?_⟩;have e1:(M++ .L acc::G)++[J a]=M++ .L acc::(G++[J a]):=by simp
  have e2:(M++ .L acc::(G++[J a]))[n]?=O (.L acc):=by rw[<-hn];exact cW _ _ _
  have e3:(M++ .L acc::(G++[J a])).set n (.L<|acc++[h a])=M++ .L (acc++[h a])::(G++[J a]):=by rw[<-hn];exact GQ
  rw[Y2,Fv,f_<|hl _ _,hg];simp only[Ft,R3.rm,if_true,he,e1,e2,f_ lt,e3];rw[ih];simp
def ZtX(hl:b9 ns<=63){P:D}(hb:aL a_ ka [O<|SC ns,O P,Yj] M= .ok (.int (n:Int)) M)(BM:n<=100):K1 [SC ns,P] M= .ok (.U<|(tD ns n).map D.int) M:=by
 have l1:lG fq 1 (bK 3) [] eK [O<|SC ns,O P,Yj] M= .ok (.ref<|b9 M) (M++[.L<|(fM n).map λk=>D.int<|dr ns<|60+k]):=by
  refine IF (enc:=λk=>D.int ((k:Nat):Int)) (h:=λk=>D.int<|dr ns<|60+k) (as:=fM n) (M1:=M) (lock:=Yj) (λe=>∃y z x,e=[O<|SC ns,y,z,x]) ?_ (λ_ h=>by cases h) ⟨_,_,_,rfl⟩ ?_ oP
  .exact Znn hb c8
  .intro k _ env ⟨y,z,x,e⟩;subst e;exact⟨_,rfl,⟨_,_,_,rfl⟩,λx=>sV hl (k:=60+k) aaD vb⟩
 let M1:=M++[.L<|(fM n).map λk=>D.int<|dr ns<|60+k]
 have MK:b9 M1=b9 M+1:=by simp[M1]
 let⟨G,l2⟩:=Zmc (enc:=λk=>D.int<|dr ns<|60+k) (h:=λk=>D.int<|Hj (dr ns<|60+k)*CN (dr ns<|60+k)) (J:=λ_=>.L [.int 1,.int<|10^17]) (it:=⟨(fM n).map λk=>D.int<|dr ns<|60+k,O<|b9 M⟩) (g:=bK 3) (n:=b9 M1) (elt:=e2 fP my bg) (I:=λe=>∃y z u x,e=[y,z,u,x]) (fM n) [] ([O<|SC ns,O P,My<|b9 M]++Yg 1 Yj) M1 [] ⟨_,_,_,_,rfl⟩ aaD
  (λk _ env ⟨y,z,u,x,e⟩=>by subst e;exact⟨_,rfl,⟨_,_,_,_,rfl⟩,λS=>Zuq (Zyw _ _) (λ_=>rfl) S⟩)
  (λx G=>by show decide _=true;refine qc ?_;rw[show M1++ .L x::G=M++(.L ((fM n).map λk=>D.int<|dr ns<|60+k):: .L x::G)by simp[M1]];exact cW _ _ _) oP
 have zw:([]:h8)++(fM n).map (λk=>D.int<|Hj (dr ns<|60+k)*CN (dr ns<|60+k))=(tD ns n).map D.int:=by simp[tD]
 rw[zw]at l2;refine(iR (M':=M1++ .L ((tD ns n).map D.int)::G) (d:=.U<|(tD ns n).map D.int) (env:=[O<|SC ns,O P,Yj]) ?_).trans ?_
 .unfold HL;refine(Zm<|bU l1).trans (dh<|eO (a:=.ref<|b9 M1) (M1:=M1++ .L ((tD ns n).map D.int)::G) ?_<|yx<|cW _ _ _);refine(XF (M':=M1) (it:=⟨(fM n).map λk=>D.int<|dr ns<|60+k,O<|b9 M⟩) ?_).trans l2;show(match M1[b9 M]? with|some (.L ds)=>R3.ok (⟨ds,O<|b9 M⟩:iD) M1|_=>R3.bad)=_;rw[show M1[b9 M]?=_ from cW M _ []]
 .have e:M1++ .L ((tD ns n).map D.int)::G=M++(.L ((fM n).map λk=>D.int<|dr ns<|60+k):: .L ((tD ns n).map D.int)::G):=by simp[M1]
  rw[e];refine yu ?_;show cu _ _=true;exact qU λw hw=>by let⟨i,_,rfl⟩:=rJ.mp hw;exact .int i
def Zv3(hl:b9 ns<=63)(n:Nat)(hn:n<=100)(I:Zz->Prop)(h0:I (env++Yg 1 Yj))(hI:∀e,I e->∀d,I (e.set i<|O d)/\∀M,Zc 0 (e.set i<|O d) M= .ok (SC ns) M/\Zc i (e.set i<|O d) M= .ok d M)(M:c5):
  lG (pU<|eC<|.int (n:Int)) 1 (bK i) [] (Zr p7<|Za (Zc 0)<|Za (Zc i) Ze) env M= .ok (.ref<|b9 M) (M++[.L<|(zp ns n).map D.str]):=by
 have h:=IF (enc:=λk=>D.int ((k:Nat):Int)) (h:=λk=>D.str<|mO ns k) (own:=1) (i:=pU<|eC<|.int (n:Int)) (g:=bK i) (elt:=Zr p7<|Za (Zc 0)<|Za (Zc i) Ze) (env:=env) (M:=M) (as:=fM n) (M1:=M) (lock:=Yj) I
  (Znn aaD c8) (λ_ h=>by cases h) h0
  (λk _ e he=>⟨_,rfl,(hI e he _).1,λx=>jU ((hI e he _).2 _).1 ((hI e he _).2 _).2<|JA hl k _⟩) oP
 rw[h];simp[zp]
def Ds.app:Ds->Ds->Ds
 | .nil,s=>s|.set x t r,s=>.set x t (r.app s)|.put t u r,s=>.put t u (r.app s)|.tell t r,s=>.tell t<|r.app s
 | .bM t a b r,s=>.bM t a b (r.app s)|.ot t a r,s=>.ot t a<|r.app s
theorem CP:∀(d s:Ds),(d.app s).enc=d.enc++s.enc
 | .nil,_=>rfl|.set x t r,s=>by simp only[Ds.app,Ds.enc,CP r s,pF]|.put t u r,s=>by simp only[Ds.app,Ds.enc,CP r s,pF]|.tell t r,s=>by simp only[Ds.app,Ds.enc,CP r s,pF]
 | .bM t a b r,s=>by simp only[Ds.app,Ds.enc,CP r s,pF]|.ot t a r,s=>by simp only[Ds.app,Ds.enc,CP r s,pF]
structure iy(d:Ds)(n:Nat):Prop where
 ok:d.ok
 nm:d.nm
 dep:d.dep<=n
theorem Hl:∀{d s:Ds},d.ok->s.ok->(d.app s).ok
 | .nil,_,_,h=>h|.set _ _ _,_,h,k=>⟨h.1,h.2.1,Hl h.2.2 k⟩|.put _ _ _,_,h,k=>⟨h.1,h.2.1,Hl h.2.2 k⟩|.tell _ _,_,h,k=>⟨h.1,Hl h.2 k⟩
 | .bM _ _ _ _,_,h,k=>⟨h.1,h.2.1,h.2.2.1,Hl h.2.2.2 k⟩|.ot _ _ _,_,h,k=>⟨h.1,h.2.1,Hl h.2.2 k⟩
theorem Ho:∀{d s:Ds},d.nm->s.nm->(d.app s).nm
 | .nil,_,_,h=>h|.set _ _ _,_,h,k=>⟨h.1,h.2.1,Ho h.2.2 k⟩|.put _ _ _,_,h,k=>⟨h.1,h.2.1,Ho h.2.2 k⟩|.tell _ _,_,h,k=>⟨h.1,Ho h.2 k⟩
 | .bM _ _ _ _,_,h,k=>⟨h.1,h.2.1,h.2.2.1,Ho h.2.2.2 k⟩|.ot _ _ _,_,h,k=>⟨h.1,h.2.1,Ho h.2.2 k⟩
theorem Hq:∀(d s:Ds),(d.app s).dep=gR d.dep s.dep
 | .nil,_=>by simp[Ds.app,Ds.dep]|.set _ _ r,s=>by simp only[Ds.app,Ds.dep,Hq r s]|.put _ _ r,s=>by simp only[Ds.app,Ds.dep,Hq r s]|.tell _ r,s=>by simp only[Ds.app,Ds.dep,Hq r s]
 | .bM _ a b r,s=>by simp only[Ds.app,Ds.dep,Hq r s];exact(NU _ _ _).symm|.ot _ a r,s=>by simp only[Ds.app,Ds.dep,Hq r s];exact(NU _ _ _).symm
theorem zq:∀(d s:Ds),(d.app s).wt=d.wt+s.wt
 | .nil,_=>by simp[Ds.app,Ds.wt]|.set _ _ r,s=>(congrArg (_+ ·)<|zq r s).trans (tZ _ _ _).symm|.put _ _ r,s=>(congrArg (_+ ·)<|zq r s).trans (tZ _ _ _).symm|.tell _ r,s=>(congrArg (_+ ·)<|zq r s).trans (tZ _ _ _).symm
 | .bM _ a b r,s=>(congrArg (_+ ·)<|zq r s).trans (tZ _ _ _).symm|.ot _ a r,s=>(congrArg (_+ ·)<|zq r s).trans (tZ _ _ _).symm
def iy.app{d s:Ds}(h:iy d n)(k:iy s n):iy (d.app s) n:=⟨Hl h.ok k.ok,Ho h.nm k.nm,by rw[Hq];exact Nat.max_le.mpr ⟨h.dep,k.dep⟩⟩
def iy.nil(n:Nat):iy .nil n:=⟨trivial,trivial,dY _⟩
def iy.mono{d:Ds}{m:Nat}(h:iy d n)(a:n<=m):iy d m:=⟨h.ok,h.nm,Yx h.dep a⟩
inductive bT where
 |ot (t:Sm) (l:Ds)
 |bM (t:Sm)
 |k_ (t:Sm) (a:Ds)
abbrev _root_.rh:=List<|bT×Ds
def bT.enc:bT->D
 | .ot t l=>.U [.str zj,.U t.flat,.U l.enc]|.bM t=>.U [.str wG,.U t.flat,.Z]|.k_ t a=>.U [.str wG,.U t.flat,.U a.enc]
def Sm.r8(t:Sm):Prop:=t.ok/\t.nm
def bT.r8(n:Nat):bT->Prop
 | .ot t l=>t.r8/\iy l 0|.bM t=>t.r8|.k_ t a=>t.r8/\iy a n
def bT.wt:bT->Nat
 | .ot t l=>2*b9 t.flat+3+l.wt|.bM t=>2*b9 t.flat+3|.k_ t a=>2*b9 t.flat+3+a.wt
def iz:Ds->rh->Prop
 |cur,[]=>iy cur 3|cur,(o,d)::r=>iy cur (2-b9 r)/\r.length<3/\o.r8 (2-b9 r)/\iz d r
def eQ:Ds->rh->Nat
 |cur,[]=>cur.wt|cur,(o,d)::r=>cur.wt+o.wt+eQ d r
def Tp(cur s:Ds)(r:rh):eQ (cur.app s) r=eQ cur r+s.wt:=by
 cases r with
 |nil=>exact zq cur s|cons p r=>let⟨o,d⟩:=p;show(cur.app s).wt+o.wt+eQ d r=cur.wt+o.wt+eQ d r+s.wt;rw[zq,Wf cur.wt s.wt,Wf _ s.wt]
def ZxI(cur:Ds)(o:bT)(r:rh):eQ .nil ((o,cur)::r)=eQ cur r+o.wt:=by show 0+o.wt+eQ cur r=_;rw[qz,Ai]
def iz.cur{cur:Ds}{r:rh}(h:iz cur r):iy cur (3-b9 r):=by
 cases r with
 |nil=>exact h|cons p r=>exact h.1.mono (by rw[Yh];omega)
def iz.len{cur:Ds}{r:rh}(h:iz cur r):b9 r<=3:=by
 cases r with
 |nil=>exact dY _|cons p r=>have:=h.2.1;rw[Yh];omega
def iz.put{cur qa:Ds}{r:rh}(h:iz cur r)(hc:iy qa (3-b9 r)):iz qa r:=by
 cases r with
 |nil=>exact hc|cons p r=>exact⟨hc.mono (by rw[Yh];omega),h.2.1,h.2.2.1,h.2.2.2⟩
def iz.push{cur:Ds}{r:rh}{o:bT}(h:iz cur r)(hl:b9 r<3)(ho:o.r8 (2-b9 r)):iz .nil ((o,cur)::r):=⟨iy.nil _,hl,ho,h⟩
def Abb{z:Nat}(h:n<3)(q:z<=2-n):gR (z+1) 0<=3-n:=by rw[Nat.max_zero];omega
def iz.ot{cur d l:Ds}{t:Sm}{r:rh}(h:iz cur ((.ot t l,d)::r)):iz (d.app<|.ot t (cur.app l) .nil) r:=by let⟨h1,h2,h3,h4⟩:=h;have ha:=h1.app<|h3.2.mono<|dY _;have hd:=ha.dep;exact h4.put<|h4.cur.app (s:=.ot t (cur.app l) .nil) ⟨⟨h3.1.1,ha.ok,trivial⟩,⟨h3.1.2,ha.nm,trivial⟩,Abb h2 hd⟩
def iz.k_{cur d a:Ds}{t:Sm}{r:rh}(h:iz cur ((.k_ t a,d)::r)):iz (d.app<|.bM t a cur .nil) r:=by let⟨h1,h2,h3,h4⟩:=h;have hd:=h1.dep;have hd2:=h3.2.dep;exact h4.put<|h4.cur.app (s:=.bM t a cur .nil) ⟨⟨h3.1.1,h3.2.ok,h1.ok,trivial⟩,⟨h3.1.2,h3.2.nm,h1.nm,trivial⟩,Abb h2<|Nat.max_le.mpr ⟨hd2,hd⟩⟩
def iz.bM{cur d:Ds}{t:Sm}{r:rh}(h:iz cur ((.bM t,d)::r)):iz .nil ((.k_ t cur,d)::r):=⟨iy.nil _,h.2.1,⟨h.2.2.1,h.1⟩,h.2.2.2⟩
def Af9(cur d l:Ds)(t:Sm)(r:rh):eQ (d.app<|.ot t (cur.app l) .nil) r=eQ cur ((.ot t l,d)::r):=by rw[Tp];simp only[eQ,Ds.wt,bT.wt,zq];omega
def Aga(cur d a:Ds)(t:Sm)(r:rh):eQ (d.app<|.bM t a cur .nil) r=eQ cur ((.k_ t a,d)::r):=by rw[Tp];simp only[eQ,Ds.wt,bT.wt];omega
def Agb(cur d:Ds)(t:Sm)(r:rh):eQ .nil ((.k_ t cur,d)::r)=eQ cur ((.bM t,d)::r):=by show 0+(2*b9 t.flat+3+cur.wt)+eQ d r=cur.wt+(2*b9 t.flat+3)+eQ d r;rw[qz,Ai cur.wt]
def Tq(cur:Ds)(r:rh):cur.wt<=eQ cur r:=by
 cases r with
 |nil=>exact Yn _|cons p r=>let⟨o,d⟩:=p;simp only[eQ];omega
def d_(r:rh):h8:=(r.map λq=>q.1.enc).reverse
def fX(c:Nat)(rs:i4):h8:=(rs.reverse++[c]).map D.ref
def Zm6(x:bT)(d:Ds)(r:rh):d_ ((x,d)::r)=d_ r++[x.enc]:=by simp[d_]
def Tr(c' c:Nat)(rs:i4):fX c' (c::rs)=fX c rs++[D.ref c']:=by simp[fX]
structure gV(M0:c5)(f o c:Nat)(rs:i4)(cur:Ds)(r:rh)(M:c5):Prop where
 p:M0<+:M
 hf:M[f]?=O (MO.L<|fX c rs)
 ho:M[o]?=O (MO.L<|d_ r)
 hc:M[c]?=O (.L cur.enc)
 hr:∀(i:Nat) a q,rs[i]?=O a->r[i]?=O q->M[a]?=O (.L q.2.enc)
 len:b9 rs=r.length
 nd:(c::rs).Nodup
 fn:f∉c::rs
 on:o∉c::rs
 fo:f≠o
 lf:b9 M0<=f
 lo:b9 M0<=o
 lc:∀a∈c::rs,b9 M0<=a
section
variable {M0:c5} {f o c:Nat} {rs:i4} {cur:Ds} {r:rh} {M:c5}
def gV.keep(h:gV M0 f o c rs cur r M)(p:M0<+:S)(k:∀a,a=f\/a=o\/a∈c::rs->S[a]?=M[a]?):gV M0 f o c rs cur r S:=⟨p,(k f<|.inl aaD).trans h.hf,(k o<|.inr<|.inl aaD).trans h.ho,(k c<|.inr<|.inr Yv).trans h.hc,λi a q h1 h2=>(k a<|.inr<|.inr<|Yk _<|rG h1).trans<|h.hr i a q h1 h2,h.len,h.nd,h.fn,h.on,h.fo,h.lf,h.lo,h.lc⟩
def gV.lt(h:gV M0 f o c rs cur r M):∀a,a=f\/a=o\/a∈c::rs->a<b9 M:=λa ha=>by
 rcases ha with e|e|e
 .rw[e];exact(Yd.mp h.hf).1
 .rw[e];exact(Yd.mp h.ho).1
 .rcases Yt.mp e with e|e
  .rw[e];exact(Yd.mp h.hc).1
  .let⟨i,hi⟩:=IK e;have Bi:i<b9 r:=by rw[<-h.len];exact(Yd.mp hi).1
   exact(Yd.mp<|h.hr i a r[i] hi<|Y0 Bi).1
def gV.ext(h:gV M0 f o c rs cur r M)(p:M<+:S):gV M0 f o c rs cur r S:=h.keep (h.p.trans p) λa ha=>by let⟨G,rfl⟩:=p;exact Y4<|h.lt a ha
def gV.put(h:gV M0 f o c rs cur r M)(s:Ds):gV M0 f o c rs (cur.app s) r (M.set c<|.L<|cur.enc++s.enc):=by have tm:=(Yd.mp h.hc).1;have BE:c≠f:=λe=>h.fn (by rw[e];exact Yv);have JI:c≠o:=λe=>h.on (by rw[e];exact Yv);refine⟨uN h.p<|h.lc c Yv,by rw[Ym BE];exact h.hf,by rw[Ym JI];exact h.ho,by rw[Yu tm,CP],λi a q h1 h2=>?_,h.len,h.nd,h.fn,h.on,h.fo,h.lf,h.lo,h.lc⟩;have oq:c≠a:=λe=>(lC.mp h.nd).1 (by rw[e];exact rG h1);rw[Ym oq];exact h.hr i a q h1 h2
def gV.push(h:gV M0 f o c rs cur r M)(x:bT):gV M0 f o (b9 M) (c::rs) .nil ((x,cur)::r) (((M.set o<|MO.L<|d_ r++[x.enc])++[MO.L []]).set f<|MO.L<|fX c rs++[D.ref<|b9 M]):=by
 have As:=(Yd.mp h.ho).1;have Bn:=(Yd.mp h.hf).1;have n9:=h.lt;have Tt:b9 (M.set o<|MO.L<|d_ r++[x.enc])=b9 M:=jZ ..;have get:∀a,a≠f->a≠o->a<b9 M->(((M.set o<|MO.L<|d_ r++[x.enc])++[MO.L []]).set f<|MO.L<|fX c rs++[D.ref<|b9 M])[a]?=M[a]?:=λa h1 h2 h3=>by rw[Ym<|cF h1,Y4 (by rwa[Tt]),Ym<|cF h2]
 have nf:∀a∈c::rs,a≠f:=λa ha e=>h.fn<|e▸ha;have no:∀a∈c::rs,a≠o:=λa ha e=>h.on<|e▸ha;refine⟨uN ((uN h.p h.lo).trans<|mX _ _) h.lf,?_,?_,?_,λi a q h1 h2=>?_,?_,?_,?_,?_,h.fo,h.lf,h.lo,?_⟩
 .rw[Yu (by rw[Ye,Tt];omega),Tr]
 .rw[Ym h.fo,Y4 (by rwa[Tt]),Yu As,Zm6]
 .rw[Ym c8];have:=cW (M.set o<|MO.L<|d_ r++[x.enc]) (MO.L []) [];rwa[Tt]at this
 .cases i with
  |zero=>have e1:c=a:=Y9 h1;have e2:(x,cur)=q:=Y9 h2;rw[<-e1,<-e2,get c (nf c Yv) (no c Yv)<|n9 c<|.inr<|.inr Yv];exact h.hc|succ i=>have ha:a∈c::rs:=Yk _<|rG (show rs[i]?=O a from h1);rw[get a (nf a ha) (no a ha)<|n9 a<|.inr<|.inr ha];exact h.hr i a q h1 h2
 .rw[Yh,Yh,h.len]
 .rw[lC];exact⟨λhm=>oz (n9 _<|.inr<|.inr hm)<|pG _,h.nd⟩
 .intro hm;rcases Yt.mp hm with e|e
  .omega
  .exact h.fn e
 .intro hm;rcases Yt.mp hm with e|e
  .omega
  .exact h.on e
 .intro a ha;rcases Yt.mp ha with e|e
  .rw[e];exact h.p.length_le
  .exact h.lc a e
def gV.pop{x:bT}{d:Ds}{c':Nat}(h:gV M0 f o c (c'::rs) cur ((x,d)::r) M):gV M0 f o c' rs d r ((M.set f<|MO.L<|fX c' rs).set o<|MO.L<|d_ r):=by
 have As:=(Yd.mp h.ho).1;have Bn:=(Yd.mp h.hf).1;have get:∀a,a≠f->a≠o->((M.set f<|MO.L<|fX c' rs).set o<|MO.L<|d_ r)[a]?=M[a]?:=λa h1 h2=>by rw[Ym<|cF h2,Ym<|cF h1]
 have nf:∀a∈c'::rs,a≠f:=λa ha e=>h.fn<|e▸Yk _ ha;have no:∀a∈c'::rs,a≠o:=λa ha e=>h.on<|e▸Yk _ ha;refine⟨uN (uN h.p h.lf) h.lo,?_,?_,?_,λi a q h1 h2=>?_,P0 h.len,(lC.mp h.nd).2,λhm=>h.fn<|Yk _ hm,λhm=>h.on<|Yk _ hm,h.fo,h.lf,h.lo,λa ha=>h.lc a<|Yk _ ha⟩
 .rw[Ym<|cF h.fo,Yu Bn]
 .rw[Yu<|by rwa[jZ]]
 .rw[get c' (nf c' Yv)<|no c' Yv];exact h.hr 0 c' (x,d) aaD aaD
 .have ha:a∈c'::rs:=Yk _<|rG h1;rw[get a (nf a ha)<|no a ha];exact h.hr (i+1) a q h1 h2
end
def Tu(c:Nat)(rs:i4):fX c rs=rs.reverse.map D.ref++[D.ref c]:=by simp[fX]
def ZoZ{f:Nat}{l l':h8}(hM:M[f]?=O (.L<|l++[.ref c]))(hc:c<b9 M)(hS:S[f]?=O (.L<|l'++[.ref n]))(hn:b9 M<=n):tidy M d S= .ok d S:=by
 have hf:=(Yd.mp hM).1;have ht:(S.take<|b9 M)[f]?=O (.L<|l'++[.ref n]):=by rw[D_ hf];exact hS
 have h1:S.take (b9 M)≠M:=λe=>by
  rw[e,hM]at ht;have e1:l++[D.ref c]=l'++[.ref n]:=by injection ht with ht;injection ht
  have e2:=congrArg List.getLast? e1;simp at e2;omega
 have h2:(S.take<|b9 M).all (v5<|b9 M)=false:=by
  rw[List.all_eq_false];refine⟨_,rG ht,?_⟩;show¬cu (b9 M) (l'++[.ref n])=true;have:∀l:h8,cu (b9 M) (l++[.ref n])=false:=by
   intro l
   induction l with
   |nil=>show(decide (n<b9 M)&&true)=false;rw[pf c8];rfl|cons a l ih=>show(below (b9 M) a&&cu (b9 M) (l++[.ref n]))=false;rw[ih,Eh]
  rw[this];exact lZ
 unfold tidy;rw[pf h1,h2,Wl,Eh];rfl
def Zo2(hv:Zc i env M= .ok (.ref n) M)(h:M[n]?=O (.L<|xs++[d])):bA bO vZ (Zc i) Ze env M= .ok d (M.set n<|.L xs):=by
 refine Tf hv (by rw[A_,h]) aaD ?_;rw[Xy,h];have e1:(xs++[d])[b9 (xs++[d])-1]?=O d:=by simp
 simp only[e1,MZ]
def bT.mu:bT->Nat
 | .ot _ _=>1|.bM _=>2|.k_ _ _=>1
def zr(r:rh):Nat:=(r.map λq=>q.1.mu).sum
def Hr(x:bT)(d:Ds)(r:rh):zr ((x,d)::r)=x.mu+zr r:=by simp[zr]
inductive Zzx(M0:c5)(f o:Nat)(w m:Nat)(S:c5):Prop
 |mk (c:Nat) (rs:i4) (cur:Ds) (r:rh) (h:gV M0 f o c rs cur r S) (g:iz cur r) (hw:eQ cur r=w) (hm:zr r<m)
theorem uR:∀d:Ds,b9 d.enc<=d.wt
 | .nil=>Yn _|.set _ _ r=>by have:=uR r;simp only[Ds.enc,Ds.wt,Yh];omega|.put _ _ r=>by have:=uR r;simp only[Ds.enc,Ds.wt,Yh];omega|.tell _ r=>by have:=uR r;simp only[Ds.enc,Ds.wt,Yh];omega
 | .bM _ _ _ r=>by have:=uR r;simp only[Ds.enc,Ds.wt,Yh];omega|.ot _ _ r=>by have:=uR r;simp only[Ds.enc,Ds.wt,Yh];omega
def Znj{f o c':Nat}{rs:i4}{cur d:Ds}{x:bT}{r:rh}(h:gV M0 f o c (c'::rs) cur ((x,d)::r) M)(g:iz cur ((x,d)::r))(hw:eQ cur ((x,d)::r)<=100000):
  ∃S,zc [.ref f,.ref o] M= .ok .Z S/\Zzx M0 f o (eQ cur<|(x,d)::r) (zr<|(x,d)::r) S:=by
 have hf:M[f]?=O (.L<|fX c' rs++[.ref c]):=by rw[<-Tr];exact h.hf
 have ho:M[o]?=O (.L<|d_ r++[x.enc]):=by rw[<-Zm6 x d r];exact h.ho
 have Bn:=(Yd.mp hf).1;have xA:(M.set f<|.L<|fX c' rs)[o]?=O (.L<|d_ r++[x.enc]):=by rwa[Ym h.fo]
 have BE:c≠f:=λe=>h.fn (by rw[e];exact Yv);have EB:(M.set f<|.L<|fX c' rs)[c]?=O (.L cur.enc):=by rw[Ym<|cF BE];exact h.hc
 have h1:=h.pop;have i7:=g.len;rw[Yh]at i7;have hcw:=Tq cur<|(x,d)::r;have A9:=uR cur;have hdw:=Tq d r;have BY:eQ cur ((x,d)::r)=cur.wt+x.wt+eQ d r:=rfl;have hel2:=uR d
 let M1:=(M.set f<|.L<|fX c' rs).set o<|.L<|d_ r
 have Abd:b9 M1=b9 M:=by simp[M1]
 have s1:aD 2 iX [My f,My o,Yj,Yj] M= .nx [My f,My o,O<|.U cur.enc,Yj] (M.set f<|.L<|fX c' rs):=bU<|eO (Zo2 aaD hf)<|yx EB;have s2:aD 3 (bA bO vZ (Zc 1) Ze) [My f,My o,O<|.U cur.enc,Yj] (M.set f<|.L<|fX c' rs)= .nx [My f,My o,O<|.U cur.enc,O x.enc] M1:=bU<|Zo2 aaD xA;have AdO:fK (fX c' rs) (-1)=My c':=by rw[Tu];exact getD_last _ _
 have idx:∀y z:oS,e2 Zj (Zc 0) mI [My f,My o,y,z] M1= .ok (.ref c') M1:=λy z=>Zg aaD (di aaD<|Qx 1)<|jF h1.hf AdO;have hd:b9 d.enc<SZ:=j4 (show b9 d.enc<200000 by omega) aaE;unfold zc HH;cases x with
 | ot t l=>
  have hll:=uR l;have hxw:(bT.ot t l).wt=2*b9 t.flat+3+l.wt:=rfl;refine⟨_,(yt (M':=M1.set c'<|.L<|d.enc++[cV t<|cur.enc++l.enc]) (env:=[My f,My o,Yj,Yj])<|(Zm s1).trans<|(Zm s2).trans<|(eN yy).trans<|Cv (idx _ _) h1.hc (cR (Zk aaD<|Zk aaD<|Zk (Zg aaD aaD ?_) aaD) aaD) h1.hc hd).trans (Mt<|by simp[M1]),c',rs,d.app<|.ot t (cur.app l) .nil,r,?_,g.ot,Af9 cur d l t r,by rw[Hr];simp only[bT.mu];omega⟩
  .rw[yq];exact f_ (show b9 cur.enc+b9 l.enc<=1000000 by omega)
  .have:=h1.put<|.ot t (cur.app l) .nil;have e:(Ds.ot t (cur.app l) .nil).enc=[cV t<|cur.enc++l.enc]:=by simp only[Ds.enc,CP]
   rwa[e]at this
 |k_ t a=>refine⟨_,(yt (M':=M1.set c'<|.L<|d.enc++[jX t a.enc cur.enc]) (env:=[My f,My o,Yj,Yj])<|(Zm s1).trans<|(Zm s2).trans<|(fU sC).trans<|(fU<|Zg aaD aaD (by rw[UQ];rfl)).trans<|Cv (idx _ _) h1.hc (cR (Zk aaD<|Zk aaD<|Zk aaD xk) aaD) h1.hc hd).trans (Mt<|by simp[M1]),c',rs,d.app<|.bM t a cur .nil,r,?_,g.k_,Aga cur d a t r,by rw[Hr];simp only[bT.mu];omega⟩;exact h1.put (.bM t a cur .nil)|bM t=>
  have h2:=h1.push<|.k_ t cur;have As:b9 (d_ r)<SZ:=by
   have:b9 (d_ r)=b9 r:=by simp[d_]
   rw[this];exact j4 (show b9 r<100 by omega) aaE
  have Ve:b9 (fX c' rs)<SZ:=by
   have:b9 (fX c' rs)=b9 rs+1:=by simp[fX]
   rw[this,h1.len];exact j4 (show b9 r+1<100 by omega) aaE
  have C4:(M1.set o<|MO.L<|d_ r++[(bT.k_ t cur).enc])[f]?=O (.L<|fX c' rs):=by rw[Ym<|cF h.fo];exact h1.hf
  have s3:aG bp [My f,My o,O<|.U cur.enc,O (bT.bM t).enc] M1= .nx [My f,My o,O<|.U cur.enc,O (bT.bM t).enc] (M1.set o<|MO.L<|d_ r++[(bT.k_ t cur).enc]):=sU aaD h1.ho (cR (Zk aaD<|Zk aaD xk) aaD) h1.ho As;have s4:aG (bA bO cQ (Zc 0) mP) [My f,My o,O<|.U cur.enc,O (bT.bM t).enc] (M1.set o<|MO.L<|d_ r++[(bT.k_ t cur).enc])= .nx [My f,My o,O<|.U cur.enc,O (bT.bM t).enc] (((M1.set o<|MO.L<|d_ r++[(bT.k_ t cur).enc])++[MO.L []]).set f<|MO.L<|fX c' rs++[.ref<|b9 M1]):=by have hn:b9 (M1.set o<|MO.L<|d_ r++[(bT.k_ t cur).enc])=b9 M1:=jZ ..;rw[<-hn];exact sU aaD C4 zt (h_ C4 _) Ve
  refine⟨_,(yt (env:=[My f,My o,Yj,Yj])<|(Zm s1).trans<|(Zm s2).trans<|(fU sC).trans<|(eN<|Zg aaD aaD (by rw[UQ];rfl)).trans<|(Zm s3).trans s4).trans<|ZoZ hf ?_ (l':=fX c' rs) (n:=b9 M1) ?_ ?_,b9 M1,c'::rs,.nil,(.k_ t cur,d)::r,h2,g.bM,Agb cur d t r,by rw[Hr,Hr];simp only[bT.mu];omega⟩
  .exact h.lt c<|.inr<|.inr Yv
  .have:=h2.hf;rwa[Tr]at this
  .exact xX Abd.symm
theorem Sm.NP:∀t:Sm,t.all (λx=>bf x=false)->t.nm
 | .num _,_=>trivial|.bW _,h=>h|.dw a,h=>a.NP h|.two _ a b,h=>⟨a.NP h.1,b.NP h.2⟩
def Sm.xj{t:Sm}(h:t.all (λx=>bf x=false))(hl:b9 t.flat<=12):t.r8:=⟨⟨t.Nz<|t.HD (λ_=>MF) h,hl⟩,t.NP h⟩
inductive Hs(M0:c5)(f o:Nat)(w n:Nat)(S:c5):Prop
 |mk (c:Nat) (rs:i4) (cur:Ds) (r:rh) (h:gV M0 f o c rs cur r S) (g:iz cur r) (hw:eQ cur r<=w) (hm:b9 r<=n)
section
variable {ns:l8} {M0:c5} {f o c nr:Nat} {rs:i4} {cur:Ds} {r:rh} {M:c5} {names:k9}
def Zru{x:bT}(h:gV M0 f o c rs cur r M)(hl:b9 r<3)(h2:∀S,Zc 2 env S= .ok (.ref f) S):
  aG (bA bO cQ (Zc 2) mP) env (M.set o<|MO.L<|d_ r++[x.enc])= .nx env (((M.set o<|MO.L<|d_ r++[x.enc])++[MO.L []]).set f<|MO.L<|fX c rs++[.ref<|b9 M]):=by
 have hn:b9 (M.set o<|MO.L<|d_ r++[x.enc])=b9 M:=jZ ..;have C4:(M.set o<|MO.L<|d_ r++[x.enc])[f]?=O (.L<|fX c rs):=by rw[Ym<|cF h.fo];exact h.hf
 have Ve:b9 (fX c rs)<SZ:=by
  have:b9 (fX c rs)=b9 rs+1:=by simp[fX]
  rw[this,h.len];exact j4 (show b9 r+1<100 by omega) aaE
 rw[<-hn];exact sU (h2 _) C4 zt (h_ C4 _) Ve
def Ztu(hl:b9 ns<=63)(k:Nat)(h:gV M0 f o c rs cur r M)(g:iz cur r)(hr:b9 r<3)(hw:eQ cur r<=100000)(hn:M0[nr]?=O (.L<|names.map D.str))(oq:0<b9 names)(n9:b9 names<1000)(sN:∀x∈names,bf x=false):
  ∃S,Gs [SC ns,.int (k:Int),.ref f,.ref o,.ref nr] M= .ok .Z S/\Hs M0 f o (eQ cur r+60) (b9 r+1) S:=by
 let dd:=dr ns<|100+k
 have JJ:M[f]?=O (.L<|rs.reverse.map D.ref++[.ref c]):=by rw[<-Tu];exact h.hf
 have hcM:c<b9 M:=h.lt c<|.inr<|.inr Yv;have Abe:b9 (d_ r)<SZ:=by
  have:b9 (d_ r)=b9 r:=by simp[d_]
  rw[this];exact j4 (show b9 r<100 by omega) aaE
 have hcw:=Tq cur r;have A9:=uR cur;have pV:∀{env env':Zz} {x:bT} {qa:Ds} {S:c5} (h':gV M0 f o c rs qa r S) (g':iz qa r) (hx:x.r8 (2-b9 r)) (JO:eQ qa r+x.wt<=eQ cur r+60) (hSM:b9 M<=b9 S) (e:KY env M= .nx env' (((S.set o<|MO.L<|d_ r++[x.enc])++[MO.L []]).set f<|MO.L<|fX c rs++[.ref<|b9 S])) (he:[O<|SC ns,e5 (k:Int),My f,My o,My nr,Yj,Yj,Yj,Yj]=env),∃S',Gs [SC ns,.int (k:Int),.ref f,.ref o,.ref nr] M= .ok .Z S'/\Hs M0 f o (eQ cur r+60) (b9 r+1) S':=λ{env env' x qa S} h' g' hx JO hSM e he=>by have h2:=h'.push x;refine⟨_,(yt (ps:=5) (n:=9) (ds:=[SC ns,.int (k:Int),.ref f,.ref o,.ref nr]) e aaD he).trans<|ZoZ JJ hcM (l':=fX c rs) (n:=b9 S) ?_ hSM,b9 S,c::rs,.nil,(x,qa)::r,h2,g'.push hr hx,by rwa[ZxI],Yn _⟩;have:=h2.hf;rwa[Tr]at this
 have AaL:aD 5 eI [O<|SC ns,e5 (k:Int),My f,My o,My nr,Yj,Yj,Yj,Yj] M= .nx [O<|SC ns,e5 (k:Int),My f,My o,My nr,e5 dd,Yj,Yj,Yj] M:=bU<|sV hl (k:=100+k) aaD vb;by_cases h1:dd % 2=1
 .--a round
  let nm:=mO ns<|10+b9 r
  have vj:bf nm=false:=(Jn hl _).bf;have Abf:bj nm=false:=MF vj;let⟨q4,eq4,hq4⟩:=p8 (dd / 2) 4 aaE;let⟨q8,Tv,hq8⟩:=p8 (dd / 8) 8 aaE;have Tv:dd / 8 % 8=(q8:Int):=Tv
  let s1:Ds:=.set nm (.num<|dd / 2 % 4) .nil
  have hp:=h.put s1
  let M1:=M.set c<|.L<|cur.enc++s1.enc
  have Abd:b9 M1=b9 M:=jZ ..
  let Dt:h8:=[.U [.str nm],.U [.str sj,.str nm,.int 0],.U [.str qE,.str nm,.int 0],.U [.str tq,.str nm,.int 0],.U [.int<|1-dd / 64 % 3]]
  let M2:=M1++[MO.L Dt]
  have EV:=hp.ext<|mX M1 [MO.L Dt]
  let HN:h8:=[.U [qX nm<|.two 1 (.bW nm)<|.num 1],.U []]
  let M3:=M2++[MO.L HN]
  have EF:=EV.ext<|mX M2 [MO.L HN]
  let less:Ds:=if q8=7 then .nil else .set nm (.two 1 (.bW nm)<|.num 1) .nil
  let cond:Sm:=match q8 % 5 with
   |0=>.bW nm|1=>.two 2 (.bW nm) (.num 0)|2=>.two 0 (.bW nm) (.num 0)|3=>.two 1 (.bW nm)<|.num 0
   |_=>.num<|1-dd / 64 % 3
  have h5:q8 % 5<5:=Nat.mod_lt _ aaE;have hcond:Dt[q8 % 5]?=O (.U cond.flat):=by
   show Dt[q8 % 5]?=O (.U<|Sm.flat (match q8 % 5 with|0=>.bW nm|1=>.two 2 (.bW nm) (.num 0)|2=>.two 0 (.bW nm) (.num 0)|3=>.two 1 (.bW nm) (.num 0)|_=>.num<|1-dd / 64 % 3))
   match q8 % 5,h5 with
   |0,_=>rfl|1,_=>rfl|2,_=>rfl|3,_=>rfl
   |4,_=>rfl
  have BE:cond.r8/\cond.flat.length<=3:=by
   show Sm.r8 (match q8 % 5 with|0=>.bW nm|1=>.two 2 (.bW nm) (.num 0)|2=>.two 0 (.bW nm) (.num 0)|3=>.two 1 (.bW nm) (.num 0)|_=>.num<|1-dd / 64 % 3)/\(Sm.flat (match q8 % 5 with|0=>.bW nm|1=>.two 2 (.bW nm) (.num 0)|2=>.two 0 (.bW nm) (.num 0)|3=>.two 1 (.bW nm) (.num 0)|_=>.num<|1-dd / 64 % 3)).length<=3
   match q8 % 5,h5 with
   |0,_=>exact⟨Sm.xj vj BC,by simp[Sm.flat]⟩|1,_=>exact⟨Sm.xj ⟨vj,trivial⟩ BC,by simp[Sm.flat]⟩|2,_=>exact⟨Sm.xj ⟨vj,trivial⟩ BC,by simp[Sm.flat]⟩|3,_=>exact⟨Sm.xj ⟨vj,trivial⟩ BC,by simp[Sm.flat]⟩
   |4,_=>exact⟨Sm.xj trivial BC,by simp[Sm.flat]⟩
  have hlf:iy less 0/\less.wt<=9:=by
   show iy (if q8=7 then Ds.nil else .set nm (.two 1 (.bW nm)<|.num 1) .nil) 0/\(if q8=7 then Ds.nil else .set nm (.two 1 (.bW nm)<|.num 1) .nil).wt<=9;by_cases q:q8=7
   .rw[f_ q];exact⟨iy.nil _,dY _⟩
   .rw[i6 q];have hf:=Sm.xj (t:=.two 1 (.bW nm)<|.num 1) ⟨vj,trivial⟩ BC;exact⟨⟨⟨Abf,hf.1,trivial⟩,⟨vj,hf.2,trivial⟩,Yn _⟩,by simp[Ds.wt,Sm.flat]⟩
  have hless:HN[if q8=7 then 1 else 0]?=O (.U less.enc):=by
   show HN[if q8=7 then 1 else 0]?=O (.U (if q8=7 then Ds.nil else .set nm (.two 1 (.bW nm)<|.num 1) .nil).enc);by_cases q:q8=7
   .rw[f_ q,f_ q];rfl
   .rw[i6 q,i6 q];rfl
  have Agc:iy s1 (3-b9 r):=⟨⟨Abf,⟨trivial,by simp[Sm.flat]⟩,trivial⟩,⟨vj,trivial,trivial⟩,dY _⟩;have Agd:s1.wt=5:=by simp[s1,Ds.wt,Sm.flat]
  have so:fK (fX c rs) (-1)=My c:=by rw[Tu];exact getD_last _ _
  refine pV (env:=[O<|SC ns,e5 (k:Int),My f,My o,My nr,Yj,Yj,Yj,Yj]) (env':=[O<|SC ns,e5 (k:Int),My f,My o,My nr,e5 dd,rf nm,My<|b9 M1,O<|.U less.enc]) (x:=.ot cond less) EF (g.put<|g.cur.app Agc) ⟨BE.1,hlf.1⟩ ?_ (by simp[M3,M2,M1]) ?_ aaD
  .have e1:(bT.ot cond less).wt=2*b9 cond.flat+3+less.wt:=rfl;have:=BE.2;have:=hlf.2;rw[Tp,Agd,e1];omega
  unfold KY;refine(Zm AaL).trans ?_;have t1:aD 6 cS [O<|SC ns,e5 (k:Int),My f,My o,My nr,e5 dd,Yj,Yj,Yj] M= .nx [O<|SC ns,e5 (k:Int),My f,My o,My nr,e5 dd,rf nm,Yj,Yj] M:=by refine bU<|jU (b:=.int ((10+b9 r:Nat):Int)) (M2:=M) aaD (Zg aaD (eO aaD<|kO h.ho) ?_)<|JA hl (10+b9 r) M;rw[yp];congr 2;simp[d_]
  have t2:aG az [O<|SC ns,e5 (k:Int),My f,My o,My nr,e5 dd,rf nm,Yj,Yj] M= .nx [O<|SC ns,e5 (k:Int),My f,My o,My nr,e5 dd,rf nm,Yj,Yj] M1:=Cv (Zg aaD (di aaD<|Qx 1)<|jF h.hf so) h.hc (cR (Zk aaD<|Zk aaD<|Zk (cR (Zk xS aaD) aaD) aaD) aaD) h.hc (j4 (show b9 cur.enc<200000 by omega) aaE);have t3:aD 7 ae [O<|SC ns,e5 (k:Int),My f,My o,My nr,e5 dd,rf nm,Yj,Yj] M1= .nx [O<|SC ns,e5 (k:Int),My f,My o,My nr,e5 dd,rf nm,My<|b9 M1,Yj] M2:=bU<|jy (ds:=Dt) (Zk xm<|Zk xm<|Zk xm<|Zk xm<|Zk (cR (Zk (Zg aaD xS aaD) aaD) aaD) aaD) aaD;have nfp:aD 8 ag [O<|SC ns,e5 (k:Int),My f,My o,My nr,e5 dd,rf nm,My<|b9 M1,Yj] M2= .nx [O<|SC ns,e5 (k:Int),My f,My o,My nr,e5 dd,rf nm,My<|b9 M1,O<|.U less.enc] M3:=by
   refine bU (Zg (jy (ds:=HN) (Zk (cR (Zk (cR (Zk aaD<|Zk aaD vc) aaD) aaD) aaD) vc) aaD) (eO (a:=.bl<|decide<|q8=7) (M1:=M3) (Zg xS aaD ?_) (d:=.int ((if q8=7 then 1 else 0:Nat):Int)) ?_)<|jF (cW M2 _ [])<|by rwa[lH])
   .rw[Tv];by_cases q:q8=7
    .rw[qc q];exact mC c8
    .rw[pf q];exact iW c8
   .rw[Zvb,Zxr];by_cases q:q8=7
    .rw[qc q,f_ q];rfl
    .rw[pf q,i6 q];rfl
  have AdD:M3[b9 M1]?=O (.L Dt):=h_ (cW M1 _ []) _;have t5:aG aE [O<|SC ns,e5 (k:Int),My f,My o,My nr,e5 dd,rf nm,My<|b9 M1,O<|.U less.enc] M3= .nx [O<|SC ns,e5 (k:Int),My f,My o,My nr,e5 dd,rf nm,My<|b9 M1,O<|.U less.enc] (M3.set o<|MO.L<|d_ r++[(bT.ot cond less).enc]):=sU aaD EF.ho (cR (Zk aaD<|Zk (Zg aaD (Zg xS aaD<|fj aaE)<|jF AdD<|by rwa[Tv,show((q8:Int) % 5)=((q8 % 5:Nat):Int)by omega,lH]) xk) aaD) EF.ho Abe;exact(Zm<|(eN<|Zg A8 aaD<|mC h1).trans<|(Zm t1).trans<|(Zm t2).trans<|(Zm t3).trans<|(Zm nfp).trans t5).trans (Zru EF hr λ_=>rfl)
 .--a choice
  let⟨t,ht,ED,uA⟩:=Zsl (Q:=λx=>bf x=false) (at0:=200+30*k) (lim:=4) hl (M:=M) (nr:=nr) (names:=names) (gD h.p hn) oq n9 sN aaE;refine pV (env:=[O<|SC ns,e5 (k:Int),My f,My o,My nr,Yj,Yj,Yj,Yj]) (env':=[O<|SC ns,e5 (k:Int),My f,My o,My nr,e5 dd,Yj,Yj,Yj]) (x:=.bM t) h g (Sm.xj ht c8) (by have e1:(bT.bM t).wt=2*b9 t.flat+3:=rfl;rw[e1];omega) (Yn _) ?_ aaD;unfold KY;refine(Zm AaL).trans ?_;have A4:e2 Zy (eC<|.int 200) (e2 fP (eC<|.int 30)<|Zc 1) [O<|SC ns,e5 (k:Int),My f,My o,My nr,e5 dd,Yj,Yj,Yj] M= .ok (.int ((200+30*k:Nat):Int)) M:=by refine Zg aaD (Zg aaD aaD<|by rw[Av,f_<|Ms aaE]) ?_;rw[yp];congr 2
  have t5:aG ah [O<|SC ns,e5 (k:Int),My f,My o,My nr,e5 dd,Yj,Yj,Yj] M= .nx [O<|SC ns,e5 (k:Int),My f,My o,My nr,e5 dd,Yj,Yj,Yj] (M.set o<|MO.L<|d_ r++[(bT.bM t).enc]):=sU aaD h.ho (cR (Zk aaD<|Zk (VC aaD A4 aaD aaD uA) xk) aaD) h.ho Abe;exact(Zm<|(fU<|Zg A8 aaD<|iW h1).trans t5).trans (Zru h hr λ_=>rfl)
end
abbrev JU:S3:=Zx bt<|Zx aT<|aQ fS (aG aI)<|aQ fT (aG af)<|aQ (iV gc gv) (aG dv)<|aQ (iV gf<|e2 iQ mw nL) (aG ki)<|aG bq
abbrev lg(ns:l8)(cl nr f o:Nat)(a5 a6 a7 a8:oS):Zz:=[O<|SC ns,My cl,My nr,My f,My o,a5,a6,a7,a8]
def Zpa(r:rh):b9 (d_ r)=b9 r:=by simp[d_]
def Zz8{f g h k l:E3}{M M1 M2 M3 M4 M5 M6:c5}{a b c d e r:D}(h1:f env M= .ok a M1)(h2:g env M1= .ok b M2)(h3:h env M2= .ok c M3)(h4:k env M3= .ok d M4)(h5:l env M4= .ok e M5)(h6:F [a,b,c,d,e] M5= .ok r M6):Zr F (Za f<|Za g<|Za h<|Za k<|Za l Ze) env M= .ok r M6:=by simp only[Zr,Za,Ze,R3.bind,h1,h2,h3,h4,h5,h6]
section
variable {ns:l8} {M0:c5} {f o cl nr:Nat} {names:k9}
def Z3(hl:b9 ns<=63)(hn:M0[nr]?=O (.L<|names.map D.str))(oq:0<b9 names)(n9:b9 names<1000)(sN:∀x∈names,bf x=false)(k:Nat)(p:M0<+:M)(base a b:Nat)(AU:a<=10/\b<=10)(deep:Bool)(cov e8:oS):
  ∃t:Sm,t.r8/\t.flat.length<=12/\Zr qR (Za (Zc 0)<|Za (e2 Zy (eC<|.int (base:Int)) kz)<|Za (Zc 2)<|Za (e2 Zj (bh<|Za (eC<|.int (a:Int))<|Za (eC<|.int (b:Int)) Ze)<|Zc 7) Ze) (lg ns cl nr f o (e5 (k:Int)) cov (e5<|if deep=true then 1 else 0) e8) M= .ok (.U t.flat) (M++[.L [.int (a:Int),.int (b:Int)]]):=by
 let⟨t,ht,ED,uA⟩:=Zsl (Q:=λx=>bf x=false) (at0:=base+30*k) (lim:=if deep=true then b else a) hl (M:=M++[.L [.int (a:Int),.int (b:Int)]]) (nr:=nr) (names:=names) (gD (p.trans<|mX _ _) hn) oq n9 sN (by split <;>omega);have vE:b9 t.flat<=12:=by split at ED<;>omega
 refine⟨t,Sm.xj ht c8,vE,?_⟩;refine VC (b:=.int ((base+30*k:Nat):Int)) (M2:=M) (d:=.int ((if deep=true then b else a:Nat):Int)) aaD (Zg aaD (Zg aaD aaD<|by rw[Av,f_<|Ms aaE]) (by rw[yp];congr 2)) aaD (Zg (jy (ds:=[.int (a:Int),.int (b:Int)]) aaD aaD) aaD<|jF (cW M _ []) ?_) uA;cases deep with
 |true=>rfl|false=>rfl
def Zuo(hl:b9 ns<=63)(hn:M0[nr]?=O (.L<|names.map D.str))(oq:b9 names=7)(sN:∀x∈names,bf x=false)(k:Nat)(cell:Int){rs:i4}{cur:Ds}{r:rh}(h:gV M0 f o c rs cur r M)(g:iz cur r)(hw:eQ cur r<=50000)(a7 a8:oS):
  ∃S b7 b8,JU (lg ns cl nr f o (e5 (k:Int)) (e5 cell) a7 a8) M= .nx (lg ns cl nr f o (e5 (k:Int)) (e5 cell) b7 b8) S/\Hs M0 f o (eQ cur r+60) 3 S:=by
 let deep:Bool:=decide<|(k:Int)=dr ns 58 % 8
 have s1:aD 7 bX (lg ns cl nr f o (e5 (k:Int)) (e5 cell) a7 a8) M= .nx (lg ns cl nr f o (e5 (k:Int)) (e5 cell) (e5<|if deep=true then 1 else 0) a8) M:=bU<|eO (Zg aaD (Zg (sV hl (k:=58) aaD aaD) aaD<|fj aaE) aaD) aaD;let⟨t,ht,ED,uA⟩:=Z3 (f:=f) (o:=o) (cl:=cl) hl hn c8 c8 sN k h.p 200 4 10 c8 deep (e5 cell) a8;have h1:=h.ext<|mX M [.L [.int ((4:Nat):Int),.int ((10:Nat):Int)]]
 let M1:=M++[MO.L [.int ((4:Nat):Int),.int ((10:Nat):Int)]]
 have s2:aD 8 bb (lg ns cl nr f o (e5 (k:Int)) (e5 cell) (e5<|if deep=true then 1 else 0) a8) M= .nx (lg ns cl nr f o (e5 (k:Int)) (e5 cell) (e5<|if deep=true then 1 else 0)<|O<|.U t.flat) M1:=bU uA;have hcw:=Tq cur r;have A9:=uR cur;have JY:b9 cur.enc<SZ:=j4 (show b9 cur.enc<200000 by omega) aaE;have so:fK (fX c rs) (-1)=My c:=by rw[Tu];exact getD_last _ _
 have i7:∀{a7 a8:oS},aL a_ nt (lg ns cl nr f o (e5 (k:Int)) (e5 cell) a7 a8) M1= .ok (.int (b9 r:Int)) M1:=by exact eO aaD ((kO h1.ho).trans<|by rw[Zpa])
 have idx:∀{a7 a8:oS},e2 Zj (Zc 3) mI (lg ns cl nr f o (e5 (k:Int)) (e5 cell) a7 a8) M1= .ok (.ref c) M1:=Zg aaD (di aaD<|Qx 1)<|jF h1.hf so;have h9:∀{a7 a8:oS},e2 bH (Zc 6) (eC<|.int 9) (lg ns cl nr f o (e5 (k:Int)) (e5 cell) a7 a8) M1= .ok (.int<|cell % 9) M1:=Zg aaD aaD<|fj aaE;have put:∀{s:Ds},iy s (3-b9 r)->s.wt<=60->∀{S:c5},gV M0 f o c rs cur r S->Hs M0 f o (eQ cur r+60) 3 (S.set c<|.L<|cur.enc++s.enc):=λ{s} hs BY {S} hS=>⟨c,rs,cur.app s,r,hS.put s,g.put<|g.cur.app hs,by rw[Tp];omega,g.len⟩;by_cases c1:cell % 9<3
 .let⟨q,eq,hq⟩:=p8 (cell / 9) 6 aaE;have eq:cell / 9 % 6=(q:Int):=eq;have BF:q<b9 names:=by omega
  have hgq:names[q]?=O (names[q]'BF):=Y0 BF;have zw:=sN _<|xT BF;have Age:M1[nr]?=O (.L<|names.map D.str):=gD h1.p hn;refine⟨_,_,_,(Zm s1).trans ((Zm s2).trans<|(eN<|Zg h9 aaD<|by rw[yr,qc c1]).trans<|Cv idx h1.hc (cR (Zk aaD<|Zk (Zg aaD xS<|jF Age (by rw[eq,lH,lB,hgq];rfl)) xk) aaD) h1.hc JY),?_⟩;exact put (s:=.set (names[q]'BF) t .nil) ⟨⟨MF zw,ht.1,trivial⟩,⟨zw,ht.2,trivial⟩,dY _⟩ (by simp only[Ds.wt];omega) h1
 have f1:∀{a7 a8:oS},e2 mq lS nV (lg ns cl nr f o (e5 (k:Int)) (e5 cell) a7 a8) M1= .ok (.bl false) M1:=Zg h9 aaD (by rw[yr,pf c1]);by_cases c2:cell % 9=3
 .let⟨u,hu,hul,AdP⟩:=Z3 (f:=f) (o:=o) (cl:=cl) hl hn c8 c8 sN k h1.p 215 3 8 c8 deep (e5 cell)<|O<|.U t.flat;have h2:=h1.ext<|mX M1 [.L [.int ((3:Nat):Int),.int ((8:Nat):Int)]];refine⟨_,_,_,(Zm s1).trans<|(Zm s2).trans<|(fU f1).trans<|(eN<|Zg h9 aaD<|mC c2).trans<|Cv idx h1.hc (cR (Zk aaD<|Zk aaD<|Zk AdP aaD) aaD) h2.hc JY,?_⟩;exact put (s:=.put t u .nil) ⟨⟨ht.1,hu.1,trivial⟩,⟨ht.2,hu.2,trivial⟩,dY _⟩ (by simp only[Ds.wt];omega) h2
 have f2:∀{a7 a8:oS},e2 bJ lS nV (lg ns cl nr f o (e5 (k:Int)) (e5 cell) a7 a8) M1= .ok (.bl false) M1:=Zg h9 aaD<|iW c2;by_cases c3:cell % 9<6/\r.length<3
 .let⟨S,e,hS⟩:=Ztu hl k h1 g c3.2 c8 hn c8 c8 sN;let⟨c',rs',qa,r',q1,q2,q3,q4⟩:=hS;refine⟨S,_,_,(Zm s1).trans ((Zm s2).trans<|(fU f1).trans<|(fU f2).trans<|(eN<|(ul<|Zg h9 aaD<|by rw[yr,qc c3.1]).trans<|Zg i7 aaD<|by rw[yr,qc c8]).trans<|jE<|Zz8 aaD aaD aaD aaD aaD e),c',rs',qa,r',q1,q2,q3,q2.len⟩
 have f3:∀{a7 a8:oS},iV gc gv (lg ns cl nr f o (e5 (k:Int)) (e5 cell) a7 a8) M1= .ok (.bl false) M1:=by
  by_cases q:cell % 9<6
  .exact(ul<|Zg h9 aaD<|by rw[yr,qc q]).trans (Zg i7 aaD<|by rw[yr,pf c8])
  .exact JN (Zg h9 aaD<|by rw[yr,pf q])
 by_cases c4:cell % 9=6/\0<r.length
 .cases r with
  |nil=>exact oz c4.2 (by simp)|cons q r=>
   let⟨x,d⟩:=q;cases rs with
   |nil=>have:=h.len;simp at this|cons c' rs=>let⟨S,e,hS⟩:=Znj h1 g c8;let⟨c2,Nb,Ig,r2,q1,q2,q3,q4⟩:=hS;refine⟨S,_,_,(Zm s1).trans ((Zm s2).trans<|(fU f1).trans<|(fU f2).trans<|(fU f3).trans<|(eN<|(ul<|Zg h9 aaD<|mC c4.1).trans<|Zg i7 aaD<|by rw[pN,qc j0]).trans<|jE<|jU aaD aaD e),c2,Nb,Ig,r2,q1,q2,c8,q2.len⟩
 have f4:∀{a7 a8:oS},iV gf (e2 iQ mw nL) (lg ns cl nr f o (e5 (k:Int)) (e5 cell) a7 a8) M1= .ok (.bl false) M1:=by
  by_cases q:cell % 9=6
  .exact(ul<|Zg h9 aaD<|mC q).trans (Zg i7 aaD<|by rw[pN,pf c8])
  .exact JN<|Zg h9 aaD<|iW q
 refine⟨_,_,_,(Zm s1).trans<|(Zm s2).trans<|(fU f1).trans<|(fU f2).trans<|(fU f3).trans<|(fU f4).trans<|Cv idx h1.hc xm h1.hc JY,?_⟩;exact put (s:=.tell t .nil) ⟨⟨ht.1,trivial⟩,⟨ht.2,trivial⟩,dY _⟩ (by simp only[Ds.wt];omega) h1
def Zpq(hl:b9 ns<=63)(hn:M0[nr]?=O (.L<|names.map D.str))(oq:b9 names=7)(sN:∀x∈names,bf x=false){items:h8}(tm:M0[cl]?=O (.L items)):∀(cs:l8) (k w:Nat) (M:c5) (a5 a6 a7 a8:oS),Hs M0 f o w 3 M->w+60*b9 cs<=40000 ->
  ∃S b5 b6 b7 b8,ju [(cl,items)] (pR [5,6]) JU (i_ k<|cs.map D.int) (lg ns cl nr f o a5 a6 a7 a8) M= .nx (lg ns cl nr f o b5 b6 b7 b8) S/\Hs M0 f o (w+60*b9 cs) 3 S
 |[],k,w,M,a5,a6,a7,a8,H,_=>by let⟨c,rs,cur,r,h,g,hw,hm⟩:=H;refine⟨M,a5,a6,a7,a8,?_,c,rs,cur,r,h,g,by simpa using hw,hm⟩;show ju _ _ _ [] _ _=_;rw[Fw,f_<|by simp[kW,gD h.p tm]]|x::cs,k,w,M,a5,a6,a7,a8,H,hz=>by rw[Yh]at hz;let⟨c,rs,cur,r,h,g,hw,hm⟩:=H;let⟨S,b7,b8,e,HS⟩:=Zuo (cl:=cl) hl hn oq sN k x h g c8 a7 a8;let⟨c2,Nb,Ig,r2,h2,g2,hw2,Fh⟩:=HS;let⟨S2,sB6,Aa8,Aa9,Zyz,p0,HS2⟩:=Zpq hl hn oq sN tm cs (k+1) (w+60) S (e5 (k:Int)) (e5 x) b7 b8 ⟨c2,Nb,Ig,r2,h2,g2,c8,Fh⟩ c8;let⟨c3,rs3,Vf,r3,h3,g3,hw3,Kb⟩:=HS2;refine⟨S2,sB6,Aa8,Aa9,Zyz,?_,c3,rs3,Vf,r3,h3,g3,by rw[Yh];omega,Kb⟩;show ju _ _ _ (.U [.int (k:Int),.int x]::i_ (k+1) (cs.map D.int)) _ _=_;rw[Fx,f_<|by simp[kW,gD h.p tm]];have e:JU [O<|SC ns,My cl,My nr,My f,My o,e5 (k:Int),e5 x,a7,a8] M= .nx [O<|SC ns,My cl,My nr,My f,My o,e5 (k:Int),e5 x,b7,b8] S:=e;simp only[pR,QK,QJ,lW,lX,e];exact p0
def Agf(r:rh):zr r<=2*b9 r:=by
 induction r with
 |nil=>exact Yn _|cons p r ih=>
  let⟨x,d⟩:=p;rw[Hr,Yh];have:x.mu<=2:=by cases x<;>simp[bT.mu]
  omega
def ZsS(h3:∀S,Zc 3 env S= .ok (.ref f) S)(h4:∀S,Zc 4 env S= .ok (.ref o) S):∀(m pb:Nat) (c:Nat) (rs:i4) (cur:Ds) (r:rh) (M:c5),zr r<=m->m<pb->gV M0 f o c rs cur r M->iz cur r->eQ cur r<=100000 ->
  ∃S c' qa,jl (e2 iQ mw nL) (aG ki) pb env M= .nx env S/\gV M0 f o c' [] qa [] S/\iy qa 3/\qa.wt=eQ cur r:=by
 intro m
 induction m with
 | zero=>
  intro pb c rs cur r M hm hf h g hw;obtain⟨k,rfl⟩:∃k,pb=k+1:=⟨pb-1,c8⟩;cases r with
  | nil=>
   cases rs with
   |cons _ _=>have:=h.len;simp at this|nil=>refine⟨M,c,cur,?_,h,g,rfl⟩;rw[oJ,Zg (eO (h4 M)<|kO h.ho) aaD (show iQ (.int (b9 (d_ []):Int)) (.int 0) M= .ok (.bl false) M from rfl)]
  |cons q r=>let⟨x,d⟩:=q;rw[Hr]at hm;cases x<;>simp[bT.mu]at hm
 | succ m ih=>
  intro pb c rs cur r M hm hf h g hw;obtain⟨k,rfl⟩:∃k,pb=k+1:=⟨pb-1,c8⟩;cases r with
  | nil=>
   cases rs with
   |cons _ _=>have:=h.len;simp at this|nil=>refine⟨M,c,cur,?_,h,g,rfl⟩;rw[oJ,Zg (eO (h4 M)<|kO h.ho) aaD (show iQ (.int (b9 (d_ []):Int)) (.int 0) M= .ok (.bl false) M from rfl)]
  | cons q r=>
   let⟨x,d⟩:=q;cases rs with
   |nil=>have:=h.len;simp at this|cons c' rs=>let⟨S,e,HS⟩:=Znj h g hw;let⟨c2,Nb,Ig,r2,q1,q2,q3,q4⟩:=HS;let⟨S2,c3,Vf,p0,h5,h6,h7⟩:=ih k c2 Nb Ig r2 S c8 c8 q1 q2 c8;refine⟨S2,c3,Vf,?_,h5,h6,h7.trans q3⟩;rw[oJ,Zg (eO (h4 M)<|kO h.ho) aaD (show iQ (.int (b9 (d_<|(x,d)::r):Int)) (.int 0) M= .ok (.bl true) M by rw[pN,Zpa,qc j0])];show(match aG _ _ _ with| .nx e M'=>_| .ct e M'=>_| .bk e M'=>_|o=>o)=_;rwa[jE<|jU (h3 M) (h4 M) e]
end
theorem uT{n:Nat}:∀d:Ds,cu n d.enc=true
 | .nil=>rfl|.set x t r=>by show(below n (qX x t)&&cu n r.enc)=true;rw[uT r,xZ];show(true&&(cu n t.flat&&true))=true;rw[qU<|qb t];rfl
 | .put t u r=>by show(below n (sW t u)&&cu n r.enc)=true;rw[uT r,xZ];show(true&&(cu n t.flat&&(cu n u.flat&&true)))=true;rw[qU<|qb t,qU<|qb u];rfl|.tell t r=>by show(below n (sX t)&&cu n r.enc)=true;rw[uT r,xZ];show(true&&(cu n t.flat&&true))=true;rw[qU<|qb t];rfl|.bM t a b r=>by show(below n (jX t a.enc b.enc)&&cu n r.enc)=true;rw[uT r,xZ];show(true&&(cu n t.flat&&(cu n a.enc&&(cu n b.enc&&true))))=true;rw[qU<|qb t,uT a,uT b];rfl|.ot t a r=>by show(below n (cV t a.enc)&&cu n r.enc)=true;rw[uT r,xZ];show(true&&(cu n t.flat&&(cu n a.enc&&true)))=true;rw[qU<|qb t,uT a];rfl
def ZuV(hl:b9 ns<=63){cl nr:Nat}{names:k9}{cs:l8}(tm:M[cl]?=O (.L<|cs.map D.int))(AM:b9 cs<=24)(hn:M[nr]?=O (.L<|names.map D.str))(oq:b9 names=7)(sN:∀x∈names,bf x=false):
  ∃ds:Ds,iy ds 3/\ds.wt<=2000/\R8 [SC ns,.ref cl,.ref nr] M= .ok (.U ds.enc) M:=by
 let M3:=M++[MO.L [],.L [.ref<|b9 M],.L []]
 have h0:gV M (b9 M+1) (b9 M+2) (b9 M) [] .nil [] M3:=⟨mX _ _,v6 M [MO.L [],.L [.ref<|b9 M],.L []] 1,v6 M [MO.L [],.L [.ref<|b9 M],.L []] 2,v6 M [MO.L [],.L [.ref<|b9 M],.L []] 0,λi a q h=>by simp at h,rfl,j0,j0,j0,c8,c8,c8,j0⟩;let⟨S,b5,b6,b7,b8,e,H⟩:=Zpq (f:=b9 M+1) (o:=b9 M+2) (cl:=cl) hl hn oq sN tm cs 0 0 M3 Yj Yj Yj Yj ⟨b9 M,[],.nil,[],h0,iy.nil 3,Yn _,j0⟩ c8;let⟨c,rs,cur,r,h,g,hw,hm⟩:=H;have hmu:=Agf r;let⟨S2,c',qa,p0,h5,h6,h7⟩:=ZsS (env:=lg ns cl nr (b9 M+1) (b9 M+2) b5 b6 b7 b8) (λ_=>rfl) (λ_=>rfl) (zr r) 1000000 c rs cur r S (Yn _) c8 h g c8;let⟨G,hG⟩:=h5.p;refine⟨qa,h6,c8,?_⟩;refine(iR (M':=S2) (d:=.U qa.enc) (env:=[O<|SC ns,My cl,My nr,Yj,Yj,Yj,Yj,Yj,Yj]) ?_).trans ?_
 .unfold HI;refine(Zm<|bU (d:=.ref<|b9 M+1) (M':=M++[MO.L [],.L [.ref<|b9 M]]) ?_).trans ((Zm<|bU (d:=.ref<|b9 M+2) (M':=M3) ?_).trans ?_)
  .have hi:Za (bh Ze) Ze [O<|SC ns,My cl,My nr,Yj,Yj,Yj,Yj,Yj,Yj] M= .ok [.ref<|b9 M] (M++[.L []]):=Zk zt aaD;refine(jy hi aaD).trans ?_;rw[Y7,Ye];rfl
  .refine(jy (ds:=[]) (M':=M++[MO.L [],.L [.ref<|b9 M]]) aaD aaD).trans ?_;rw[Y7,Ye];rfl
  have qV:Bf (Zc 1) (lg ns cl nr (b9 M+1) (b9 M+2) Yj Yj Yj Yj) M3= .ok ⟨i_ 0<|cs.map D.int,[(cl,cs.map D.int)]⟩ M3:=by show(match M3[cl]? with|some (.L ds)=>R3.ok (⟨i_ 0 ds,[(cl,ds)]⟩:Be) M3|_=>R3.bad)=_;rw[show M3[cl]?=_ from h_ tm _]
  refine(Zm<|(Th qV).trans e).trans ((Zm p0).trans<|dh<|eO (Zg aaD aaD<|jF h5.hf aaD)<|yx h5.hc)
 .rw[<-hG];exact yu<|uT qa
def Zv9(hl:b9 ns<=63):(zp ns 6).Nodup:=by
 unfold zp;have key:∀i j:Nat,i<6->j<6->mO ns i=mO ns j->i=j:=λi j hi hj e=>by
  have h1:=Zyq hl i;have h2:=Zyq hl j;rw[e,h2]at h1;have hb:∀x:Int,(x % 26).toNat<b9 oX:=λx=>by have a:=Ei x (b:=26) aaE;have b:=Wn x (b:=26) aaE;show _<26;omega
  have hn:oX.Nodup:=by decide
  have:=(NB (hb _) hn).mp h1;have a1:=Ei ((i:Int)+dr ns 3) (b:=26) aaE;have a2:=Ei ((j:Int)+dr ns 3) (b:=26) aaE;omega
 have:∀l:i4,l.Nodup->(∀i∈l,i<6)->(l.map<|mO ns).Nodup:=by
  intro l
  induction l with
  |nil=>intro _ _;exact Wb|cons i l ih=>intro hn Ki;rw[Y2,lC];refine⟨λhm=>?_,ih (lC.mp hn).2 λj hj=>Ki j<|Yk _ hj⟩;let⟨j,hj,e⟩:=rJ.mp hm;have:=key j i (Ki j<|Yk _ hj) (Ki i Yv) e;exact(lC.mp hn).1 (this▸hj)
 exact this _ List.nodup_range λi hi=>I_.mp hi
def ZkO(h:b9 ns<=63)(n:Nat):∀x∈zp ns n,bf x=false:=λx hx=>by let⟨i,_,rfl⟩:=rJ.mp hx;exact(Jn h i).bf
inductive Agg(ns:l8)(P:D):Prop
 |mk (tk:k9) (ds:Ds) (e:P=fB tk ds) (nd:tk.Nodup) (len:b9 tk<=6) (r8:iy ds 3) (wt:ds.wt<=2000) (rs:∀x∈tk,bf x=false)
def Zqk(hl:b9 ns<=63)(M:c5):∃P,Agg ns P/\KZ [SC ns] M= .ok P M:=by
 let⟨j,ej,hj⟩:=p8 (dr ns 50) 7 aaE;have ej:dr ns 50 % 7=(j:Int):=ej
 let nm:=zp ns 6
 let tk:=nm.take j
 let CQ:=nm++[mO ns 10]
 let cs:=ns.take 24
 have AM:b9 cs<=24:=by simp[cs];omega
 have Agh:b9 CQ=7:=by simp[CQ,nm,JE]
 have hr7:∀x∈CQ,bf x=false:=λx hx=>by
  rcases Yr.mp hx with e|e
  .exact ZkO hl 6 x e
  .rw[Yp.mp e];exact(Jn hl 10).bf
 have main:∀M:c5,∃ds:Ds,iy ds 3/\ds.wt<=2000/\KZ [SC ns] M= .ok (fB tk ds) M:=λM=>by
  let M1:=M++[MO.L<|nm.map D.str]
  let M2:=M1++[MO.L<|tk.map D.str]
  let M3:=M2++[MO.L<|cs.map D.int]
  let M4:=M3++[MO.L [.str<|mO ns 10]]
  let M5:=M4++[MO.L<|CQ.map D.str]
  have tm:M5[b9 M2]?=O (.L<|cs.map D.int):=h_ (h_ (cW M2 _ []) _) _;have EC:M5[b9 M4]?=O (.L<|CQ.map D.str):=cW M4 _ [];let⟨ds,hf,hw,hd⟩:=ZuV hl (M:=M5) tm AM EC Agh hr7;refine⟨ds,hf,hw,?_⟩;refine(iR (M':=M5) (d:=fB tk ds) (env:=[O<|SC ns,Yj,Yj]) ?_).trans ?_
  .unfold HK;have s1:=Zv3 hl 6 aaE (i:=3) (env:=[O<|SC ns,Yj,Yj]) (λe=>∃a1 a2 a3,e=[O<|SC ns,a1,a2,a3]) ⟨_,_,_,rfl⟩ (λe ⟨a1,a2,a3,he⟩ d=>by subst he;exact⟨⟨_,_,_,rfl⟩,λM=>⟨rfl,rfl⟩⟩) M;refine(Zm<|bU s1).trans ?_;have A3:jR (Zc 1) jP dy [O<|SC ns,My<|b9 M,Yj] M1= .ok (.ref<|b9 M1) M2:=by
    have hd:e2 bH gT (eC<|.int 7) [O<|SC ns,My<|b9 M,Yj] M1= .ok (.int (j:Int)) M1:=Zg (sV hl (k:=50) aaD aaD) aaD ((fj aaE).trans<|by rw[ej]);have ec:oC (nm.map D.str) Yj (O (j:Int))=tk.map D.str:=by rw[Iq,Wc]
    simp only[jR,Zc,R3.bind,jP,jQ];have hv:([O<|SC ns,My<|b9 M,Yj]:Zz)[1]?=O (My<|b9 M):=rfl;simp only[hv];rw[hd];simp only[R3.bind];rw[Ax,show M1[b9 M]?=_ from cW M _ []];show alloc (.L<|oC (nm.map D.str) Yj<|O (j:Int)) M1=_;rw[ec];rfl
   refine(Zm<|bU (d:=.U<|tk.map D.str) (M':=M2)<|eO A3<|yx<|cW M1 _ []).trans ?_;have Agi:jR (Zc 0) jP (jQ<|eC<|.int 24) [O<|SC ns,My<|b9 M,O<|.U<|tk.map D.str] M2= .ok (.ref<|b9 M2) M3:=by
    have ec:oC (ns.map D.int) Yj (O ((24:Nat):Int))=cs.map D.int:=by rw[Iq,Wc]
    show alloc (.L<|oC (ns.map D.int) Yj<|O ((24:Nat):Int)) M2=_;rw[ec];rfl
   have h1:M4[b9 M]?=O (.L<|nm.map D.str):=h_ (h_ (h_ (cW M _ []) _) _) _;have Kj:e2 Zy (Zc 1) eJ [O<|SC ns,My<|b9 M,O<|.U<|tk.map D.str] M3= .ok (.ref<|b9 M4) M5:=by refine Zg aaD (jy (Zk (jU aaD aaD<|JA hl 10 M3) aaD) aaD) ((Zu7 h1 (cW M3 _ []) (by rw[Y3,JE];simp)).trans ?_);show R3.ok (D.ref<|b9 M4) (M4++[.L<|nm.map D.str++[.str<|mO ns 10]])=_;simp only[M5,CQ,gK];rfl
   exact dh<|cR (Zk aaD<|Zk (nA aaD Agi Kj hd) aaD) aaD
  .have e:M5=M++[MO.L<|nm.map D.str,.L<|tk.map D.str,.L<|cs.map D.int,.L [.str<|mO ns 10],.L<|CQ.map D.str]:=by simp[M5,M4,M3,M2,M1]
   rw[e];refine yu ?_;show(cu _ _&&(cu _ _&&true))=true;rw[uT,qU λw hw=>by let⟨x,_,rfl⟩:=rJ.mp hw;exact jW.str x];rfl
 let⟨ds,hf,hw,e⟩:=main M;refine⟨fB tk ds,⟨tk,ds,rfl,(Zv9 hl).sublist<|V7 _ _,?_,hf,hw,λx hx=>ZkO hl 6 x<|List.take_subset _ _ hx⟩,e⟩
 all_goals(simp[tk,nm,JE]<;>omega)
abbrev cT:i4:=n4
abbrev qZ:i4:=AA
abbrev uU:i4:=AB
abbrev zu:i4:=AD
abbrev zx:i4:=xE
abbrev CV:i4:=A1
abbrev Nf:i4:=wd
abbrev CZ:i4:=r6
abbrev dH(a c b:Nat)(s m:Int):MO:=.ins cT [(qZ,.ref a),(uU,.ref c),(zu,.ref b),(zx,.int s),(CV,.int m)]
def C_{c m:i4}{g:dg}{M M1 M2 M3:c5}{a:D}(h1:o env M= .ok a M1)(hi:v9 c m a M1=true)(h2:g env M1= .ok ds M2)(h3:F (a::ds) M2= .ok d M3):cM c m F o g env M= .ok d M3:=by simp only[cM,h1,R3.bind,hi,if_true,h2,h3]
section
variable {a c b w:Nat} {s m:Int} {M:c5}
def ZyD(h:M[w]?=O (dH a c b s m)):lK cT qZ (.ref w) M= .ok (.ref a) M:=by rw[FJ,h];rfl
def ZyC(h:M[w]?=O (dH a c b s m)):lK cT uU (.ref w) M= .ok (.ref c) M:=by rw[FJ,h];rfl
def Kk(h:M[w]?=O (dH a c b s m)):lK cT zu (.ref w) M= .ok (.ref b) M:=by rw[FJ,h];rfl
def Ng(h:M[w]?=O (dH a c b s m)):lK cT zx (.ref w) M= .ok (.int s) M:=by rw[FJ,h];rfl
def ZyP(h:M[w]?=O (dH a c b s m)):lK cT CV (.ref w) M= .ok (.int m) M:=by rw[FJ,h];rfl
def o8(h:M[w]?=O (dH a c b s m)){x:i4}(hx:([qZ,uU,zu,zx,CV].contains x)=false):v9 cT x (.ref w) M=true:=by
 rw[VU,h];have:(tX x [(qZ,D.ref a),(uU,.ref c),(zu,.ref b),(zx,.int s),(CV,.int m)])=Yj:=by simp only[Nl,List.contains_nil,Bool.or_eq_false_iff]at hx;simp only[tX,hx.1,hx.2.1,hx.2.2.1,hx.2.2.2.1,hx.2.2.2.2.1]
 show(decide (cT=cT)&&(tX x [(qZ,D.ref a),(uU,.ref c),(zu,.ref b),(zx,.int s),(CV,.int m)]).isNone)=true;rw[this];rfl
def Zyj(h:M[w]?=O (dH a c b s m))(v:Int):QZ cT zx (.int v) (.ref w) M= .ok .Z (M.set w<|dH a c b v m):=by rw[X8,h];rfl
end
def C5(o:Nat)(x y:Int):Int:=match o with
 |0=>x+y|1=>x-y|_=>if x>y then 1 else 0
def Ztp(o:Nat)(x y:Int)(M:c5):oV [.str<|j7 o,.int x,.int y] M= .ok (.int<|C5 o x y) M:=by
 refine(iR (M':=M) (d:=.int<|C5 o x y) (env:=[rf<|j7 o,e5 x,e5 y]) ?_).trans (QQ aaD);unfold Gn
 match o with
 |0=>exact oK ((eN yy).trans aaD)|1=>exact(Zm<|jt sC).trans (oK<|(eN yy).trans aaD)|o+2=>
  refine(Zm<|jt<|Zg aaD aaD<|iH (by show sj≠_;decide)).trans ((Zm<|jt<|Zg aaD aaD<|iH (by show sj≠_;decide)).trans ?_);by_cases h:x>y;exact dh ((QS (M1:=M)<|Zg aaD aaD<|by rw[pN,qc h]).trans (by show R3.ok (D.int 1) M=R3.ok (D.int<|if x>y then 1 else 0) M;rw[f_ h]));exact dh ((XR (M1:=M)<|Zg aaD aaD<|by rw[pN,pf h]).trans (by show R3.ok (D.int 0) M=R3.ok (D.int<|if x>y then 1 else 0) M;rw[i6 h]))
def Sm.cost:Sm->Nat
 | .num _=>1|.bW _=>2|.dw a=>a.cost+2|.two _ a b=>a.cost+b.cost+1
def Sm.val(nv:i4->Int)(cv:Int->Int):Sm->Int
 | .num i=>i|.bW x=>nv x|.dw a=>cv (a.val nv cv)|.two o a b=>C5 o (a.val nv cv)<|b.val nv cv
structure gG(w:Nat)(M M':c5):Prop where
 len:b9 M<=M'.length
 old:∀i,i<b9 M->i≠w->M'[i]?=M[i]?
variable{w:Nat}
def gG.rfl:gG w M M:=⟨Yn _,λ_ _ _=>Eq.refl _⟩
def gG.trans{M M1 M2:c5}(h:gG w M M1)(k:gG w M1 M2):gG w M M2:=⟨Yx h.len k.len,λi hi hw=>(k.old i (Yy hi h.len) hw).trans<|h.old i hi hw⟩
def gG.at{o:MO}(h:gG w M M')(e:M[i]?=O o)(hw:i≠w):M'[i]?=O o:=(h.old i (Yd.mp e).1 hw).trans e
def gG.app(w:Nat)(M G:c5):gG w M (M++G):=⟨j0,λi hi _=>Y4 hi⟩
def gG.set(w:Nat)(M:c5)(o:MO):gG w M (M.set w o):=⟨j0,λi _ hw=>Ym<|cF hw⟩
def Tw(M M':c5)(d:D)(hl:b9 M<=b9 M'):∃M2,tidy M d M'= .ok d M2/\M.length<=b9 M2/\∀i,i<b9 M->M2[i]?=M'[i]?:=by
 unfold tidy;split
 .exact⟨_,rfl,by rw[Ea];omega,λi hi=>by rw[D_ hi]⟩
 .exact⟨_,rfl,hl,λ_ _=>rfl⟩
structure WS(w a c b:Nat)(m:Int)(nk ck:l9)(M:c5)(s:Int):Prop where
 ob:M[w]?=O (dH a c b s m)
 nm:M[a]?=O (.j3 nk)
 cl:M[c]?=O (.j3 ck)
 ac:a≠c
variable{s:Int}
section
variable {w a c b:Nat} {m:Int} {nk ck:l9} {nv:i4->Int} {cv:Int->Int}
def WS.aw(h:WS w a c b m nk ck M s):a≠w:=λe=>by have:=h.ob;rw[<-e,h.nm]at this;cases this
def WS.cw(h:WS w a c b m nk ck M s):c≠w:=λe=>by have:=h.ob;rw[<-e,h.cl]at this;cases this
def WS.lt(h:WS w a c b m nk ck M s):w<b9 M:=(Yd.mp h.ob).1
def WS.xJ{s':Int}(h:WS w a c b m nk ck M s)(g:gG w M M')(e:M'[w]?=O (dH a c b s' m)):WS w a c b m nk ck M' s':=⟨e,g.at h.nm h.aw,g.at h.cl h.cw,h.ac⟩
end
structure W7 where
 n:l9
 c:l9
 o:h8
 s:Int
def W7.v(x:W7)(t:Sm):Int:=t.val (λy=>ox x.n<|.inr y) λi=>ox x.c<|.inl i
def W7.sp(x:W7)(k:Int):W7:=⟨x.n,x.c,x.o,x.s+k⟩
def W7.set(x:W7)(y:i4)(t:Sm):W7:=⟨oI (.inr y) (.int<|x.v t) x.n,x.c,x.o,x.s+(t.cost:Int)+2⟩
def W7.put(x:W7)(t u:Sm):W7:=⟨x.n,oI (.inl<|x.v t) (.int<|x.v u) x.c,x.o,x.s+(t.cost:Int)+(u.cost:Int)+2⟩
def W7.tell(x:W7)(t:Sm):W7:=⟨x.n,x.c,x.o++[.int<|x.v t],x.s+(t.cost:Int)+1⟩
inductive G7 where
 |done (x:W7)
 |over
 |out
def G7.on(g:G7)(f:W7->G7):G7:=match g with
 | .done x=>f x|.over=>.over|.out=>.out
noncomputable section
def c7(m:Int)(x:W7)(g:G7):G7:=if x.s<=m then g else .over
def bF(m:Int):Nat->Ds->W7->G7
 |0,_,_=>.out|_+1,.nil,x=>.done x|n+1,.set y t r,x=>c7 m (x.set y t) (bF m n r<|x.set y t)|n+1,.put t u r,x=>c7 m (x.put t u)<|bF m n r<|x.put t u
 |n+1,.tell t r,x=>c7 m (x.tell t) (bF m n r<|x.tell t)|n+1,.bM t a b r,x=>c7 m (x.sp<|(t.cost:Int)+1) (if 0<x.v t then(bF m n a<|x.sp<|(t.cost:Int)+1).on λy=>bF m n r y else(bF m n b<|x.sp<|(t.cost:Int)+1).on λy=>c7 m (y.sp 1)<|bF m n r<|y.sp 1)|n+1,.ot t a r,x=>c7 m (x.sp<|(t.cost:Int)+1)<|if 0<x.v t then(bF m n a<|x.sp<|(t.cost:Int)+1).on λy=>c7 m (y.sp 1) (bF m n (.ot t a r)<|y.sp 1)else c7 m (x.sp<|(t.cost:Int)+1+1)<|bF m n r<|x.sp<|(t.cost:Int)+1+1
end
variable{g:G7}{m:Int}
def jm{x:W7}(h:x.s<=m):c7 m x g=g:=f_ h
def qd{x:W7}(h:m<x.s):c7 m x g= .over:=i6 c8
def j8{x y:W7}(h:c7 m x g= .done y):x.s<=m/\g= .done y:=by
 by_cases q:x.s<=m
 .rw[jm q]at h;exact⟨q,h⟩
 .rw[qd c8]at h;cases h
def Ht{f:W7->G7}{y:W7}(h:g.on f= .done y):∃x,g= .done x/\f x= .done y:=by
 cases g with
 |done x=>exact⟨x,rfl,h⟩|over=>cases h|out=>cases h
structure Bd(x y:W7)(f:Int->G7):Prop where
 le:x.s<=y.s
 ok:∀m,y.s<=m->f m= .done y
 ov:∀m,x.s<=m->m<y.s->f m= .over
def Bd.lim{x x1 y:W7}{f:Int->G7}(h:x.s<=x1.s)(k:Bd x1 y f):Bd x y λm=>c7 m x1<|f m:=
 ⟨Jc h k.le,λm q=>(jm<|Jc k.le q).trans<|k.ok m q,λm _ q2=>by
  by_cases z:x1.s<=m
  .exact(jm z).trans (k.ov m z q2)
  .exact qd c8⟩
def Bd.on{x y z:W7}{f:Int->G7}{g:Int->W7->G7}(h:Bd x y f)(k:Bd y z λm=>g m y):Bd x z λm=>(f m).on<|g m:=
 ⟨Jc h.le k.le,λm q=>by show(f m).on (g m)=_;rw[h.ok m<|Jc k.le q];exact k.ok m q,λm q1 q2=>by
  show(f m).on (g m)=_;by_cases w:y.s<=m
  .rw[h.ok m w];exact k.ov m w q2
  .rw[h.ov m q1 c8];rfl⟩
def ZyM:∀(n:Nat) (d:Ds) (x y:W7),bF m n d x= .done y->Bd x y λm=>bF m n d x:=by
 intro n
 induction n with
 |zero=>intro d x y h;cases h|succ n ih=>
  intro d x y h;cases d with
  |nil=>have h:G7.done x= .done y:=h;cases h;exact⟨Int.le_refl _,λ_ _=>rfl,λ_ q1 q2=>by omega⟩|set z t r=>exact Bd.lim (by show x.s<=x.s+(t.cost:Int)+2;omega) (ih r _ _ (j8 h).2)|put t u r=>exact Bd.lim (by show x.s<=x.s+(t.cost:Int)+(u.cost:Int)+2;omega)<|ih r _ _ (j8 h).2
  |tell t r=>exact Bd.lim (by show x.s<=x.s+(t.cost:Int)+1;omega) (ih r _ _ (j8 h).2)|bM t a b r=>
   have h:=(j8 h).2;refine Bd.lim (x1:=x.sp<|(t.cost:Int)+1) (by show x.s<=x.s+((t.cost:Int)+1);omega) ?_;by_cases q:0<x.v t
   .rw[f_ q]at h;let⟨z,h1,h2⟩:=Ht h;simp only[f_ q];exact Bd.on (g:=λm y=>bF m n r y) (ih a _ _ h1)<|ih r _ _ h2
   .rw[i6 q]at h;let⟨z,h1,h2⟩:=Ht h;simp only[i6 q];exact Bd.on (g:=λm y=>c7 m (y.sp 1)<|bF m n r<|y.sp 1) (ih b _ _ h1) (Bd.lim (by show z.s<=z.s+1;omega)<|ih r _ _ (j8 h2).2)
  | ot t a r=>
   have h:=(j8 h).2;refine Bd.lim (x1:=x.sp<|(t.cost:Int)+1) (by show x.s<=x.s+((t.cost:Int)+1);omega) ?_;by_cases q:0<x.v t
   .rw[f_ q]at h;let⟨z,h1,h2⟩:=Ht h;simp only[f_ q];exact Bd.on (g:=λm y=>c7 m (y.sp 1)<|bF m n (.ot t a r)<|y.sp 1) (ih a _ _ h1) (Bd.lim (by show z.s<=z.s+1;omega)<|ih _ _ _ (j8 h2).2)
   .rw[i6 q]at h;simp only[i6 q];exact Bd.lim (by show x.s+((t.cost:Int)+1)<=x.s+((t.cost:Int)+1+1);omega)<|ih r _ _ (j8 h).2
structure F7(x:W7):Prop where
 n:uM x.n
 c:uM x.c
 nl:(b9 x.n:Int)<=x.s+100
 cl:(b9 x.c:Int)<=x.s+100
 ol:(b9 x.o:Int)<=x.s+100
 oi:∀d∈x.o,∃z,d= .int z
def F7.sp{x:W7}(h:F7 x){k:Int}(hk:0<=k):F7 (x.sp k):=⟨h.n,h.c,by have:=h.nl;show(b9 x.n:Int)<=x.s+k+100;omega,by have:=h.cl;show(b9 x.c:Int)<=x.s+k+100;omega,by have:=h.ol;show(b9 x.o:Int)<=x.s+k+100;omega,h.oi⟩
def F7.set{x:W7}(h:F7 x)(y:i4)(t:Sm):F7 (x.set y t):=⟨IL h.n _ _,h.c,by have:=h.nl;have:=Tg (.inr y) (.int<|x.v t) x.n;show(b9 (oI _ _ _):Int)<=x.s+(t.cost:Int)+2+100;omega,by have:=h.cl;show(b9 x.c:Int)<=x.s+(t.cost:Int)+2+100;omega,by have:=h.ol;show(b9 x.o:Int)<=x.s+(t.cost:Int)+2+100;omega,h.oi⟩
def F7.put{x:W7}(h:F7 x)(t u:Sm):F7 (x.put t u):=⟨h.n,IL h.c _ _,by have:=h.nl;show(b9 x.n:Int)<=x.s+(t.cost:Int)+(u.cost:Int)+2+100;omega,by have:=h.cl;have:=Tg (.inl<|x.v t) (.int<|x.v u) x.c;show(b9 (oI _ _ _):Int)<=x.s+(t.cost:Int)+(u.cost:Int)+2+100;omega,by have:=h.ol;show(b9 x.o:Int)<=x.s+(t.cost:Int)+(u.cost:Int)+2+100;omega,h.oi⟩
def F7.tell{x:W7}(h:F7 x)(t:Sm):F7 (x.tell t):=⟨h.n,h.c,by have:=h.nl;show(b9 x.n:Int)<=x.s+(t.cost:Int)+1+100;omega,by have:=h.cl;show(b9 x.c:Int)<=x.s+(t.cost:Int)+1+100;omega,by have:=h.ol;show(b9 (x.o++[_]):Int)<=x.s+(t.cost:Int)+1+100;rw[Ye];show((b9 x.o+1:Nat):Int)<=_;omega,λd hd=>by
 rcases Yr.mp hd with e|e
 .exact h.oi d e
 .exact⟨_,Yp.mp e⟩⟩
def jd(h:f env M= .ok d M'):bR f env M= .ok d M':=by simp only[bR,h]
def qe{f:dg}{d:h8}(h:f env M= .ok d M'):cB f env M= .ok d M':=by simp only[cB,h]
def Tz{f:S3}{e:Zz}(h:f env M= .nx e M'):jb f env M= .nx e M':=by rw[jb,h]
def Hu{f:S3}(h:f env M= .rt d M'):jb f env M= .rt d M':=by rw[jb,h]
def Kn{f g:S3}{x:X3}(h:f env M= .exc x M'):Zx f g env M= .exc x M':=by rw[Zx,h]
def ZwU{body:S3}{x:X3}(h:body env M= .exc x M')(hl:b9 ds=ps:=by rfl)(he:ds.map O++Yg (n-ps) Yj=env:=by rfl):aK ps n body ds M= .exc x M':=by subst he;rw[aK,f_ hl,h]
def ZsG{c:i4}{g:dg}{M M1:c5}(h:g env M= .ok [d] M1):FN c g env M= .exc ⟨c,.ref<|b9 M1⟩ (M1++[.ins (0::c) []]):=by rw[FN,h]
def Kt{x:X3}(h:f env M= .exc x M'):aG f env M= .exc x M':=by rw[aG,h]
def Zpe{x:X3}(h:f env M= .exc x M'):aD i f env M= .exc x M':=by rw[aD,h]
def Kx{c m:i4}{g:dg}{M M1 M2 M3:c5}{a:D}{x:X3}(h1:o env M= .ok a M1)(hi:v9 c m a M1=true)(h2:g env M1= .ok ds M2)(h3:F (a::ds) M2= .exc x M3):cM c m F o g env M= .exc x M3:=by simp only[cM,h1,R3.bind,hi,if_true,h2,h3]
abbrev uV:i4:=ze
def dU(P:Nat->Prop)(M:c5)(r:R3 D):Prop:=∃k M',r= .exc ⟨uV,.ref k⟩ M'/\M'[k]?=O (.ins (0::uV) [])/\M.length<=b9 M'/\∀i,i<b9 M->P i->M'[i]?=M[i]?
variable{P:Nat->Prop}
def dU.from{M M1:c5}{r:R3 D}(h:dU P M1 r)(hl:b9 M<=b9 M1)(ho:∀i,i<b9 M->P i->M1[i]?=M[i]?):dU P M r:=by let⟨k,M',a,b,c,d⟩:=h;exact⟨k,M',a,b,Yx hl c,λi hi hp=>(d i (Yy hi hl) hp).trans<|ho i hi hp⟩
def dU.imp{Q:Nat->Prop}{r:R3 D}(h:dU P M r)(k:∀i,i<b9 M->Q i->P i):dU Q M r:=by let⟨j,M',a,b,c,d⟩:=h;exact⟨j,M',a,b,c,λi hi hq=>d i hi<|k i hi hq⟩
def bV(P:Nat->Prop)(M:c5)(r:O3):Prop:=∃k M',r= .exc ⟨uV,.ref k⟩ M'/\M'[k]?=O (.ins (0::uV) [])/\M.length<=b9 M'/\∀i,i<b9 M->P i->M'[i]?=M[i]?
def bV.from{M M1:c5}{r:O3}(h:bV P M1 r)(hl:b9 M<=b9 M1)(ho:∀i,i<b9 M->P i->M1[i]?=M[i]?):bV P M r:=by let⟨k,M',a,b,c,d⟩:=h;exact⟨k,M',a,b,Yx hl c,λi hi hp=>(d i (Yy hi hl) hp).trans<|ho i hi hp⟩
def bV.imp{Q:Nat->Prop}{r:O3}(h:bV P M r)(k:∀i,i<b9 M->Q i->P i):bV Q M r:=by let⟨j,M',a,b,c,d⟩:=h;exact⟨j,M',a,b,c,λi hi hq=>d i hi<|k i hi hq⟩
def bV.seq{f g:S3}(h:bV P M (f env M0)):bV P M (Zx f g env M0):=by let⟨k,M',a,b⟩:=h;exact⟨k,M',Kn a,b⟩
def bV.to{cY:Zz}{f g:S3}(e:f env M= .nx cY M0)(h:bV P M (g cY M0)):bV P M (Zx f g env M):=by rwa[Zm e]
def bV.def{body:S3}(h:bV P M (body env M))(hl:b9 ds=ps:=by rfl)(he:ds.map O++Yg (n-ps) Yj=env:=by rfl):dU P M (aK ps n body ds M):=by let⟨k,M',a,b⟩:=h;exact⟨k,M',ZwU a hl he,b⟩
def dU.expr(h:dU P M (f env M0)):bV P M (aG f env M0):=by let⟨k,M',a,b⟩:=h;exact⟨k,M',Kt a,b⟩
def dU.sets(h:dU P M (f env M0)):bV P M (aD i f env M0):=by let⟨k,M',a,b⟩:=h;exact⟨k,M',Zpe a,b⟩
def dU.we{M M1 M2 M0:c5}{c m:i4}{g:dg}{a:D}(h1:o env M0= .ok a M1)(hi:v9 c m a M1=true)(h2:g env M1= .ok ds M2)(h:dU P M (F (a::ds) M2)):dU P M (cM c m F (bR o) (cB g) env M0):=by let⟨k,M',e,b⟩:=h;exact⟨k,M',Kx (jd h1) hi (qe h2) e,b⟩
variable{e:dg}
section
variable {a c b w:Nat} {s m:Int} {M:c5}
def Zuy(h:M[w]?=O (dH a c b s m))(k:Int)(hk:s+k<=m):iG [.ref w,.int k] M= .ok .Z (M.set w<|dH a c b (s+k) m):=by have hw:w<b9 M:=(Yd.mp h).1;have h2:(M.set w<|dH a c b (s+k) m)[w]?=O (dH a c b (s+k) m):=Yu hw;refine(yt (M':=M.set w<|dH a c b (s+k) m) (env:=[My w,e5 k]) (env':=[My w,e5 k]) ?_).trans (Mt<|jZ ..);unfold RN;refine(Zm<|Tz<|jE<|Zg (Zg (di aaD<|Ng h) aaD aaD) aaD<|Zyj h<|s+k).trans ?_;exact(fU<|jd<|Zg (di aaD<|Ng h2) (di aaD<|ZyP h2)<|by rw[pN,pf c8]).trans aaD
def ZwQ(h:M[w]?=O (dH a c b s m))(k:Int)(hk:m<s+k):dU (· ≠w) M (iG [.ref w,.int k] M):=by
 have hw:w<b9 M:=(Yd.mp h).1;have h2:(M.set w<|dH a c b (s+k) m)[w]?=O (dH a c b (s+k) m):=Yu hw;refine bV.def (env:=[My w,e5 k]) ⟨b9<|M.set w<|dH a c b (s+k) m,M.set w (dH a c b (s+k) m)++[.ins (0::uV) []],?_,cW _ _ [],j0,λi hi JO=>?_⟩
 .unfold RN;refine(Zm<|Tz<|jE<|Zg (Zg (di aaD<|Ng h) aaD aaD) aaD<|Zyj h<|s+k).trans ?_;refine(eN<|jd<|Zg (di aaD<|Ng h2) (di aaD<|ZyP h2)<|by rw[pN,qc c8]).trans (ZsG aaD)
 .rw[Y4 (by rwa[jZ]),Ym<|cF JO]
def Dc(h:M[w]?=O (dH a c b s m))(k:Int)(hk:s+k<=m)(h0:o env M= .ok (.ref w) M)(he:e env M= .ok [.int k] M):aG (cM cT CZ iG (bR o)<|cB e) env M= .nx env (M.set w<|dH a c b (s+k) m):=jE<|C_ (jd h0) (o8 h aaE) (qe he)<|Zuy h k hk
def Dd(h:M[w]?=O (dH a c b s m))(k:Int)(hk:m<s+k)(h0:o env M= .ok (.ref w) M)(he:e env M= .ok [.int k] M):bV (· ≠w) M (aG (cM cT CZ iG (bR o)<|cB e) env M):=(dU.we h0 (o8 h aaE) he<|ZwQ h k hk).expr
end
def ZrR{i:I3}{own:Nat}{g:G3}{M M1:c5}(h:i env M= .ok it M1):yI i own g f env M=eG it g [] f (b9 M1) it.items (env++Yg own Yj) (M1++[.L []]):=by rw[yI,h]
section
variable {w a c b:Nat} {m:Int} {nk ck:l9} {nv:i4->Int} {cv:Int->Int}
def Nh(w a c b:Nat)(m:Int)(nk ck:l9)(nv:i4->Int)(cv:Int->Int)(F:F3)(t:Sm):Prop:=
 ∀M s,WS w a c b m nk ck M s->s<=m ->
  (s+(t.cost:Int)<=m->∃M',F [.ref w,.U t.flat] M= .ok (.int<|t.val nv cv) M'/\gG w M M'/\M'[w]?=O (dH a c b (s+(t.cost:Int)) m))/\
  (m<s+(t.cost:Int)->dU (· ≠w) M (F [.ref w,.U t.flat] M))
abbrev zy(F:F3):E3:=cM cT Nf F (bR<|Zc 0)<|cB ng
def Zs6{items:h8}{pk:Nat}{t:Sm}{ts:List Sm}{M M1:c5}{T P x:oS}{v:Int}(hp:M[pk]?=O (.L items))(h1:F [.ref w,.U t.flat] M= .ok (.int v) M1)(hi:v9 cT Nf (.ref w) M=true)(BG:M1[n]?=O (.L acc))(hz:b9 acc<1000):
  eG ⟨items,O pk⟩ (bK 3) [] (zy F) n (.U t.flat::ts.map λt=>.U t.flat) [My w,T,P,x] M=eG ⟨items,O pk⟩ (bK 3) [] (zy F) n (ts.map λt=>.U t.flat) [My w,T,P,O<|.U t.flat] (M1.set n<|.L<|acc++[.int v]):=by
 rw[Fv,f_ (by show decide _=true;exact qc hp)];have he:zy F [My w,T,P,O<|.U t.flat] M= .ok (.int v) M1:=C_ (jd aaD) hi (qe aaD) h1;have n9:b9 acc<SZ:=j4 hz (show 1000<SZ by decide);simp only[bK,lW,lX,Ft,R3.rm,if_true,he,BG,f_ n9]
def Ztk{items:h8}{pk:Nat}(AZ:pk≠n):∀(ts:List Sm),(∀t∈ts,Nh w a c b m nk ck nv cv F t)->∀(acc:h8) (M:c5) (s:Int) (T P x:oS),M[n]?=O (.L acc)->M[pk]?=O (.L items)->WS w a c b m nk ck M s->s<=m->b9 acc+b9 ts<1000 ->
  (s+((ts.map Sm.cost).sum:Int)<=m->∃M',eG ⟨items,O pk⟩ (bK 3) [] (zy F) n (ts.map λt=>.U t.flat) [My w,T,P,x] M= .ok (.ref n) M'/\M'[n]?=O (.L<|acc++ts.map λt=>.int<|t.val nv cv)/\M.length<=b9 M'/\(∀i,i<b9 M->i≠w->i≠n->M'[i]?=M[i]?)/\M'[w]?=O (dH a c b (s+((ts.map Sm.cost).sum:Int)) m))/\
  (m<s+((ts.map Sm.cost).sum:Int)->dU (λi=>i≠w/\i≠n) M (eG ⟨items,O pk⟩ (bK 3) [] (zy F) n (ts.map λt=>.U t.flat) [My w,T,P,x] M)):=by
 intro ts
 induction ts with
 |nil=>intro _ acc M s T P x hn hp ws hs hz;refine⟨λ_=>⟨M,?_,by simpa using hn,Yn _,λ_ _ _ _=>rfl,by simpa using ws.ob⟩,λh=>by simp at h;omega⟩;rw[rH,QM,f_ (by show decide _=true;exact qc hp)]|cons t ts ih=>
  intro ht acc M s T P x hn hp ws hs hz;have es:s+(((t::ts).map Sm.cost).sum:Int)=s+(t.cost:Int)+((ts.map Sm.cost).sum:Int):=by rw[Y2,Af,qC,vN]
  rw[es];have hi:v9 cT Nf (.ref w) M=true:=o8 ws.ob aaE;by_cases hc:s+(t.cost:Int)<=m
  .let⟨M1,h1,g1,e1⟩:=(ht t Yv M s ws hs).1 hc;have zA:=ws.xJ g1 e1;have EG:n≠w:=λe=>by have:=ws.ob;rw[<-e,hn]at this;cases this
   have hpw:pk≠w:=λe=>by have:=ws.ob;rw[<-e,hp]at this;cases this
   have BG:=g1.at hn EG;have hln:n<b9 M1:=(Yd.mp BG).1;have XY:=g1.at hp hpw;have p6:WS w a c b m nk ck (M1.set n<|.L<|acc++[.int<|t.val nv cv]) (s+(t.cost:Int)):=by
    have na:n≠a:=λe=>by have:=zA.nm;rw[<-e,BG]at this;cases this
    have nc:n≠c:=λe=>by have:=zA.cl;rw[<-e,BG]at this;cases this
    exact⟨by rw[Ym EG];exact zA.ob,by rw[Ym na];exact zA.nm,by rw[Ym nc];exact zA.cl,zA.ac⟩
   have sf:=Zs6 (items:=items) (pk:=pk) (n:=n) (t:=t) (ts:=ts) (acc:=acc) (T:=T) (P:=P) (x:=x) hp h1 hi BG c8;have rl:b9 M<=b9 (M1.set n<|.L<|acc++[.int<|t.val nv cv]):=by rw[jZ];exact g1.len
   have xA:∀i,i<b9 M->i≠w->i≠n->(M1.set n<|.L<|acc++[.int<|t.val nv cv])[i]?=M[i]?:=λi hi h2 h3=>by rw[Ym<|cF h3];exact g1.old i hi h2
   let⟨r1,r2⟩:=ih (λt' h'=>ht t'<|Yk _ h') (acc++[.int<|t.val nv cv]) (M1.set n<|.L<|acc++[.int<|t.val nv cv]) (s+(t.cost:Int)) T P (O<|.U t.flat) (Yu hln) (by rwa[Ym<|cF AZ]) p6 hc (by simp at hz |-;omega);rw[Y2,sf];refine⟨λpx=>?_,λpx=>(r2 px).from rl λi hi q=>xA i hi q.1 q.2⟩;let⟨M',h2,h3,h4,h5,h6⟩:=r1 px;exact⟨M',h2,by simpa using h3,Yx rl h4,λi hi hw A6=>(h5 i (Yy hi rl) hw A6).trans<|xA i hi hw A6,h6⟩
  .refine⟨λh=>by omega,λ_=>?_⟩;let⟨k,M',e,q1,q2,q3⟩:=(ht t Yv M s ws hs).2 c8;refine⟨k,M',?_,q1,q2,λi hi hq=>q3 i hi hq.1⟩;rw[Y2,Fv,f_ (by show decide _=true;exact qc hp)];have he:zy F [My w,T,P,O<|.U t.flat] M= .exc ⟨uV,.ref k⟩ M':=Kx (jd aaD) hi (qe aaD) e;simp only[bK,lW,lX,Ft,R3.rm,if_true,he,R3.bind]
end
def bV.KA{M M0 M1:c5}{c:E3}{f g:S3}(h:c env M0= .ok (.bl true) M1)(k:bV P M (f env M1)):bV P M (aQ c f g env M0):=by rwa[eN h]
def qi{c:E3}{f:S3}{M M1:c5}(h:c env M= .ok (.bl false) M1):aQ (bR c) f (jb cG) env M= .nx env M1:=(fU<|jd h).trans aaD
section
variable {w a c b:Nat} {m:Int} {nk ck:l9} {nv:i4->Int} {cv:Int->Int}
def Sm.own:Sm->Int
 | .num _=>1|.bW _=>2|.dw _=>2|.two _ _ _=>1
def Zu9(t:Sm):(t.cost:Int)=((t.parts.map Sm.cost).sum:Int)+t.own:=by
 cases t with
 |num _=>rfl|bW _=>rfl|dw a=>simp[Sm.parts,Sm.cost,Sm.own]|two o a b=>simp[Sm.parts,Sm.cost,Sm.own]
def ZqE{t:Sm}(hg:t.good)(hl:b9 t.flat<=500)(hN:∀x,(cD nk<|.inr x).getD (.int 0)= .int (nv x))(hC:∀i,(cD ck<|.inl i).getD (.int 0)= .int (cv i))(hr:∀p∈t.parts,Nh w a c b m nk ck nv cv (rec 0) p):
  Nh w a c b m nk ck nv cv (aK 2 3<|y_ rec) t:=by
 intro M s ws IZ;let⟨G,k,hp,hG⟩:=ZpP M t hg hl
 let M1:=M++G
 have BD:M1[b9 M+k]?=O (.L<|t.parts.map λt=>.U t.flat):=(v6 M G k).trans hG;have pv:b9 M+k<b9 M1:=(Yd.mp BD).1;have g1:gG w M M1:=gG.app w M G;have zA:WS w a c b m nk ck (M1++[.L []]) s:=ws.xJ (g1.trans<|gG.app w M1 _)<|h_ (h_ ws.ob G) _;have hn0:(M1++[MO.L []])[b9 M1]?=O (.L []):=cW M1 _ [];have JI:=Zu9 t;have Af1:b9 t.parts<=2:=by cases t<;>simp[Sm.parts]
 have qV:g_ mn [My w,O<|.U t.flat,Yj] M= .ok ⟨t.parts.map λt=>.U t.flat,O<|b9 M+k⟩ M1:=by show(Zr wD ny [My w,O<|.U t.flat,Yj] M).bind _=_;rw[lJ aaD hp,R3.rm];show(match M1[b9 M+k]? with|some (.L ds)=>R3.ok (⟨ds,O<|b9 M+k⟩:iD) M1|_=>R3.bad)=_;rw[BD]
 have Agj:w<b9 M1:=Yy ws.lt g1.len;let⟨cok,cex⟩:=Ztk (F:=rec 0) (nv:=nv) (cv:=cv) (items:=t.parts.map λt=>.U t.flat) (pk:=b9 M+k) (n:=b9 M1) (eE pv) t.parts hr [] (M1++[.L []]) s (O<|.U t.flat) Yj Yj hn0 (h_ BD _) zA IZ oP;by_cases uA:s+((t.parts.map Sm.cost).sum:Int)<=m
 .let⟨M2,h1,h2,h3,h4,h5⟩:=cok uA;rw[qy]at h2;have g2:gG w M M2:=⟨Yx g1.len<|Yx j0 h3,λi hi hw=>by
   have xD:i<b9 M1:=Yy hi g1.len;rw[h4 i (by rw[Ye];omega) hw<|eE xD,Y4 xD];exact g1.old i hi hw⟩
  have p6:WS w a c b m nk ck M2 (s+((t.parts.map Sm.cost).sum:Int)):=ws.xJ g2 h5;have s1:aD 2 (yI (g_ mn) 1 (bK 3)<|zy<|rec 0) [My w,O<|.U t.flat,Yj] M= .nx [My w,O<|.U t.flat,My<|b9 M1] M2:=bU (d:=.ref<|b9 M1)<|(ZrR qV).trans h1;have i7:aL a_ mT [My w,O<|.U t.flat,My<|b9 M1] M2= .ok (.int (b9 t.parts:Int)) M2:=by refine eO aaD ?_;rw[kO h2,Y3]
  have EG:b9 M1≠w:=rK Agj;refine⟨λhs=>?_,λhs=>?_⟩
  .have hk:s+((t.parts.map Sm.cost).sum:Int)+t.own<=m:=by omega
   let M3:=M2.set w<|dH a c b (s+((t.parts.map Sm.cost).sum:Int)+t.own) m
   have gs:=gG.set w M2<|dH a c b (s+((t.parts.map Sm.cost).sum:Int)+t.own) m;have g3:gG w M M3:=g2.trans gs;have w3:WS w a c b m nk ck M3 (s+((t.parts.map Sm.cost).sum:Int)+t.own):=p6.xJ gs<|Yu p6.lt;have n3:M3[b9 M1]?=O (.L<|t.parts.map λt=>.int<|t.val nv cv):=gs.at h2 EG;have pV:y_ rec [My w,O<|.U t.flat,Yj] M= .rt (.int<|t.val nv cv) M3->∃M',aK 2 3 (y_ rec) [.ref w,.U t.flat] M= .ok (.int<|t.val nv cv) M'/\gG w M M'/\M'[w]?=O (dH a c b (s+(t.cost:Int)) m):=λhb=>by let⟨M4,e4,l4,o4⟩:=Tw M M3 (.int<|t.val nv cv) g3.len;exact⟨M4,(iR (env:=[My w,O<|.U t.flat,Yj]) hb).trans e4,⟨l4,λi hi hw=>(o4 i hi).trans<|g3.old i hi hw⟩,by rw[o4 w ws.lt,JI,<-vN];exact w3.ob⟩
   refine pV ?_;unfold y_;refine(Zm s1).trans ?_;cases t with
   |two o x y=>refine oK<|(eN<|jd<|Zg i7 aaD<|mC aaD).trans<|(Zm<|Dc p6.ob 1 hk aaD aaD).trans<|Hu<|dh ?_;exact nA wy (Zg aaD aaD<|jF n3 aaD) (Zg aaD aaD<|jF n3 aaD) (Ztp o _ _ _)|dw x=>refine(Zm<|qi<|Zg i7 aaD<|iW (show¬((1:Nat):Int)=2 by decide)).trans<|oK<|(eN<|jd<|Zg i7 aaD<|mC aaD).trans<|(Zm<|Dc p6.ob 2 hk aaD aaD).trans<|Hu<|dh ?_;have A4:e2 Zj (Zc 2) nL [My w,O<|.U (Sm.dw x).flat,My<|b9 M1] M3= .ok (.int<|x.val nv cv) M3:=Zg aaD aaD<|jF n3 aaD;refine Tf (a:=.ref c) (M1:=M3) (M2:=M3) (M3:=M3) (di aaD<|ZyC w3.ob) (by rw[JH,w3.cl];rfl) (Zk A4 xk) ?_;rw[QF,w3.cl];show R3.ok ((cD ck<|.inl<|x.val nv cv).getD<|.int 0) _=_;rw[hC];rfl|num i=>exact(Zm<|qi<|Zg i7 aaD<|iW (show¬((0:Nat):Int)=2 by decide)).trans ((Zm<|qi<|Zg i7 aaD<|iW (show¬((0:Nat):Int)=1 by decide)).trans<|oK<|(eN<|jd<|di wy (show jk .int (.int i) M2= .ok (.bl true) M2 from rfl)).trans<|(Zm<|Dc p6.ob 1 hk aaD aaD).trans<|Hu<|dh wy)|bW x=>refine(Zm<|qi<|Zg i7 aaD<|iW (show¬((0:Nat):Int)=2 by decide)).trans ((Zm<|qi<|Zg i7 aaD<|iW (show¬((0:Nat):Int)=1 by decide)).trans<|(Zm<|qi<|di wy (show jk .int (.str x) M2= .ok (.bl false) M2 from rfl)).trans<|(Zm<|Dc p6.ob 2 hk aaD aaD).trans<|Hu<|dh ?_);refine Tf (a:=.ref a) (M1:=M3) (M2:=M3) (M3:=M3) (di aaD<|ZyD w3.ob) (by rw[JH,w3.nm];rfl) (Zk wy xk) ?_;rw[show(Sm.bW x).head= .str x from rfl,QF,w3.nm];show R3.ok ((cD nk<|.inr x).getD<|.int 0) _=_;rw[hN];rfl
  .have hk:m<s+((t.parts.map Sm.cost).sum:Int)+t.own:=by omega
   refine bV.def (env:=[My w,O<|.U t.flat,Yj]) ?_;unfold y_;refine bV.to s1<|bV.from ?_ g2.len λi hi hw=>g2.old i hi hw;cases t with
   |two o x y=>exact(bV.KA (jd<|Zg i7 aaD<|mC aaD) (Dd p6.ob 1 hk aaD aaD).seq).seq|dw x=>exact bV.to (qi<|Zg i7 aaD<|iW (show¬((1:Nat):Int)=2 by decide)) (bV.KA (jd<|Zg i7 aaD<|mC aaD) (Dd p6.ob 2 hk aaD aaD).seq).seq|num i=>exact bV.to (qi<|Zg i7 aaD<|iW (show¬((0:Nat):Int)=2 by decide)) (bV.to (qi<|Zg i7 aaD<|iW (show¬((0:Nat):Int)=1 by decide)) (bV.KA (jd<|di wy (show jk .int (.int i) M2= .ok (.bl true) M2 from rfl)) (Dd p6.ob 1 hk aaD aaD).seq).seq)|bW x=>exact bV.to (qi<|Zg i7 aaD<|iW (show¬((0:Nat):Int)=2 by decide)) (bV.to (qi<|Zg i7 aaD<|iW (show¬((0:Nat):Int)=1 by decide))<|bV.to (qi<|di wy (show jk .int (.str x) M2= .ok (.bl false) M2 from rfl)) (Dd p6.ob 2 hk aaD aaD).seq)
 .refine⟨λhs=>?_,λ_=>?_⟩
  .have:0<=t.own:=by cases t<;>simp[Sm.own]
   omega
  .refine bV.def (env:=[My w,O<|.U t.flat,Yj]) ?_;unfold y_;have q:=cex c8;have q2:dU (· ≠w) M (eG ⟨t.parts.map λt=>.U t.flat,O<|b9 M+k⟩ (bK 3) [] (zy<|rec 0) (b9 M1) (t.parts.map λt=>.U t.flat) [My w,O<|.U t.flat,Yj,Yj]<|M1++[.L []]):=by
    let⟨j,M',e1,e2,e3,e4⟩:=q;refine⟨j,M',e1,e2,Yx g1.len<|Yx j0 e3,λi hi hw=>?_⟩;have xD:i<b9 M1:=Yy hi g1.len;rw[e4 i (by rw[Ye];omega) ⟨hw,eE xD⟩,Y4 xD];exact g1.old i hi hw
   refine bV.seq<|dU.sets ?_;rwa[ZrR qV]
def ZtG(hN:∀x,(cD nk<|.inr x).getD (.int 0)= .int (nv x))(hC:∀i,(cD ck<|.inl i).getD (.int 0)= .int (cv i)):∀(n:Nat) (t:Sm),t.good->b9 t.flat<=n->n<=500->Nh w a c b m nk ck nv cv (RP n 0) t:=by
 intro n
 induction n with
 |zero=>intro t _ h _;let⟨x,r,e⟩:=S_ t;rw[e,Yh]at h;omega|succ n ih=>intro t hg hl hn;exact ZqE hg c8 hN hC λp hp=>ih p (Zm1 hg hp) (by have:=IJ hp;omega) c8
def value_eq{t:Sm}(hg:t.good)(hl:b9 t.flat<=12)(hN:∀x,(cD nk<|.inr x).getD (.int 0)= .int (nv x))(hC:∀i,(cD ck<|.inl i).getD (.int 0)= .int (cv i)):Nh w a c b m nk ck nv cv uG t:=ZtG hN hC 13 t hg c8 c8
end
abbrev DOD:i4:=GS
abbrev KG:i4:=Ct
abbrev GTH:i4:=zg
abbrev P4(w a c b i:Nat):Prop:=i≠w/\i≠a/\i≠c/\i≠b
structure jH(w a c b:Nat)(M M':c5):Prop where
 len:b9 M<=M'.length
 old:∀i,i<b9 M->P4 w a c b i->M'[i]?=M[i]?
def jH.rfl:jH w a c b M M:=⟨Yn _,λ_ _ _=>Eq.refl _⟩
def jH.trans{M M1 M2:c5}(h:jH w a c b M M1)(k:jH w a c b M1 M2):jH w a c b M M2:=⟨Yx h.len k.len,λi hi p=>(k.old i (Yy hi h.len) p).trans<|h.old i hi p⟩
def gG.qj(h:gG w M M'):jH w a c b M M':=⟨h.len,λi hi p=>h.old i hi p.1⟩
def Agk(w a c b:Nat)(M:c5)(o:MO):jH w a c b M (M.set a o):=⟨j0,λi _ p=>Ym<|cF p.2.1⟩
def Agl(w a c b:Nat)(M:c5)(o:MO):jH w a c b M (M.set c o):=⟨j0,λi _ p=>Ym<|cF p.2.2.1⟩
def Agm(w a c b:Nat)(M:c5)(o:MO):jH w a c b M (M.set b o):=⟨j0,λi _ p=>Ym<|cF p.2.2.2⟩
def bV.w4{r:O3}(h:bV (· ≠w) M r):bV (P4 w a c b) M r:=h.imp λ_ _ p=>p.1
def dU.w4{r:R3 D}(h:dU (· ≠w) M r):dU (P4 w a c b) M r:=h.imp λ_ _ p=>p.1
def bV.zB{M M1:c5}{r:O3}(g:jH w a c b M M1)(h:bV (P4 w a c b) M1 r):bV (P4 w a c b) M r:=h.from g.len g.old
structure WR(w a c b:Nat)(m:Int)(x:W7)(M:c5):Prop where
 ws:WS w a c b m x.n x.c M x.s
 nb:M[b]?=O (.L x.o)
variable{y:i4}
section
variable {w a c b:Nat} {m:Int} {x:W7} {M:c5}
def WR.bw(h:WR w a c b m x M):b≠w:=λe=>by have:=h.ws.ob;rw[<-e,h.nb]at this;cases this
def WR.bc(h:WR w a c b m x M):b≠c:=λe=>by have:=h.ws.cl;rw[<-e,h.nb]at this;cases this
def WR.ba(h:WR w a c b m x M):b≠a:=λe=>by have:=h.ws.nm;rw[<-e,h.nb]at this;cases this
def WR.xJ{k:Int}(h:WR w a c b m x M)(g:gG w M M')(e:M'[w]?=O (dH a c b (x.s+k) m)):WR w a c b m (x.sp k) M':=⟨h.ws.xJ g e,g.at h.nb h.bw⟩
def WR.U7(h:WR w a c b m x M)(k:Int):WR w a c b m (x.sp k) (M.set w<|dH a c b (x.s+k) m):=h.xJ (gG.set w M _)<|Yu h.ws.lt
def WR.Df(h:WR w a c b m x M):w<b9 M/\a<b9 M/\c<b9 M/\b<b9 M:=⟨(Yd.mp h.ws.ob).1,(Yd.mp h.ws.nm).1,(Yd.mp h.ws.cl).1,(Yd.mp h.nb).1⟩
def WR.AdQ(h:WR w a c b m x M)(nk:l9):WR w a c b m ⟨nk,x.c,x.o,x.s⟩ (M.set a<|.j3 nk):=⟨⟨by rw[Ym h.ws.aw];exact h.ws.ob,Yu h.Df.2.1,by rw[Ym h.ws.ac];exact h.ws.cl,h.ws.ac⟩,by rw[Ym<|cF h.ba];exact h.nb⟩
def WR.AdR(h:WR w a c b m x M)(ck:l9):WR w a c b m ⟨x.n,ck,x.o,x.s⟩ (M.set c<|.j3 ck):=⟨⟨by rw[Ym h.ws.cw];exact h.ws.ob,by rw[Ym<|cF h.ws.ac];exact h.ws.nm,Yu h.Df.2.2.1,h.ws.ac⟩,by rw[Ym<|cF h.bc];exact h.nb⟩
def WR.AdS(h:WR w a c b m x M)(o:h8):WR w a c b m ⟨x.n,x.c,o,x.s⟩ (M.set b<|.L o):=⟨⟨by rw[Ym h.bw];exact h.ws.ob,by rw[Ym h.ba];exact h.ws.nm,by rw[Ym h.bc];exact h.ws.cl,h.ws.ac⟩,Yu h.Df.2.2.2⟩
def WR.tidy{M2 M0:c5}(h:WR w a c b m x M){x0:W7}(h0:WR w a c b m x0 M0)(o:∀i,i<b9 M0->M2[i]?=M[i]?):WR w a c b m x M2:=⟨⟨(o w h0.Df.1).trans h.ws.ob,(o a h0.Df.2.1).trans h.ws.nm,(o c h0.Df.2.2.1).trans h.ws.cl,h.ws.ac⟩,(o b h0.Df.2.2.2).trans h.nb⟩
def bY(w a c b:Nat)(m:Int)(F:R3 D)(M:c5)(g:G7):Prop:=(∀y,g= .done y->∃M',F= .ok .Z M'/\WR w a c b m y M'/\jH w a c b M M')/\(g= .over->dU (P4 w a c b) M F)
def gW(w a c b:Nat)(m:Int)(r:O3)(M:c5)(g:G7):Prop:=(∀y,g= .done y->∃e M',r= .nx e M'/\WR w a c b m y M'/\jH w a c b M M')/\(g= .over->bV (P4 w a c b) M r)
def gW.def{body:S3}{N:Nat}{x0:W7}(h0:WR w a c b m x0 M)(h:gW w a c b m (body env M) M g)(hl:b9 ds=ps:=by rfl)(he:ds.map O++Yg (N-ps) Yj=env:=by rfl):bY w a c b m (aK ps N body ds M) M g:=by refine⟨λy e=>?_,λe=>bV.def (h.2 e) hl he⟩;let⟨e',M',h1,h2,h3⟩:=h.1 y e;let⟨M2,e2,l2,o2⟩:=Tw M M' .Z h3.len;exact⟨M2,(yt h1 hl he).trans e2,h2.tidy h0 o2,l2,λi hi p=>(o2 i hi).trans<|h3.old i hi p⟩
def bY.st{me:i4}{gl:dg}(h:bY w a c b m (F (.ref w::ds) M) M g)(h0:WR w a c b m x M)(hm:([qZ,uU,zu,zx,CV].contains me)=false)(ho:o env M= .ok (.ref w) M)(hg:gl env M= .ok ds M):gW w a c b m (aG (cM cT me F (bR o)<|cB gl) env M) M g:=by refine⟨λy e=>?_,λe=>(dU.we ho (o8 h0.ws.ob hm) hg<|h.2 e).expr⟩;let⟨M',h1,h2,h3⟩:=h.1 y e;exact⟨env,M',jE<|C_ (jd ho) (o8 h0.ws.ob hm) (qe hg) h1,h2,h3⟩
def Ni{t:Sm}(ht:t.ok)(hx:F7 x)(h:WR w a c b m x M)(hs:x.s<=m){g:E3}(ho:o env M= .ok (.ref w) M)(hg:g env M= .ok (.U t.flat) M):
  (x.s+(t.cost:Int)<=m->∃M',cM cT Nf uG (bR o) (cB<|Za g Ze) env M= .ok (.int<|x.v t) M'/\gG w M M'/\WR w a c b m (x.sp (t.cost:Int)) M')/\
  (m<x.s+(t.cost:Int)->dU (P4 w a c b) M (cM cT Nf uG (bR o) (cB<|Za g Ze) env M)):=by
 let⟨h1,h2⟩:=value_eq (nv:=λy=>ox x.n<|.inr y) (cv:=λi=>ox x.c<|.inl i) ht.1 ht.2 (λ_=>hx.n.get _) (λ_=>hx.c.get _) M x.s h.ws hs;refine⟨λq=>?_,λq=>dU.we ho (o8 h.ws.ob aaE) (Zk hg aaD) (h2 q).w4⟩;let⟨M',e1,e2,e3⟩:=h1 q;exact⟨M',C_ (jd ho) (o8 h.ws.ob aaE) (qe<|Zk hg aaD) e1,e2,h.xJ e2 e3⟩
def KI(h:WR w a c b m x M)(k:Int)(h0:o env M= .ok (.ref w) M)(he:e env M= .ok [.int k] M):gW w a c b m (aG (cM cT CZ iG (bR o)<|cB e) env M) M (c7 m (x.sp k)<|.done<|x.sp k):=by
 refine⟨λy q=>?_,λq=>?_⟩
 .let⟨q1,q2⟩:=j8 q;cases q2;exact⟨env,_,Dc h.ws.ob k q1 h0 he,h.U7 k,(gG.set w M _).qj⟩
 .by_cases z:(x.sp k).s<=m
  .rw[jm z]at q;cases q
  .exact(Dd h.ws.ob k (by have:(x.sp k).s=x.s+k:=rfl;omega) h0 he).w4
def gW.to{f g:S3}{env e1:Zz}{M1:c5}{q:G7}(e:f env M= .nx e1 M1)(gr:jH w a c b M M1)(h:gW w a c b m (g e1 M1) M1 q):gW w a c b m (Zx f g env M) M q:=by rw[Zm e];refine⟨λy z=>?_,λz=>(h.2 z).zB gr⟩;let⟨e',M',h1,h2,h3⟩:=h.1 y z;exact⟨e',M',h1,h2,gr.trans h3⟩
def gW.over{r:O3}{x1:W7}(h:bV (P4 w a c b) M r)(q:m<x1.s):gW w a c b m r M (c7 m x1 g):=by rw[qd q];exact⟨λy z=>(by cases z),λ_=>h⟩
def ZvP{i:E3}{M1:c5}{kd:D}{k:aH}(hf:f env M= .ok d M1)(ho:o env M1= .ok (.ref n) M1)(hi:i env M1= .ok kd M1)(hk:gZ kd=O k)(hn:M1[n]?=O (.j3 kvs))(hl:b9 kvs<2000):yH o i f env M= .nx env (M1.set n<|.j3<|oI k d kvs):=by
 have Agn:JK d (.ref n) kd M1= .ok .Z (M1.set n<|.j3<|oI k d kvs):=by rw[QD,hn,hk];exact f_<|j4 hl aaE
 rw[yH,hf];exact Tz (show aG (e3 JK _ _ _) _ _=_ from jE (Aba aaD ho hi Agn))
def ZrT{i:E3}(h:dU P M (f env M)):bV P M (yH o i f env M):=by let⟨k,M',e,r⟩:=h;exact⟨k,M',by rw[yH,e],r⟩
def Ago{M1:c5}{KL:h8}(ho:o env M= .ok (.ref n) M)(hM:M[n]?=O (.L KL))(hf:f env M= .ok d M1)(hn:M1[n]?=O (.L xs))(hl:b9 xs<2000):aG (Bj o f) env M= .nx env (M1.set n<|.L<|xs++[d]):=by
 refine jE (d:=.Z) ?_;have ht:bO (.ref n) M=true:=by rw[A_,hM]
 have ha:cQ (.ref n) [d] M1= .ok .Z (M1.set n<|.L<|xs++[d]):=by rw[QC,hn];exact f_<|j4 hl aaE
 simp only[Bj,jd ho,ht,if_true,hf];exact jd ha
def ZzF{KL:h8}(ho:o env M= .ok (.ref n) M)(hM:M[n]?=O (.L KL))(h:dU P M (f env M)):bV P M (aG (Bj o f) env M):=by
 let⟨k,M',e,r⟩:=h;refine⟨k,M',Kt ?_,r⟩;have ht:bO (.ref n) M=true:=by rw[A_,hM]
 simp only[Bj,jd ho,ht,if_true,e]
def Zrv{z:i4}{r:h8}(h:y≠z){e0:oS}{er:List oS}(he:env=e0::O (.U<|.str y::r)::er):bR (e2 bJ kM<|eC<|.str z) env M= .ok (.bl false) M:=by subst he;exact jd<|Zg (Zg aaD aaD<|mz<|(lH (D.str y::r) 0).trans aaD) aaD<|iH h
theorem _root_.x6{p:Prop}(h:p:=by exact Zrv aaE aaD):p:=h
def Nj{r:h8}{e0:oS}{er:List oS}(he:env=e0::O (.U<|.str y::r)::er):bR (e2 bJ kM<|eC<|.str y) env M= .ok (.bl true) M:=by subst he;exact jd<|Zg (Zg aaD aaD<|mz<|(lH (D.str y::r) 0).trans aaD) aaD<|qT aaD
end
section
variable {w a c b:Nat} {m:Int} {x:W7} {M:c5}
def Agp(rec:Nat->F3){t:Sm}(ht:t.ok)(hx:F7 x)(h:WR w a c b m x M)(hs:x.s<=m)(hm:m<=1000):bY w a c b m (aK 2 3 (oW rec) [.ref w,qX y t] M) M (c7 m (x.set y t)<|.done<|x.set y t):=by
 refine gW.def (env:=[My w,O<|qX y t,Yj]) h ?_;unfold oW;rw[fU x6,fU x6,fU x6,eN<|Nj aaD];have sr:=Ni ht hx h hs (o:=Zc 0) (g:=e2 Zj (Zc 1) nS) (env:=[My w,O<|qX y t,Yj]) aaD aaD;by_cases hc:x.s+(t.cost:Int)<=m
 .let⟨M1,e1,g1,w1⟩:=sr.1 hc;have hl:=hx.nl;refine gW.to (ZvP (k:=.inr y) e1 (di aaD<|ZyD w1.ws.ob) aaD aaD w1.ws.nm (by show b9 x.n<2000;omega)) (g1.qj.trans<|Agk w a c b M1 _) ?_;exact KI (w1.AdQ _) 2 aaD aaD
 .exact gW.over (ZrT<|sr.2 c8).seq (by show m<x.s+(t.cost:Int)+2;omega)
def Agq(rec:Nat->F3){t u:Sm}(ht:t.ok)(hu:u.ok)(hx:F7 x)(h:WR w a c b m x M)(hs:x.s<=m)(hm:m<=1000):bY w a c b m (aK 2 3 (oW rec) [.ref w,sW t u] M) M (c7 m (x.put t u)<|.done<|x.put t u):=by
 refine gW.def (env:=[My w,O<|sW t u,Yj]) h ?_;unfold oW;rw[fU x6,fU x6,eN<|Nj aaD];have sr:=Ni ht hx h hs (o:=Zc 0) (g:=e2 Zj (Zc 1) nN) (env:=[My w,O<|sW t u,Yj]) aaD aaD;by_cases hc:x.s+(t.cost:Int)<=m
 .let⟨M1,e1,g1,w1⟩:=sr.1 hc;refine gW.to (bU e1) g1.qj ?_;have AaM:=Ni hu (hx.sp (k:=(t.cost:Int)) c8) w1 hc (o:=Zc 0) (g:=e2 Zj (Zc 1) nS) (env:=[My w,O<|sW t u,e5<|x.v t]) aaD aaD;by_cases zS:x.s+(t.cost:Int)+(u.cost:Int)<=m
  .let⟨M2,p0,g2,w2⟩:=AaM.1 zS;have hl:=hx.cl;refine gW.to (ZvP (k:=.inl<|x.v t) p0 (di aaD<|ZyC w2.ws.ob) aaD aaD w2.ws.cl (by show b9 x.c<2000;omega)) (g2.qj.trans<|Agl w a c b M2 _) ?_;exact KI (w2.AdR _) 2 aaD aaD
  .exact gW.over (ZrT<|AaM.2 (by show m<x.s+(t.cost:Int)+(u.cost:Int);omega)).seq (by show m<x.s+(t.cost:Int)+(u.cost:Int)+2;omega)
 .exact gW.over (dU.sets<|sr.2 c8).seq (by show m<x.s+(t.cost:Int)+(u.cost:Int)+2;omega)
def Zxm(rec:Nat->F3){t:Sm}(ht:t.ok)(hx:F7 x)(h:WR w a c b m x M)(hs:x.s<=m)(hm:m<=1000):bY w a c b m (aK 2 3 (oW rec) [.ref w,sX t] M) M (c7 m (x.tell t)<|.done<|x.tell t):=by
 refine gW.def (env:=[My w,O<|sX t,Yj]) h ?_;unfold oW;rw[fU x6,fU x6,fU x6,fU x6];have sr:=Ni ht hx h hs (o:=Zc 0) (g:=e2 Zj (Zc 1) nN) (env:=[My w,O<|sX t,Yj]) aaD aaD;by_cases hc:x.s+(t.cost:Int)<=m
 .let⟨M1,e1,g1,w1⟩:=sr.1 hc;have hl:=hx.ol;refine gW.to (Ago (di aaD<|Kk h.ws.ob) h.nb e1 w1.nb (by show b9 x.o<2000;omega)) (g1.qj.trans<|Agm w a c b M1 _) ?_;exact KI (w1.AdS _) 1 aaD aaD
 .exact gW.over (ZzF (di aaD<|Kk h.ws.ob) h.nb<|sr.2 c8).seq (by show m<x.s+(t.cost:Int)+1;omega)
def ZpO{t:Sm}(ht:t.ok)(hx:F7 x)(h:WR w a c b m x M)(hs:x.s<=m){g:E3}(ho:o env M= .ok (.ref w) M)(hg:g env M= .ok (.U t.flat) M):
  (x.s+(t.cost:Int)+1<=m->∃M',cM cT KG Ce (bR o) (cB<|Za g Ze) env M= .ok (.bl<|decide<|0<x.v t) M'/\gG w M M'/\WR w a c b m (x.sp<|(t.cost:Int)+1) M')/\
  (m<x.s+(t.cost:Int)+1->dU (P4 w a c b) M (cM cT KG Ce (bR o) (cB<|Za g Ze) env M)):=by
 have sr:=Ni ht hx h hs (o:=Zc 0) (g:=Zc 1) (env:=[My w,O<|.U t.flat,Yj]) aaD aaD;by_cases hc:x.s+(t.cost:Int)<=m
 .let⟨M1,e1,g1,w1⟩:=sr.1 hc;refine⟨λq=>?_,λq=>?_⟩
  .have g2:=g1.trans<|gG.set w M1<|dH a c b (x.s+(t.cost:Int)+1) m;let⟨M4,e4,l4,o4⟩:=Tw M (M1.set w<|dH a c b (x.s+(t.cost:Int)+1) m) (.bl<|decide<|0<x.v t) g2.len;have w2:WR w a c b m (x.sp<|(t.cost:Int)+1) (M1.set w<|dH a c b (x.s+(t.cost:Int)+1) m):=by
    have:=w1.U7 1;have e:(x.sp (t.cost:Int)).sp 1=x.sp ((t.cost:Int)+1):=congrArg (λz=>W7.mk x.n x.c x.o z)<|vN x.s (t.cost:Int) 1;rwa[e]at this
   refine⟨M4,C_ (jd ho) (o8 h.ws.ob aaE) (qe<|Zk hg aaD)<|(iR (env:=[My w,O<|.U t.flat,Yj]) ?_).trans e4,⟨l4,λi hi hw=>(o4 i hi).trans<|g2.old i hi hw⟩,w2.tidy h o4⟩;unfold KD;exact(Zm<|bU e1).trans ((Zm<|Dc w1.ws.ob 1 q aaD aaD).trans<|Hu<|dh<|Zg aaD aaD (by rw[pN];rfl))
  .refine dU.we ho (o8 h.ws.ob aaE) (Zk hg aaD)<|bV.def (env:=[My w,O<|.U t.flat,Yj]) ?_;unfold KD;exact bV.to (bU e1)<|bV.zB g1.qj (Dd w1.ws.ob 1 q aaD aaD).w4.seq
 .refine⟨λq=>by omega,λq=>dU.we ho (o8 h.ws.ob aaE) (Zk hg aaD)<|bV.def (env:=[My w,O<|.U t.flat,Yj]) ?_⟩;unfold KD;exact(dU.sets<|sr.2 c8).seq
end
def KO:∀(n:Nat) (d:Ds) (x y:W7),bF m n d x= .done y->F7 x->x.s<=m->F7 y/\y.s<=m:=by
 intro n
 induction n with
 |zero=>intro d x y h;cases h|succ n ih=>
  intro d x y h hx hs;cases d with
  |nil=>have h:G7.done x= .done y:=h;cases h;exact⟨hx,hs⟩|set z t r=>let⟨h1,h2⟩:=j8 h;exact ih r _ _ h2 (hx.set z t) h1|put t u r=>let⟨h1,h2⟩:=j8 h;exact ih r _ _ h2 (hx.put t u) h1
  |tell t r=>let⟨h1,h2⟩:=j8 h;exact ih r _ _ h2 (hx.tell t) h1|bM t a b r=>
   let⟨h1,h2⟩:=j8 h;have x8:=hx.sp (k:=(t.cost:Int)+1) c8;by_cases q:0<x.v t
   .rw[f_ q]at h2;let⟨z,h3,h4⟩:=Ht h2;let⟨k1,k2⟩:=ih a _ _ h3 x8 h1;exact ih r _ _ h4 k1 k2
   .rw[i6 q]at h2;let⟨z,h3,h4⟩:=Ht h2;let⟨k1,k2⟩:=ih b _ _ h3 x8 h1;let⟨h5,h6⟩:=j8 h4;exact ih r _ _ h6 (k1.sp aaE) h5
  | ot t a r=>
   let⟨h1,h2⟩:=j8 h;have x8:=hx.sp (k:=(t.cost:Int)+1) c8;by_cases q:0<x.v t
   .rw[f_ q]at h2;let⟨z,h3,h4⟩:=Ht h2;let⟨k1,k2⟩:=ih a _ _ h3 x8 h1;let⟨h5,h6⟩:=j8 h4;exact ih _ _ _ h6 (k1.sp aaE) h5
   .rw[i6 q]at h2;let⟨h5,h6⟩:=j8 h2;exact ih r _ _ h6 (hx.sp (k:=(t.cost:Int)+1+1) c8) h5
variable{A B:h8}
section
variable {w a c b:Nat} {m:Int} {x:W7} {M:c5}
def jY(w a c b:Nat)(m:Int)(env:Zz)(r:O3)(M:c5)(g:G7):Prop:=(∀y,g= .done y->∃M',r= .nx env M'/\WR w a c b m y M'/\jH w a c b M M')/\(g= .over->bV (P4 w a c b) M r)
def jY.r{env:Zz}{r:O3}{g:G7}(h:jY w a c b m env r M g):gW w a c b m r M g:=⟨λy e=>let⟨M',h1⟩:=h.1 y e;⟨env,M',h1⟩,h.2⟩
def bY.se{me:i4}{gl:dg}(h:bY w a c b m (F (.ref w::ds) M) M g)(h0:WR w a c b m x M)(hm:([qZ,uU,zu,zx,CV].contains me)=false)(ho:o env M= .ok (.ref w) M)(hg:gl env M= .ok ds M):jY w a c b m env (aG (cM cT me F (bR o)<|cB gl) env M) M g:=by refine⟨λy e=>?_,λe=>(dU.we ho (o8 h0.ws.ob hm) hg<|h.2 e).expr⟩;let⟨M',h1,h2,h3⟩:=h.1 y e;exact⟨M',jE<|C_ (jd ho) (o8 h0.ws.ob hm) (qe hg) h1,h2,h3⟩
def TF(h:WR w a c b m x M)(k:Int)(h0:o env M= .ok (.ref w) M)(he:e env M= .ok [.int k] M):jY w a c b m env (aG (cM cT CZ iG (bR o)<|cB e) env M) M (c7 m (x.sp k)<|.done<|x.sp k):=by
 refine⟨λy q=>?_,λq=>?_⟩
 .let⟨q1,q2⟩:=j8 q;cases q2;exact⟨_,Dc h.ws.ob k q1 h0 he,h.U7 k,(gG.set w M _).qj⟩
 .by_cases z:(x.sp k).s<=m
  .rw[jm z]at q;cases q
  .exact(Dd h.ws.ob k (by have:(x.sp k).s=x.s+k:=rfl;omega) h0 he).w4
def jY.seq{f g:S3}{g1:G7}{k:W7->G7}(h1:jY w a c b m env (f env M) M g1)(h2:∀y M1,g1= .done y->WR w a c b m y M1->jY w a c b m env (g env M1) M1 (k y)):jY w a c b m env (Zx f g env M) M (g1.on k):=by
 cases g1 with
 |out=>exact⟨λy e=>(by cases e),λe=>(by cases e)⟩|over=>exact⟨λy e=>(by cases e),λ_=>(h1.2 aaD).seq⟩|done y=>let⟨M1,e1,w1,gr⟩:=h1.1 y aaD;let⟨k1,k2⟩:=h2 y M1 aaD w1;refine⟨λz e=>?_,λe=>bV.to e1<|(k2 e).zB gr⟩;let⟨M2,e2,w2,KP⟩:=k1 z e;exact⟨M2,(Zm e1).trans e2,w2,gr.trans KP⟩
def jY.grow{r:O3}{M1:c5}(gr:jH w a c b M M1)(h:jY w a c b m env r M1 g):jY w a c b m env r M g:=by refine⟨λy e=>?_,λe=>(h.2 e).zB gr⟩;let⟨M2,e2,w2,KP⟩:=h.1 y e;exact⟨M2,e2,w2,gr.trans KP⟩
def KS{t:Sm}{ga gb:G7}(ht:t.ok)(hx:F7 x)(h:WR w a c b m x M)(hs:x.s<=m)(ha:∀M1,(x.sp<|(t.cost:Int)+1).s<=m->WR w a c b m (x.sp<|(t.cost:Int)+1) M1->0<x.v t->bY w a c b m (rec 0 [.ref w,.U A] M1) M1 ga)(hb:∀M1,(x.sp<|(t.cost:Int)+1).s<=m->WR w a c b m (x.sp<|(t.cost:Int)+1) M1->¬0<x.v t->bY w a c b m (rec 0 [.ref w,.U B] M1) M1 gb):
  bY w a c b m (aK 2 2 (KH rec) [.ref w,jX t A B] M) M (c7 m (x.sp<|(t.cost:Int)+1)<|if 0<x.v t then ga else gb.on λy=>c7 m (y.sp 1)<|.done<|y.sp 1):=by
 refine gW.def (env:=[My w,O<|jX t A B]) h<|jY.r (env:=[My w,O<|jX t A B]) ?_;unfold KH;have AU:=ZpO ht hx h hs (o:=Zc 0) (g:=e2 Zj (Zc 1) nN) (env:=[My w,O<|jX t A B]) aaD aaD;by_cases hc:x.s+(t.cost:Int)+1<=m
 .let⟨M1,e1,g1,w1⟩:=AU.1 hc;have r9:(x.sp<|(t.cost:Int)+1).s<=m:=by show x.s+((t.cost:Int)+1)<=m;omega
  rw[jm r9];by_cases q:0<x.v t
  .rw[f_ q];rw[qc q]at e1;rw[eN e1];exact jY.grow g1.qj<|bY.se (ha M1 r9 w1 q) w1 aaE aaD aaD
  .rw[i6 q];rw[pf q]at e1;rw[fU e1];exact jY.grow g1.qj<|jY.seq (bY.se (hb M1 r9 w1 q) w1 aaE aaD aaD) λy M2 _ w2=>TF w2 1 aaD aaD
 .rw[qd (by show m<x.s+((t.cost:Int)+1);omega)];refine⟨λy e=>(by cases e),λ_=>?_⟩;let⟨k,M',e,r⟩:=AU.2 c8;exact⟨k,M',by rw[aQ,e],r⟩
abbrev q9:E3:=cM cT KG Ce (bR<|Zc 0) ie
abbrev ql(F:F3):S3:=Zx (aG<|cM cT GTH F (bR<|Zc 0) ij)<|aG<|cM cT CZ iG (bR<|Zc 0) lj
abbrev Dg:S3:=aG<|cM cT CZ iG (bR<|Zc 0) lj
def ZoS{t:Sm}{A r:Ds}(ht:t.ok):∀(n K:Nat),n<=K->(∀k,k<n->∀x1 M1,F7 x1->WR w a c b m x1 M1->x1.s<=m->bF m k A x1≠ .out->bY w a c b m (F [.ref w,.U A.enc] M1) M1 (bF m k A x1))->∀(x:W7) (M:c5),F7 x->WR w a c b m x M->x.s<=m->bF m n (.ot t A r) x≠ .out ->
  (bF m n (.ot t A r) x= .over/\bV (P4 w a c b) M (Zx (jl q9 (ql F) K) Dg [My w,O<|cV t A.enc] M))\/
  (∃y k M',k<n/\bF m n (.ot t A r) x=bF m k r y/\Zx (jl q9 (ql F) K) Dg [My w,O<|cV t A.enc] M= .nx [My w,O<|cV t A.enc] M'/\WR w a c b m y M'/\jH w a c b M M'/\F7 y/\y.s<=m):=by
 intro n
 induction n with
 |zero=>intro K _ _ x M _ _ _ h;exact oz aaD h|succ n ih=>
  intro K hK hA x M hx h hs oq;obtain⟨K,rfl⟩:∃k,K=k+1:=⟨K-1,c8⟩;have AU:=ZpO ht hx h hs (o:=Zc 0) (g:=e2 Zj (Zc 1) nN) (env:=[My w,O<|cV t A.enc]) aaD aaD;have eg:bF m (n+1) (.ot t A r) x=c7 m (x.sp<|(t.cost:Int)+1) (if 0<x.v t then(bF m n A<|x.sp<|(t.cost:Int)+1).on λy=>c7 m (y.sp 1) (bF m n (.ot t A r)<|y.sp 1)else c7 m (x.sp<|(t.cost:Int)+1+1)<|bF m n r<|x.sp<|(t.cost:Int)+1+1):=rfl;rw[eg]at oq |-;by_cases hc:x.s+(t.cost:Int)+1<=m
  .let⟨M1,e1,g1,w1⟩:=AU.1 hc;have e1:q9 [My w,O<|cV t A.enc] M= .ok (.bl<|decide<|0<x.v t) M1:=e1;have r9:(x.sp<|(t.cost:Int)+1).s<=m:=by show x.s+((t.cost:Int)+1)<=m;omega
   have x8:=hx.sp (k:=(t.cost:Int)+1) c8;rw[jm r9]at oq |-;by_cases q:0<x.v t
   .rw [f_ q]at oq |-;rw[qc q]at e1;have hgA:bF m n A (x.sp ((t.cost:Int)+1))≠ .out:=λe=>by rw[e]at oq;exact oq aaD
    have C6:=hA n (Ef n) _ M1 x8 w1 r9 hgA;have hb:jY w a c b m [My w,O<|cV t A.enc] (ql F [My w,O<|cV t A.enc] M1) M1 ((bF m n A<|x.sp<|(t.cost:Int)+1).on λy=>c7 m (y.sp 1)<|.done<|y.sp 1):=jY.seq (bY.se C6 w1 aaE aaD aaD) λy M2 _ w2=>TF w2 1 aaD aaD;have AaI:bV (P4 w a c b) M1 (ql F [My w,O<|cV t A.enc] M1)->bV (P4 w a c b) M (Zx (jl q9 (ql F)<|K+1) Dg [My w,O<|cV t A.enc] M):=λhx=>by let⟨k,M',e,r⟩:=bV.zB g1.qj hx;refine bV.seq ⟨k,M',?_,r⟩;rw[oJ,e1];simp only[e]
    cases hg:bF m n A (x.sp<|(t.cost:Int)+1)with
    |out=>exact oz hg hgA|over=>rw[hg]at hb;exact .inl ⟨rfl,AaI<|hb.2 aaD⟩|done y=>
     rw[hg]at hb oq;have hb:jY w a c b m [My w,O<|cV t A.enc] (ql F [My w,O<|cV t A.enc] M1) M1 (c7 m (y.sp 1)<|.done<|y.sp 1):=hb;have oq:c7 m (y.sp 1) (bF m n (.ot t A r)<|y.sp 1)≠ .out:=oq;show(c7 m (y.sp 1) (bF m n (.ot t A r)<|y.sp 1)= .over/\_)\/(∃z k M',k<n+1/\c7 m (y.sp 1) (bF m n (.ot t A r)<|y.sp 1)=bF m k r z/\_);by_cases hy:(y.sp 1).s<=m
     .rw[jm hy]at hb oq |-;let⟨M2,e2,w2,g2⟩:=hb.1 _ aaD;let⟨k1,k2⟩:=KO n A _ _ hg x8 r9;have ew:Zx (jl q9 (ql F) (K+1)) Dg [My w,O (cV t A.enc)] M=Zx (jl q9 (ql F) K) Dg [My w,O (cV t A.enc)] M2:=by
       have:jl q9 (ql F) (K+1) [My w,O<|cV t A.enc] M=jl q9 (ql F) K [My w,O<|cV t A.enc] M2:=by rw[oJ,e1];simp only[e2]
       rw[Zx,Zx,this]
      have gr:=g1.qj.trans g2;rcases ih K c8 (λk hk=>hA k c8) (y.sp 1) M2 (k1.sp aaE) w2 hy oq with⟨o1,o2⟩|⟨z,k,M',o1,o2,o3,o4,o5,o6,o7⟩
      .exact .inl ⟨o1,by rw[ew];exact o2.zB gr⟩
      .exact .inr ⟨z,k,M',c8,o2,ew.trans o3,o4,gr.trans o5,o6,o7⟩
     .have hy:m<(y.sp 1).s:=by omega
      rw[qd hy]at hb |-;exact .inl ⟨rfl,AaI (hb.2 aaD)⟩
   .rw[i6 q]at oq |-;rw[pf q]at e1;have ew:jl q9 (ql F) (K+1) [My w,O (cV t A.enc)] M= .nx [My w,O (cV t A.enc)] M1:=by rw[oJ,e1]
    have es:(x.sp<|(t.cost:Int)+1).sp 1=x.sp ((t.cost:Int)+1+1):=congrArg (λz=>W7.mk x.n x.c x.o z)<|vN x.s ((t.cost:Int)+1) 1;have u7:=TF (env:=[My w,O<|cV t A.enc]) (o:=Zc 0) (e:=Za nN Ze) w1 1 aaD aaD;rw[es]at u7;by_cases hy:(x.sp<|(t.cost:Int)+1+1).s<=m
    .rw[jm hy]at u7 |-;let⟨M2,e2,w2,g2⟩:=u7.1 _ aaD;exact .inr ⟨_,n,M2,Ef n,rfl,(Zm ew).trans e2,w2,g1.qj.trans g2,hx.sp c8,hy⟩
    .rw[qd c8]at u7 |-;exact .inl ⟨rfl,bV.to ew ((u7.2 aaD).zB g1.qj)⟩
  .rw[qd (by show m<x.s+((t.cost:Int)+1);omega)];refine .inl ⟨rfl,bV.seq ?_⟩;let⟨k,M',e,r⟩:=AU.2 c8;have e:q9 [My w,O<|cV t A.enc] M= .exc ⟨uV,.ref k⟩ M':=e;exact⟨k,M',by rw[oJ,e],r⟩
end
variable{j q:Nat}{x0:oS}
section
variable {w a c b:Nat} {m:Int} {x:W7} {M:c5}
def Ztt{i:I3}{g:G3}{u:S3}{M:c5}(h:i env M= .ok it M'):JV i g u env M=dF it g u it.items env M':=by rw[JV,h]
abbrev dB(j:Nat):S3:=aG<|cM cT DOD (Zn (j+1) 1) (bR<|Zc 0)<|cB mT
def wV(w a c b:Nat)(m:Int)(W:oS)(r:O3)(M:c5)(g:G7):Prop:=(∀y,g= .done y->∃M' x',r= .nx [My w,W,x'] M'/\WR w a c b m y M'/\jH w a c b M M')/\(g= .over->bV (P4 w a c b) M r)
def KU(hi:it.lock=Yj){M1:c5}(hx:WR w a c b m x M)(h:Zn (j+1) 1 [.ref w,d] M= .ok .Z M1)(gr:jH w a c b M M1)(k:wV w a c b m W (dF it (bK 2) (dB j) ds [My w,W,O d] M1) M1 g):wV w a c b m W (dF it (bK 2) (dB j) (d::ds) [My w,W,x0] M) M g:=by
 have zC:i8 it M=true:=by unfold i8;rw[hi]
 have he:dB j [My w,W,O d] M= .nx [My w,W,O d] M1:=jE<|C_ (jd aaD) (o8 hx.ws.ob aaE) (qe aaD) h;have e:dF it (bK 2) (dB j) (d::ds) [My w,W,x0] M=dF it (bK 2) (dB j) ds [My w,W,O d] M1:=by rw[oH,f_ zC];simp only[bK,lW,lX,he]
 rw[e];refine⟨λy q=>?_,λq=>(k.2 q).zB gr⟩;let⟨M',x',h1,h2,h3⟩:=k.1 y q;exact⟨M',x',h1,h2,gr.trans h3⟩
def Nk(hi:it.lock=Yj)(hx:WR w a c b m x M)(h:dU (P4 w a c b) M (Zn (j+1) 1 [.ref w,d] M))(hg:g= .over):wV w a c b m W (dF it (bK 2) (dB j) (d::ds) [My w,W,x0] M) M g:=by
 subst hg;refine⟨λy q=>(by cases q),λ_=>?_⟩;have zC:i8 it M=true:=by unfold i8;rw[hi]
 let⟨k,M',e,r⟩:=h;have he:dB j [My w,W,O d] M= .exc ⟨uV,.ref k⟩ M':=Kt<|Kx (jd aaD) (o8 hx.ws.ob aaE) (qe aaD) e;refine⟨k,M',?_,r⟩;rw[oH,f_ zC];simp only[bK,lW,lX,he]
def TJ(hi:it.lock=Yj){x1:W7}(hx:WR w a c b m x M)(h:bY w a c b m (Zn (j+1) 1 [.ref w,d] M) M (c7 m x1<|.done x1))(k:x1.s<=m->∀M1,WR w a c b m x1 M1->wV w a c b m W (dF it (bK 2) (dB j) ds [My w,W,O d] M1) M1 g):
  wV w a c b m W (dF it (bK 2) (dB j) (d::ds) [My w,W,x0] M) M (c7 m x1 g):=by
 by_cases q:x1.s<=m
 .rw[jm q]at h |-;let⟨M1,h1,h2,h3⟩:=h.1 _ aaD;exact KU hi hx h1 h3 (k q M1 h2)
 .rw[qd c8]at h |-;exact Nk hi hx (h.2 aaD) aaD
def KW{A:Ds}(hx:WR w a c b m x M)(h:wV w a c b m (O<|.U A.enc) (dF ⟨A.enc,Yj⟩ (bK 2) (dB j) A.enc [My w,O<|.U A.enc,Yj] M) M g):bY w a c b m (Zn (j+2) 0 [.ref w,.U A.enc] M) M g:=by refine gW.def (body:=RT<|Zn<|j+1) (ps:=2) (N:=3) (ds:=[.ref w,.U A.enc]) (env:=[My w,O<|.U A.enc,Yj]) hx ?_;unfold RT;rw[Ztt (it:=⟨A.enc,Yj⟩) (M':=M) aaD];exact⟨λy q=>let⟨M',x',h1,h2⟩:=h.1 y q;⟨_,M',h1,h2⟩,h.2⟩
def K0{t:Sm}(hx:WR w a c b m x M)(h:bY w a c b m (aK 2 2 (KH<|Zn<|j+2) [.ref w,jX t A B] M) M g):bY w a c b m (Zn (j+3+1) 1 [.ref w,jX t A B] M) M g:=by refine gW.def (body:=oW<|Zn<|j+3) (ps:=2) (N:=3) (ds:=[.ref w,jX t A B]) (env:=[My w,O<|jX t A B,Yj]) hx ?_;unfold oW;rw[eN<|Nj aaD];exact bY.st (F:=Zn (j+3) 2) (ds:=[jX t A B]) h hx aaE aaD aaD
def Agr{t:Sm}{y:W7}(hx:WR w a c b m x M)(h:Zx (jl q9 (ql<|Zn (j+2) 0) 1000000) Dg [My w,O<|cV t A] M= .nx [My w,O<|cV t A] M')(hy:WR w a c b m y M')(g:jH w a c b M M'):∃M2,Zn (j+3+1) 1 [.ref w,cV t A] M= .ok .Z M2/\WR w a c b m y M2/\jH w a c b M M2:=by
 have c1:bY w a c b m (aK 2 2 (RQ<|Zn<|j+2) [.ref w,cV t A] M) M (.done y):=gW.def (env:=[My w,O<|cV t A]) hx ⟨λz q=>by cases q;exact⟨_,M',h,hy,g⟩,λq=>(by cases q)⟩;have c2:bY w a c b m (Zn (j+3+1) 1 [.ref w,cV t A] M) M (.done y):=by refine gW.def (body:=oW<|Zn<|j+3) (ps:=2) (N:=3) (ds:=[.ref w,cV t A]) (env:=[My w,O<|cV t A,Yj]) hx ?_;unfold oW;rw[fU x6,eN<|Nj aaD];exact bY.st (F:=Zn (j+3) 3) (ds:=[cV t A]) c1 hx aaE aaD aaD
 exact c2.1 y aaD
def Ags{t:Sm}(hx:WR w a c b m x M)(h:bV (P4 w a c b) M (Zx (jl q9 (ql<|Zn (j+2) 0) 1000000) Dg [My w,O<|cV t A] M)):dU (P4 w a c b) M (Zn (j+3+1) 1 [.ref w,cV t A] M):=by
 have c1:bY w a c b m (aK 2 2 (RQ<|Zn<|j+2) [.ref w,cV t A] M) M .over:=gW.def (env:=[My w,O<|cV t A]) hx ⟨λz q=>(by cases q),λ_=>h⟩;have c2:bY w a c b m (Zn (j+3+1) 1 [.ref w,cV t A] M) M .over:=by refine gW.def (body:=oW<|Zn<|j+3) (ps:=2) (N:=3) (ds:=[.ref w,cV t A]) (env:=[My w,O<|cV t A,Yj]) hx ?_;unfold oW;rw[fU x6,eN<|Nj aaD];exact bY.st (F:=Zn (j+3) 3) (ds:=[cV t A]) c1 hx aaE aaD aaD
 exact c2.2 aaD
def TQ(h:3*gR p q<=j):3*p<=j/\3*q<=j:=⟨Yx (NI 3<|O7 p q) h,Yx (NI 3<|Wg p q) h⟩
def mx4{z:Nat}(h:3*(z+1)<=j):∃k,j=k+3/\3*z<=k:=⟨j-3,(Nat.sub_add_cancel<|Yx (Nat.le_add_left 3<|3*z) h).symm,Nat.le_sub_of_add_le h⟩
def Zx0(hm:m<=1000):∀(N n:Nat),n<=N->n<=1000000->∀(d:Ds) (x:W7) (M:c5) (j:Nat) (it:iD) (W x0:oS),it.lock=Yj->d.ok->3*d.dep<=j->F7 x->WR w a c b m x M->x.s<=m->bF m n d x≠ .out ->
  wV w a c b m W (dF it (bK 2) (dB j) d.enc [My w,W,x0] M) M (bF m n d x):=by
 intro N
 induction N with
 |zero=>intro n hn _ d x M j it W x0 _ _ _ _ _ _ h;obtain rfl:n=0:=(by omega);exact oz aaD h|succ N IH=>
  intro n hn Kc d x M j it W x0 hi hd hj hx h hs oq;cases n with
  |zero=>exact oz aaD oq|succ n=>
   have ih:=IH n c8 c8;cases d with
   |nil=>refine⟨λy q=>?_,λq=>(by cases q)⟩;have q:G7.done x= .done y:=q;cases q;refine⟨M,x0,?_,h,.rfl⟩;show dF it (bK 2) (dB j) [] _ _=_;rw[pW,f_ (by unfold i8;rw[hi])]|set y t r=>refine TJ hi h (Agp _ hd.2.1 hx h hs hm) λq M1 w1=>ih r _ M1 j it W _ hi hd.2.2 hj (hx.set y t) w1 q λz=>oq ?_;show c7 m _ _=_;rw[jm q,z]|put t u r=>refine TJ hi h (Agq _ hd.1 hd.2.1 hx h hs hm) λq M1 w1=>ih r _ M1 j it W _ hi hd.2.2 hj (hx.put t u) w1 q λz=>oq ?_;show c7 m _ _=_;rw[jm q,z]|tell t r=>refine TJ hi h (Zxm _ hd.1 hx h hs hm) λq M1 w1=>ih r _ M1 j it W _ hi hd.2 hj (hx.tell t) w1 q λz=>oq ?_;show c7 m _ _=_;rw[jm q,z]
   | bM t A B r=>
    have hj:3*gR (gR A.dep B.dep+1) r.dep<=j:=hj;let⟨K2,Lc⟩:=TQ hj;let⟨j,rfl,hz⟩:=mx4 K2;have x8:=hx.sp (k:=(t.cost:Int)+1) c8;have zD:∀(E:Ds),E.ok->3*E.dep<=j->∀M1,(x.sp<|(t.cost:Int)+1).s<=m->WR w a c b m (x.sp<|(t.cost:Int)+1) M1->bF m n E (x.sp<|(t.cost:Int)+1)≠ .out->bY w a c b m (Zn (j+2) 0 [.ref w,.U E.enc] M1) M1 (bF m n E<|x.sp<|(t.cost:Int)+1):=λE hE hEj M1 r_ w1 ho=>KW w1<|ih E _ M1 j ⟨E.enc,Yj⟩ _ Yj aaD hE hEj x8 w1 r_ ho;have oq:c7 m (x.sp<|(t.cost:Int)+1) (if 0<x.v t then(bF m n A<|x.sp<|(t.cost:Int)+1).on λy=>bF m n r y else(bF m n B<|x.sp<|(t.cost:Int)+1).on λy=>c7 m (y.sp 1)<|bF m n r<|y.sp 1)≠ .out:=oq;show wV w a c b m W _ M (c7 m (x.sp<|(t.cost:Int)+1)<|if 0<x.v t then(bF m n A<|x.sp<|(t.cost:Int)+1).on λy=>bF m n r y else(bF m n B<|x.sp<|(t.cost:Int)+1).on λy=>c7 m (y.sp 1)<|bF m n r<|y.sp 1);have rest:∀(y:W7) (M1:c5),F7 y->y.s<=m->WR w a c b m y M1->bF m n r y≠ .out->wV w a c b m W (dF it (bK 2) (dB<|j+3) r.enc [My w,W,O<|jX t A.enc B.enc] M1) M1 (bF m n r y):=λy M1 hy Ll w1 ho=>ih r y M1 (j+3) it W _ hi hd.2.2.2 Lc hy w1 Ll ho;by_cases hc:(x.sp<|(t.cost:Int)+1).s<=m
    .rw[jm hc]at oq |-;by_cases q:0<x.v t
     .rw[f_ q]at oq |-;have hoA:bF m n A (x.sp ((t.cost:Int)+1))≠ .out:=λz=>oq (by rw[z];rfl);have sT:=KS (rec:=Zn<|j+2) (t:=t) (A:=A.enc) (B:=B.enc) (ga:=bF m n A<|x.sp<|(t.cost:Int)+1) (gb:=.out) hd.1 hx h hs (λM1 r_ w1 _=>zD A hd.2.1 (TQ hz).1 M1 r_ w1 hoA) λ_ _ _ z=>oz q z;rw[jm hc,f_ q]at sT;have sx:=K0 h sT;cases hg:bF m n A (x.sp<|(t.cost:Int)+1)with
      |out=>exact oz hg hoA|over=>rw[hg]at sx;exact Nk hi h (sx.2 aaD) rfl|done y=>rw[hg]at sx oq;let⟨M1,e1,w1,g1⟩:=sx.1 y aaD;let⟨k1,k2⟩:=KO n A _ _ hg x8 hc;exact KU hi h e1 g1<|rest y M1 k1 k2 w1 oq
     .rw[i6 q]at oq |-;have hoB:bF m n B (x.sp ((t.cost:Int)+1))≠ .out:=λz=>oq (by rw[z];rfl);have sT:=KS (rec:=Zn<|j+2) (t:=t) (A:=A.enc) (B:=B.enc) (ga:=.out) (gb:=bF m n B<|x.sp<|(t.cost:Int)+1) hd.1 hx h hs (λ_ _ _ z=>oz z q) λM1 r_ w1 _=>zD B hd.2.2.1 (TQ hz).2 M1 r_ w1 hoB;rw[jm hc,i6 q]at sT;have sx:=K0 h sT;cases hg:bF m n B (x.sp<|(t.cost:Int)+1)with
      |out=>exact oz hg hoB|over=>rw[hg]at sx;exact Nk hi h (sx.2 aaD) rfl|done y=>rw[hg]at sx oq;let⟨k1,k2⟩:=KO n B _ _ hg x8 hc;have sx:bY w a c b m _ M (c7 m (y.sp 1)<|.done<|y.sp 1):=sx;have oq:c7 m (y.sp 1) (bF m n r<|y.sp 1)≠ .out:=oq;exact TJ hi h sx λz M1 w1=>rest (y.sp 1) M1 (k1.sp aaE) z w1 λe=>oq (by rw[jm z,e])
    .have sT:=KS (rec:=Zn<|j+2) (t:=t) (A:=A.enc) (B:=B.enc) (ga:=.out) (gb:=.out) hd.1 hx h hs (λ_ z _ _=>oz z hc) λ_ z _ _=>oz z hc;rw[qd c8]at sT |-;exact Nk hi h ((K0 h sT).2 aaD) aaD
   | ot t A r=>
    have hj:3*gR (A.dep+1) r.dep<=j:=hj;let⟨K2,Lc⟩:=TQ hj;let⟨j,rfl,hz⟩:=mx4 K2;have hA:∀k,k<n+1->∀x1 M1,F7 x1->WR w a c b m x1 M1->x1.s<=m->bF m k A x1≠ .out->bY w a c b m (Zn (j+2) 0 [.ref w,.U A.enc] M1) M1 (bF m k A x1):=λk hk x1 M1 f1 w1 s1 ho=>KW w1<|IH k c8 c8 A x1 M1 j ⟨A.enc,Yj⟩ _ Yj aaD hd.2.1 hz f1 w1 s1 ho;rcases ZoS (F:=Zn (j+2) 0) (r:=r) hd.1 (n+1) 1000000 Kc hA x M hx h hs oq with⟨o1,o2⟩|⟨y,k,M',o1,o2,o3,o4,o5,o6,o7⟩
    .exact Nk hi h (Ags h o2) o1
    .let⟨M2,e2,w2,g2⟩:=Agr h o3 o4 o5;rw[o2]at oq |-;exact KU hi h e2 g2 (IH k c8 c8 r y M2 (j+3) it W _ hi hd.2.2 Lc o6 w2 o7 oq)
end
def zl(names:k9)(gs:l8):l9:=(names.zip gs).map λp=>(.inr p.1,.int p.2)
theorem Zl7:∀(names:k9) (gs:l8),kJ (yF (names.map D.str)<|gs.map D.int)=O (zl names gs)
 |[],_=>rfl|_::_,[]=>rfl|x::names,g::gs=>by show(kJ<|yF (names.map D.str)<|gs.map D.int).map (λl=>((.inr x,.int g)::l:l9))=_;rw[Zl7 names gs];rfl
theorem Zne:∀(l:List (i4×Int)) (acc:l9),uM acc->uM ((l.map λp=>((.inr p.1,.int p.2):aH×D)).foldl (λacc p=>oI p.1 p.2 acc) acc)
 |[],_,h=>h|_::l,_,h=>Zne l _<|IL h _ _
def ZwH(names:k9)(gs:l8):uM (dictOf<|zl names gs):=Zne _ [] ZoW
def Zu4(names:k9)(gs:l8):b9 (zl names gs)<=b9 names:=by unfold zl;rw[Y3,List.length_zip];omega
def ZxM(names:k9)(gs:l8)(h:b9 names<=1000)(M:c5):Q0 (names.map D.str) (gs.map D.int) M= .ok (.ref<|b9 M) (M++[.j3<|dictOf<|zl names gs]):=by unfold Q0;rw[Zl7];exact f_<|Yx (Zu4 names gs)<|Yx h aaE
def Nm{G:c5}{f:i4}{v:D}{fs:xi}(h:b9 fs<1000):QZ cT f v (.ref<|b9 M) (M++ .ins cT fs::G)= .ok .Z (M++ .ins cT (v8 f v fs)::G):=by rw[X8,cW];have e:=JM M (.ins cT fs::G) 0<|.ins cT<|v8 f v fs;rw[Wi]at e;exact(f_ (⟨rfl,h⟩:cT=cT/\fs.length<1000)).trans (by rw[e];rfl)
def ZsK(h1:M'.take (b9 M)≠M)(h2:(M'.take<|b9 M).all (v5<|b9 M)=false):tidy M d M'= .ok d M':=by unfold tidy;rw[pf h1,h2,Wl,Eh];rfl
def ZwO(M:c5)(a:Nat)(m:Int):Cd [.ref<|b9 M,.ref a,.int m] (M++[.ins cT []])= .ok .Z (M++[dH a (b9 M+1) (b9 M+2) 0 m,.j3 [],.L []]):=by
 refine(yt (M':=M++[dH a (b9 M+1) (b9 M+2) 0 m,.j3 [],.L []]) (env:=[My<|b9 M,My a,e5 m]) (env':=[My<|b9 M,My a,e5 m]) ?_).trans ?_
 .unfold Hb;refine(Zm (M':=M++[.ins cT [(qZ,.ref a)]])<|jE<|Zg aaD aaD<|Nm aaE).trans ?_;refine(Zm (M':=M++[.ins cT [(qZ,.ref a),(uU,.ref<|b9 M+1)],.j3 []])<|jE<|Zg (M1:=M++[.ins cT [(qZ,.ref a)],.j3 []]) (a:=.ref<|b9 M+1) ?_ aaD<|Nm j0).trans ?_
  .show R3.ok (D.ref<|b9<|M++[_]) ((M++[_])++[_])=_;rw[Y7,Ye];rfl
  refine(Zm (M':=M++[.ins cT [(qZ,.ref a),(uU,.ref<|b9 M+1),(zu,.ref<|b9 M+2)],.j3 [],.L []])<|jE<|Zg (M1:=M++[.ins cT [(qZ,.ref a),(uU,.ref<|b9 M+1)],.j3 [],.L []]) (a:=.ref<|b9 M+2) ?_ aaD<|Nm j0).trans ?_;refine(jy aaD aaD).trans ?_;rw[Y7,Ye];rfl;exact(Zm<|jE<|Zg aaD aaD<|Nm j0).trans (jE<|Zg aaD aaD<|Nm<|by simp[v8])
 .have hl:b9 (M++[MO.ins cT []])=b9 M+1:=by simp
  have ht:(M++[dH a (b9 M+1) (b9 M+2) 0 m,.j3 [],.L []]).take (b9<|M++[MO.ins cT []])=M++[dH a (b9 M+1) (b9 M+2) 0 m]:=by rw[hl,List.take_append,Aa c8];simp
  refine ZsK ?_ ?_
  .rw[ht];intro e;have:=List.append_cancel_left e;simp at this
  .rw[ht,List.all_append,hl];have hb:v5 (b9 M+1) (dH a (b9 M+1) (b9 M+2) 0 m)=false:=by
    show cu (b9 M+1) [.ref a,.ref<|b9 M+1,.ref<|b9 M+2,.int 0,.int m]=false;simp[cu,below]
   simp[hb]
def refuse_eq{ns:h8}{gs:h8}(h:b9 gs=b9 ns)(M:c5):Cg [.U [.U ns,.U ds],.U gs] M= .ok .Z M:=by refine(yt (M':=M) (env:=[O<|.U [.U ns,.U ds],O<|.U gs]) (env':=[O<|.U [.U ns,.U ds],O<|.U gs]) ?_).trans (Mt aaD);unfold Hc;refine qi<|Zg (M1:=M) (M2:=M) (a:=.int (b9 gs:Int)) (b:=.int (b9 ns:Int)) aaD aaD ?_;rw[h];show(match O (decide<|(b9 ns:Int)=b9 ns)with|some r=>R3.ok (D.bl<|!r) M|none=>R3.bad)=_;rw[qc aaD];rfl
def x7(names:k9)(gs:l8):W7:=⟨dictOf<|zl names gs,[],[],2*(b9 gs:Int)⟩
theorem ZlT:∀(l:l9) (acc:l9),b9 (l.foldl (λacc p=>oI p.1 p.2 acc) acc)<=b9 acc+l.length
 |[],_=>by simp|p::l,acc=>by have h:=ZlT l<|oI p.1 p.2 acc;have k:=Tg p.1 p.2 acc;rw[qx,Yh];omega
def Agt{names:k9}(gs:l8)(h:b9 names<=6):F7 (x7 names gs):=by
 have h1:b9 (dictOf<|zl names gs)<=b9 (zl names gs):=by have:=ZlT (zl names gs) [];rwa[gw,qz]at this
 have h2:=Zu4 names gs;exact⟨ZwH names gs,ZoW,by show(b9 (dictOf<|zl names gs):Int)<=2*(b9 gs:Int)+100;omega,by show((0:Nat):Int)<=2*(b9 gs:Int)+100;omega,by show((0:Nat):Int)<=2*(b9 gs:Int)+100;omega,λd hd=>(by cases hd)⟩
variable{gs:l8}
def Lm{names:k9}(Dh:b9 gs=b9 names)(hnl:b9 names<=6){ds:Ds}(hd:ds.ok)(sx:ds.dep<=3)(hm:m<=1000)(hn:n<=1000000)(oq:bF m n ds (x7 names gs)≠ .out)(M:c5):
  ((x7 names gs).s<=m->∀y,bF m n ds (x7 names gs)= .done y->∃M' q,Ci [fB names ds,.U<|gs.map D.int,.int m] M= .ok (.U [.ref q,.int y.s]) M'/\M'[q]?=O (.L y.o)/\M.length<=q/\M.length<=b9 M'/\∀i,i<b9 M->M'[i]?=M[i]?)/\
  ((m<(x7 names gs).s\/bF m n ds (x7 names gs)= .over)->dU (λ_=>True) M (Ci [fB names ds,.U<|gs.map D.int,.int m] M)):=by
 let S:=M++[MO.j3<|dictOf<|zl names gs]
 let w:=S.length
 have hw:w=b9 M+1:=by simp[w,S]
 let M1:=S++[dH (b9 M) (w+1) (w+2) 0 m,.j3 [],.L []]
 have w0:WR w (b9 M) (w+1) (w+2) m ⟨dictOf<|zl names gs,[],[],0⟩ M1:=⟨⟨cW S _ _,h_ (cW M _ []) _,v6 S [dH (b9 M) (w+1) (w+2) 0 m,.j3 [],.L []] 1,c8⟩,v6 S [dH (b9 M) (w+1) (w+2) 0 m,.j3 [],.L []] 2⟩
 let env:oS->Zz:=λz=>[O<|fB names ds,O<|.U<|gs.map D.int,e5 m,z]
 have s0:aG iF (env Yj) M= .nx (env Yj) M:=by refine jE (d:=.Z) ?_;show(cB _ (env Yj) M).bind _=_;rw[qe (d:=[fB names ds,.U<|gs.map D.int]) (M':=M) aaD,R3.rm];exact refuse_eq (by simp[Dh]) M
 have mk:JT cT Cd eA (env Yj) M= .ok (.ref w) M1:=by have hz:JX (e2 Zj (Zc 0) nL) (Zc 1) (env Yj) M= .ok (.ref<|b9 M) S:=ZxM names gs c8 M;have hi:=ZwO S (b9 M) m;show(Za _ _ _ M).bind _=_;rw[Zk hz<|Zk (M2:=S) (d:=.int m) aaD aaD,R3.rm];show(match Cd [.ref<|b9 S,.ref<|b9 M,.int m] (S++[.ins cT []])with| .ok .Z M2=>R3.ok (D.ref<|b9 S) M2|_=>.bad)=_;rw[hi]
 have s1:jb (aD 3<|JT cT Cd eA) (env Yj) M= .nx (env<|My w) M1:=Tz<|bU mk;have rl:b9 M<=b9 M1:=by simp only[M1,S,Ye,Yh,gw];omega
 have xA:∀i,i<b9 M->M1[i]?=M[i]?:=λi hi=>by show((M++[_])++_)[i]?=_;rw[Y7,Y4 hi]
 have p4:∀i,i<b9 M->P4 w (b9 M) (w+1) (w+2) i:=λi hi=>⟨c8,c8,c8,c8⟩;have sp:=TF (env:=env<|My w) (o:=Zc 3) (e:=Za gu Ze) w0 (2*(b9 gs:Int)) aaD (Zk (d:=.int<|2*(b9 gs:Int)) (M1:=M1) (by refine Zg (M2:=M1) (b:=.int (b9 gs:Int)) aaD (eO aaD<|by rw[Ay,Y3]) ?_;rw[Av,f_<|Ms aaE]) aaD);have ex:W7.sp ⟨dictOf<|zl names gs,[],[],0⟩ (2*(b9 gs:Int))=x7 names gs:=by show W7.mk _ _ _ _=W7.mk _ _ _ _;congr 1;exact Wr _
 rw[ex]at sp;have body:jY w (b9 M) (w+1) (w+2) m (env<|My w) (Zx (aG<|cM cT CZ iG (bR<|Zc 3) eD) (aG<|cM cT GTH RV (bR<|Zc 3) ik) (env<|My w) M1) M1 ((c7 m (x7 names gs)<|.done<|x7 names gs).on λy=>bF m n ds y):=jY.seq sp λy M2 hy w2=>by let⟨q1,q2⟩:=j8 hy;cases q2;exact bY.se (F:=RV) (ds:=[.U ds.enc]) (KW w2<|Zx0 hm n n (Yn _) hn ds (x7 names gs) M2 11 ⟨ds.enc,Yj⟩ _ Yj aaD hd c8 (Agt gs hnl) w2 q1 oq) w2 aaE aaD aaD
 refine⟨λhs y hy=>?_,λh=>?_⟩
 .have hb:=body.1 y (by rwa[jm hs]);let⟨M2,p0,w2,g2⟩:=hb;have i7:b9 M<=b9 M2:=Yx rl g2.len;refine⟨M2,w+2,?_,w2.nb,c8,i7,λi hi=>(g2.old i (Yy hi rl)<|p4 i hi).trans<|xA i hi⟩;refine(iR (M':=M2) (d:=.U [.ref<|w+2,.int y.s]) (env:=env Yj) ?_).trans ?_
  .unfold KJ;refine(Zm s0).trans ((Zm s1).trans ?_);let⟨M3,C7,w3,g3⟩:=sp.1 _<|jm hs;have e4:=p0;rw[Zm C7]at e4;exact(Zm C7).trans ((Zm e4).trans<|Hu<|dh<|cR (Zk (di aaD<|Kk w2.ws.ob)<|Zk (di aaD<|Ng w2.ws.ob) aaD) aaD)
  .have hb:below (b9 M) (.U [.ref<|w+2,.int y.s])=false:=by
    show(decide (w+2<b9 M)&&_)=false;rw[pf c8];rfl
   rw[tidy,hb];rfl
 .have ho:(c7 m (x7 names gs)<|.done<|x7 names gs).on (λy=>bF m n ds y)= .over:=by
   by_cases hs:(x7 names gs).s<=m
   .rw[jm hs];rcases h with h|h
    .omega
    .exact h
   .rw[qd c8];rfl
  have hx:=body.2 ho;have hx2:bV (λ_=>True) M (KJ (env Yj) M):=by
   unfold KJ;refine bV.to s0<|bV.to s1 ?_;by_cases hs:(x7 names gs).s<=m
   .let⟨M3,C7,w3,g3⟩:=sp.1 _<|jm hs;let⟨k,M',e,r1,r2,r3⟩:=hx;rw[Zm C7]at e;exact⟨k,M',(Zm C7).trans<|Kn e,r1,Yx rl r2,λi hi _=>(r3 i (Yy hi rl)<|p4 i hi).trans<|xA i hi⟩
   .let⟨k,M',e,r1,r2,r3⟩:=sp.2<|qd c8;exact⟨k,M',Kn e,r1,Yx rl r2,λi hi _=>(r3 i (Yy hi rl)<|p4 i hi).trans<|xA i hi⟩
  exact bV.def (env:=env Yj) hx2
def Agu:∀(n:Nat) (d:Ds) (x:W7),m-x.s<(n:Int)->0<n->bF m n d x≠ .out:=by
 intro n
 induction n with
 |zero=>intro d x _ h;omega|succ n ih=>
  intro d x hx _;have i9:∀t:Sm,(1:Int)<=(t.cost:Int):=λt=>by cases t<;>simp[Sm.cost]<;>omega
  have lm:∀(x1:W7) (g:G7),(x1.s<=m->g≠ .out)->c7 m x1 g≠ .out:=λx1 g h=>by
   by_cases q:x1.s<=m
   .rw[jm q];exact h q
   .rw[qd c8];intro z;cases z
  have rn:∀(d:Ds) (x1:W7),x.s+1<=x1.s->x1.s<=m->bF m n d x1≠ .out:=λd x1 h1 h2=>ih d x1 c8 c8;have on:∀(d:Ds) (x1:W7) (f:W7->G7),x.s+1<=x1.s->x1.s<=m->(∀y,x1.s<=y.s->f y≠ .out)->(bF m n d x1).on f≠ .out:=λd x1 f h1 h2 h3=>by
   cases e:bF m n d x1 with
   |out=>exact oz e (rn d x1 h1 h2)|over=>intro z;cases z|done y=>exact h3 y (ZyM n d x1 y e).le
  cases d with
  |nil=>intro z;cases z|set y t r=>exact lm _ _ (rn r _ (by have:=i9 t;show x.s+1<=x.s+(t.cost:Int)+2;omega))|put t u r=>exact lm _ _ (rn r _ (by have:=i9 t;have:=i9 u;show x.s+1<=x.s+(t.cost:Int)+(u.cost:Int)+2;omega))|tell t r=>exact lm _ _ (rn r _ (by have:=i9 t;show x.s+1<=x.s+(t.cost:Int)+1;omega))
  | bM t a b r=>
   have h1:x.s+1<=(x.sp<|(t.cost:Int)+1).s:=by have:=i9 t;show x.s+1<=x.s+((t.cost:Int)+1);omega
   refine lm _ _ λq=>?_;by_cases z:0<x.v t
   .rw[f_ z];refine on a _ _ h1 q λy hy=>?_;by_cases hm:y.s<=m
    .exact rn r y c8 hm
    .exact ih r y c8 (by have:=i9 t;have:(x.sp<|(t.cost:Int)+1).s=x.s+((t.cost:Int)+1):=rfl;omega)
   .rw[i6 z];exact on b _ _ h1 q λy hy=>lm _ _ (rn r _ (by show x.s+1<=y.s+1;omega))
  | ot t a r=>
   have h1:x.s+1<=(x.sp<|(t.cost:Int)+1).s:=by have:=i9 t;show x.s+1<=x.s+((t.cost:Int)+1);omega
   refine lm _ _ λq=>?_;by_cases z:0<x.v t
   .rw[f_ z];exact on a _ _ h1 q λy hy=>lm _ _ (rn _ _ (by show x.s+1<=y.s+1;omega))
   .rw[i6 z];exact lm _ _ (rn r _ (by have:=i9 t;show x.s+1<=x.s+((t.cost:Int)+1+1);omega))
section
variable {m:Int} (hm:m<=1000) {x:W7} (h0:0<=x.s)
include hm h0
end
def ZpC(bs:l8)(a:Nat)(v:Int)(M:c5)(ha:a<b9 bs)(hl:b9 bs<=1000):yZ [bQ bs,.int a,.int v] M= .ok (bQ<|bs.set a v) M:=by
 have h1:(e2 Zy eL fz) [O<|bQ bs,e5 a,e5 v] M= .ok (bQ<|bs.set a v) M:=by
  have c1:oC (bs.map D.int) Yj (O (a:Int))=(bs.take a).map D.int:=by rw[Iq,Wc]
  have c2:oC (bs.map D.int) (O<|(a:Int)+1) Yj=(bs.drop<|a+1).map D.int:=by rw[show((a:Int)+1)=((a+1:Nat):Int)by exact rfl,Zpo,List.map_drop]
  have s1:jR (Zc 0) jP (jQ<|Zc 1) [O<|bQ bs,e5 a,e5 v] M= .ok (.U<|(bs.take a).map D.int) M:=by simp only[jR,Zc,jP,jQ,bQ,V3,Iz,R3.bind,Zip,Fi,Fj,Ax,c1]
  have s2:jR (Zc 0) (jQ kA) jP [O<|bQ bs,e5 a,e5 v] M= .ok (.U<|(bs.drop<|a+1).map D.int) M:=by simp only[jR,e2,eC,yp,Js,yq,Jt,Zc,jP,jQ,bQ,V3,Iz,R3.bind,Zip,Fi,Fj,Ax,c2]
  have s3:aR mT [O<|bQ bs,e5 a,e5 v] M= .ok (.U [.int v]) M:=by simp
  have a1:Zy (.U<|(bs.take a).map D.int) (.U [.int v]) M= .ok (.U<|(bs.take a).map D.int++[.int v]) M:=by simp only[yp,Js,yq,Jt];rw[f_ oP]
  refine(Zg (Zg s1 s3 a1) s2 ?_);simp only[yp,Js,yq,Jt];rw[f_ oP,bQ,List.set_eq_take_append_cons_drop,f_ ha];simp
 exact Rt.pure (G:=[]) (env:=[O<|bQ bs,e5 a,e5 v]) (by rw[gJ];exact dh h1)<|Iy _ _
def ZmO(cs:qv)(n:Int)(M:c5)(h:keysOk cs)(hl:b9 cs<=5000):Kw [dZ cs,.int n] M= .ok (.int<|iY cs n) M:=by
 have h1:(bA Fo Ba (aL Fp mS)<|Za (Zc 1) mB) [O<|dZ cs,e5 n] M= .ok (.int<|iY cs n) (M++[.j3<|dictOf<|qK cs]):=by
  have hz:b9 (qK cs)<=100000:=by simp[qK];omega
  have b1:aL Fp mS [O<|dZ cs,e5 n] M= .ok (.ref<|b9 M) (M++[.j3<|dictOf<|qK cs]):=by refine eO (a:=dZ cs) (M1:=M) aaD ?_;simp only[dZ,QG,XD,Zqr];rw[f_ hz];rfl
  simp only[bA,b1,R3.bind,JH,Za,Zc,eC,Ze,V3,Iz];simp only[cW,Zt7,Zub,LL,if_true,UZ,QF,ZxQ,Zyc];rw[ZtA h]
 exact Rt.pure (env:=[O<|dZ cs,e5 n]) (dh h1) aaD
def ZmK(r:Row)(bs:l8)(p om:Nat)(M:c5)(hb:b9 bs=8)(hr:r.ok om):Kv [dO r,.int p,bQ bs] M= .ok (.int<|r.place bs p) M:=by
 refine Rt.pure (G:=[]) (env:=[O<|dO r,e5 p,O<|bQ bs]) ?_ aaD;rw[gJ];cases r with
 | qq a k=>
  let⟨x,hx,gx⟩:=uL hb hr.1;have g:Zj (bQ bs) (.int (a:Int)) M= .ok (.int x) M:=by simp only[bQ,Qy,JB,JC,Qz,gx]
  have cc:(iV dS ef) [O<|dO<|.qq a k,e5 p,O<|bQ bs] M= .ok (.bl<|decide<|0<x) M:=(ul (M1:=M) aaD).trans<|Zg (Zg (b:=.int (a:Int)) aaD aaD g) aaD aaD;have s0:(e2 bJ (e2 Zj (Zc 0) nL) kq) [O<|dO<|.qq a k,e5 p,O<|bQ bs] M= .ok (.bl false) M:=rfl;simp only[Row.place,hx];by_cases c:0<x
  .rw[qc c]at cc;rw[f_ c];exact(Zm<|jt s0).trans (oK<|(eN cc).trans aaD)
  .rw[pf c]at cc;rw[i6 c];exact(Zm<|jt s0).trans ((Zm<|jt cc).trans aaD)
 |_=>rfl
def Zqu(x y:Int)(M:c5):oV [.str qE,.int x,.int y] M= .ok (.int<|x+y) M:=by simp[oV,Gn,Zx,aD,aP,aQ,cG,aG,aK,tidy,below,cu,qH]
def Zqw(x y:Int)(M:c5):oV [.str tq,.int x,.int y] M= .ok (.int<|x-y) M:=by simp[oV,Gn,Zx,aD,aP,aQ,cG,aG,aK,tidy,below,cu,qH]
def Zpy(x y:Int)(M:c5):oV [.str sj,.int x,.int y] M= .ok (.int<|if y<x then 1 else 0) M:=by by_cases c:y<x<;>simp[oV,Gn,Zx,aD,aP,aQ,cG,aG,aK,tidy,below,cu,qH,c]
def Zmr(r:Row)(bs:l8)(cs:qv)(om:Nat)(M:c5)(hb:b9 bs=8)(hr:r.ok om)(hk:keysOk cs)(hl:b9 cs<=5000):Ky [dO r,bQ bs,dZ cs] M= .ok (bQ<|r.dj bs cs) M:=by
 have wb:∀(a:Nat) (v:Int),a<8->yZ [bQ bs,.int a,.int v] M= .ok (bQ<|bs.set a v) M:=λa v ha=>ZpC bs a v M (by rwa[hb]) (by rw[hb];decide);have cv:∀(n:Int),Kw [dZ cs,.int n] M= .ok (.int<|iY cs n) M:=λn=>ZmO cs n M hk hl;have gt:∀{a:Nat} {x:Int},fK (bs.map D.int) (a:Int)=e5 x->Zj (bQ bs) (.int (a:Int)) M= .ok (.int x) M:=λ{a x} g=>by simp only[bQ,Qy,JB,JC,Qz,g]
 have tp:∀env,bz env M= .ok (.U [.str qE,.str tq,.str sj]) M:=λenv=>by simp
 refine Rt.pure (G:=[]) (env:=[O<|dO r,O<|bQ bs,O<|dZ cs,Yj]) ?_<|Iy _ _;rw[gJ];have pre:∀{w:i4} {o:O3} {k:S3},Zj (dO r) (.int 0) M= .ok (.str w) M->k [O<|dO r,O<|bQ bs,O<|dZ cs,rf w] M=o->Zx (aD 3<|e2 Zj (Zc 0) nL) k [O<|dO r,O<|bQ bs,O<|dZ cs,Yj] M=o:=λ{w o k} h1 h=>(Zm<|bU<|Zg aaD aaD h1).trans h;have sk:∀{w v:i4} {f k:S3} {o:O3},decide (w=v)=false->k [O<|dO r,O<|bQ bs,O<|dZ cs,rf w] M=o->Zx (aQ (e2 bJ (Zc 3)<|eC<|.str v) f cG) k [O<|dO r,O<|bQ bs,O<|dZ cs,rf w] M=o:=λ{w v f k o} h1 h=>(Zm<|jt (M':=M)<|Zg aaD aaD<|by simp only[bJ,Jv,Jw,Aw,Jx,Jy,h1]).trans h;have wk:∀{w:i4} {a b c:Nat} {x y z:Int},dO r= .U [.str w,.int a,.int b,.int c]->oV [.str w,.int x,.int y] M= .ok (.int z) M->a<8->fK (bs.map D.int) (b:Int)=e5 x->fK (bs.map D.int) (c:Int)=e5 y->Fe (.str w) (.U [.str qE,.str tq,.str sj]) M= .ok (.bl true) M ->
   (Zx (aQ bo av cG)<|aP<|Zc 1) [O<|dO r,O<|bQ bs,O<|dZ cs,rf w] M= .rt (bQ<|bs.set a z) M:=λ{w a b c x y z} he hw ha gx gy y6=>by
  rw[he];exact oK<|(eN<|Zg aaD (tp _) y6).trans<|dh<|nA aaD (b:=.int (a:Int)) (M2:=M) aaD (nA aaD (Zg aaD (b:=.int (b:Int)) (M2:=M) aaD<|gt gx) (Zg aaD (b:=.int (c:Int)) (M2:=M) aaD<|gt gy) hw)<|wb a z ha
 have no:∀{w:i4},Zj (dO r) (.int 0) M= .ok (.str w) M->decide (w=Cs)=false->decide (w=[103,101,116])=false->Fe (.str w) (.U [.str qE,.str tq,.str sj]) M= .ok (.bl false) M->GV [O<|dO r,O<|bQ bs,O<|dZ cs,Yj] M= .rt (bQ bs) M:=λ{w} h1 h2 h3 h4=>pre h1<|sk h2<|sk h3<|(Zm<|jt<|Zg aaD (tp _) h4).trans aaD;cases r with
 |put a n=>exact pre aaD (oK<|(eN (M':=M) aaD).trans<|dh<|nA aaD aaD aaD<|wb a n hr)|get a b=>let⟨x,hx,gx⟩:=uL hb hr.2;simp only[Row.dj,hx];exact pre aaD<|sk aaD<|oK<|(eN (M':=M) aaD).trans<|dh<|nA aaD (b:=.int (a:Int)) (M2:=M) aaD (jU aaD (Zg aaD (b:=.int (b:Int)) (M2:=M) aaD<|gt gx)<|cv x)<|wb a _ hr.1
 |add a b c=>let⟨x,hx,gx⟩:=uL hb hr.2.1;let⟨y,hy,gy⟩:=uL hb hr.2.2;simp only[Row.dj,hx,hy];exact pre aaD (sk aaD<|sk aaD<|wk aaD (Zqu x y M) hr.1 gx gy aaD)|sub a b c=>let⟨x,hx,gx⟩:=uL hb hr.2.1;let⟨y,hy,gy⟩:=uL hb hr.2.2;simp only[Row.dj,hx,hy];exact pre aaD (sk aaD<|sk aaD<|wk aaD (Zqw x y M) hr.1 gx gy aaD)|more a b c=>let⟨x,hx,gx⟩:=uL hb hr.2.1;let⟨y,hy,gy⟩:=uL hb hr.2.2;simp only[Row.dj,hx,hy];exact pre aaD (sk aaD<|sk aaD<|wk aaD (Zpy x y M) hr.1 gx gy aaD)|_=>exact no aaD aaD aaD aaD
def Zz2{l:Nat}(f1:a<=c)(f2:b<=c)(hL:l<=1)(hl:c<=5000):a+l+b<=1000000:=by omega
def ZrU{m:Nat}{x y:h8}(h1:M[n]?=O (.L x))(h2:M[m]?=O (.L y))(hz:b9 x+b9 y<=SZ):Zy (.ref n) (.ref m) M= .ok (.ref<|b9 M) (M++[.L<|x++y]):=by simp only[yp,Js,yq,Jt,h1,h2,f_ hz,alloc]
def ZvD{g:dg}(h:g env M= .ok ds M')(hl:decide (b9 ds<=100)=true):bh g env M= .ok (.ref<|b9 M') (M'++[.L ds]):=by have z:b9 ds<=SZ:=Yx (of_decide_eq_true hl) aaE;simp only[bh,h,R3.bind,f_ z,alloc]
def Agv{L:h8}{m:c5}{x1 x2:oS}(hz:b9 A+b9 L+b9 B<=SZ):aP fe [x0,x1,x2,My<|b9 m,O<|.ref<|b9<|m++[MO.L A],O<|.ref<|b9<|m++[MO.L A]++[MO.L B]] (m++[MO.L A]++[MO.L B]++[MO.L L])
  = .rt (.U<|A++L++B) (m++([MO.L A]++([MO.L B]++([MO.L L]++([MO.L<|A++L]++[MO.L<|A++L++B]))))):=by
 have hSa:(m++[MO.L A]++[MO.L B]++[MO.L L])[b9 m]?=O (.L A):=h_ (h_ (cW ..) _) _;have Zug:(m++[MO.L A]++[MO.L B]++[MO.L L])[b9<|m++[MO.L A]]?=O (.L B):=h_ (cW ..) _;have abz:(m++[MO.L A]++[MO.L B]++[MO.L L])[b9<|m++[MO.L A]++[MO.L B]]?=O (.L L):=cW ..;rw[<-Y7,<-Y7,<-Y7,<-Y7];generalize m++[MO.L A]++[MO.L B]++[MO.L L]=M3 at *;exact dh (eO (Zg (Zg qr qr<|ZrU hSa abz<|Yx (xW _ _) hz) qr<|ZrU (cW ..) (h_ Zug _)<|by rwa[Ye])<|yx<|cW ..)
def ZnF(cs:qv)(n v:Int)(M:c5)(hl:b9 cs<=5000):Gp [dZ cs,.int n,.int v] M= .ok (dZ<|iT cs n v) M:=by
 have b1:=VI (α:=Int×Int) (enc:=j6) (h:=j6) (p:=λc=>decide<|c.1<n) (own:=1) (i:=6) (it:=g_<|Zc 0) (c:=e2 mq kH<|Zc 1) (elt:=Zc 6) (env:=[O<|dZ cs,e5 n,e5 v,Yj,Yj,Yj]) (M:=M) (M1:=M) (lock:=Yj) (as:=cs)
  qr (λ_ h=>by cases h) (λa _ M=>by exact rfl) (λa _ _ M=>by exact rfl) c8
 have b2:=λ(x:D) (M:c5)=>VI (α:=Int×Int) (enc:=j6) (h:=j6) (p:=λc=>decide<|n<c.1) (own:=1) (i:=6) (it:=g_<|Zc 0) (c:=e2 iQ kH<|Zc 1) (elt:=Zc 6) (env:=[O<|dZ cs,e5 n,e5 v,O x,Yj,Yj]) (M:=M) (M1:=M) (lock:=Yj) (as:=cs)
  qr (λ_ h=>by cases h) (λa _ M=>by exact rfl) (λa _ _ M=>by exact rfl) c8
 have f1:=MW (λc:Int×Int=>decide<|c.1<n) cs;have f2:=MW (λc:Int×Int=>decide<|n<c.1) cs;have e:dZ (iT cs n v)= .U ((cs.filter λc=>decide<|c.1<n).map j6++(if v≠0 then[(n,v)]else[]).map j6++(cs.filter λc=>decide<|n<c.1).map j6):=by rw[dZ,iT,gK,gK]
 have b3:∀(x y:D) (M:c5),rQ (e2 nu (Zc 2) nL) gi (bh Ze) [O<|dZ cs,e5 n,e5 v,O x,O y,Yj] M= .ok (.ref<|b9 M) (M++[.L<|(if v≠0 then[(n,v)]else[]).map j6]):=λx y M=>by
  by_cases c:v=0
  .rw[i6 λh=>h c,c];exact(XR (M1:=M) qr).trans (ZvD qr aaD)
  .rw[f_ c];exact(QS (M1:=M)<|Zg aaD aaD<|by simp only[nu,Jv,Jw,Aw,Jx,Jy,pf c,NY]).trans (ZvD (Zk (cR qr aaD) qr) aaD)
 have ace:b9 ((if v≠0 then[(n,v)]else[]).map j6)<=1:=by split;exact Yn 1;exact dY 1
 have hz:b9 ((cs.filter λc=>decide<|c.1<n).map j6)+b9 ((if v≠0 then[(n,v)]else[]).map j6)+b9 ((cs.filter λc=>decide<|n<c.1).map j6)<=SZ:=by rw[Y3,Y3 (as:=List.filter (λc=>decide<|n<c.1) cs)];exact Zz2 f1 f2 ace hl
 rw[e];generalize(if v≠0 then[(n,v)]else[]).map j6=L at *;exact Rt.pure ((Zm<|bU b1).trans<|(Zm<|bU<|b2 (.ref<|b9 M) _).trans<|(Zm<|bU<|b3 (.ref<|b9 M) (.ref<|b9<|M++[MO.L<|(cs.filter λc=>decide<|c.1<n).map j6]) _).trans<|Agv hz)<|e▸IA _ _
def Zmp(r:Row)(bs:l8)(cs:qv)(om:Nat)(M:c5)(hb:b9 bs=8)(hr:r.ok om)(hl:b9 cs<=5000):Kz [dO r,bQ bs,dZ cs] M= .ok (dZ<|r.cells bs cs) M:=by
 have acf:∀(n v:Int) (M:c5),Gp [dZ cs,.int n,.int v] M= .ok (dZ<|iT cs n v) M:=λn v M=>ZnF cs n v M hl;refine Rt.pure (G:=[]) (env:=[O<|dO r,O<|bQ bs,O<|dZ cs]) ?_<|IA _ _;rw[gJ];unfold GW;generalize Gp=F1 at *;cases r with
 |set a b=>
  let⟨x,hx,gx⟩:=uL hb hr.1;let⟨y,hy,gy⟩:=uL hb hr.2;have e:Row.cells bs cs (.set a b)=iT cs x y:=by rw[<-hx,<-hy];rfl
  rw[e];exact oK<|(eN (M':=M) qr).trans<|dh<|nA qr (Zg qr qr<|mz gx) (Zg qr qr<|mz gy)<|acf x y M
 |_=>exact(Zm<|jt (M':=M) qr).trans<|dh qr
def ZiL(roll:fV)(s:cj)(M:c5)(kb:∀x∈roll,x.ok<|b9 roll)(hs:s.ok roll)(hk:keysOk s.cells)(hl:b9 s.cells<=5000):qP [cZ roll,Zu s] M= .ok (JP<|iZ roll s) M:=by
 let⟨hp,hb⟩:=hs;have hr:roll[s.place]?=O roll[s.place]:=by simp[hp]
 have ro:=kb _<|xT hp;unfold iZ;rw[hr];generalize roll[s.place]=r at hr ro;show _=R3.ok (JP<|Bc s r) M;have np:=ZmK r s.dj s.place<|b9 roll;have nb:=Zmr r s.dj s.cells<|b9 roll;have nc:=Zmp r s.dj s.cells<|b9 roll;refine Rt.pure (G:=[]) (env:=[O<|cZ roll,O<|Zu s,Yj,Yj,Yj,Yj]) ?_<|ZqZ _ _;rw[gJ];unfold GY;generalize Kv=F1 at *;generalize Ky=acg at *;generalize Kz=F3' at *;refine(Zm<|bU (d:=.int s.place) (M':=M) qr).trans ((Zm<|bU (d:=bQ s.dj) (M':=M) qr).trans<|(Zm<|bU (d:=dZ s.cells) (M':=M) qr).trans<|(Zm<|bU (d:=dO r) (M':=M)<|by simp[cZ,hr]).trans ?_);have e3:aR (Za (Zr F1 iL)<|Za (Zr acg iN)<|Za (Zr F3' iN) Ze) [O<|cZ roll,O<|Zu s,e5 s.place,O<|bQ s.dj,O<|dZ s.cells,O<|dO r] M= .ok (Zu ⟨r.place s.dj s.place,r.dj s.dj s.cells,r.cells s.dj s.cells⟩) M:=by exact cR (Zk (nA qr qr qr<|np M hb ro)<|Zk (nA qr qr qr<|nb M hb ro hk hl)<|Zk (nA qr qr qr<|nc M hb ro hl) qr) qr
 cases hh:r.lu with
 |true=>
  cases r<;>simp at hh
  exact oK<|(eN (M':=M) qr).trans<|dh qr
 | false=>
  have e4:(e2 bJ (e2 Zj (Zc 5) nL) kQ) [O<|cZ roll,O<|Zu s,e5 s.place,O<|bQ s.dj,O<|dZ s.cells,O<|dO r] M= .ok (.bl false) M:=by cases r<;>first|exact rfl|simp[dO]at hh |-
  refine(Zm<|jt e4).trans (dh<|e3.trans ?_);simp[Bc,hh,JP]
def Zhu(bs:l8)(M:c5):uF [bQ bs] M= .ok (Zu ⟨0,bs,[]⟩) M:=by refine Rt.pure (G:=[]) (env:=[O<|bQ bs]) ?_<|ZkK _ _;simp[GU,aP,Zu,bQ,dZ]
def TV(roll:fV)(ss:List cj)(s:cj)(n:Nat)(M:c5)(hs:s.place<b9 roll)(hM:M[n]?=O (.L<|(ss++[s]).map Zu)):sO [cZ roll,.ref n] M= .ok (.bl<|rW roll s) M:=by
 have hr:roll[s.place]?=O roll[s.place]:=by simp[hs]
 have h1:kf [O<|cZ roll,My n,Yj] M= .ok (Zu s) M:=by have:=getD_last (ss.map Zu)<|Zu s;simp[hM,this]
 refine Rt.pure (G:=[]) (env:=[O<|cZ roll,My n,Yj]) ?_ aaD;rw[gJ];refine(Zm<|bU h1).trans (dh ?_);unfold rW;rw[hr];generalize roll[s.place]=r at hr;cases r<;>simp[cZ,Zu,hr,dO]
def Zt4(roll:fV)(R:yw roll)(d:D)(most:Nat)(M:c5)(hm:most<=2001):∀(k:Nat) (pre:List cj) (s:cj) (pb:Nat),b9 pre+k=most->k<pb->Good roll s->b9 s.cells<=b9 pre ->
  jl (iV ja gN) (aG cb) pb
   [O<|cZ roll,O d,e5 (most:Int),My<|b9 M] (M++[.L<|(pre++[s]).map Zu])= .nx [O<|cZ roll,O d,e5 (most:Int),My<|b9 M] (M++[.L<|(pre++gk roll k s).map Zu]):=by
 intro k
 induction k with
 | zero=>
  intro pre s pb hk hf g hc;cases pb with
  |zero=>exact oz hf (Wh _)|succ pb=>
   have c1:(iV ja gN) [O<|cZ roll,O d,e5 (most:Int),My<|b9 M] (M++[.L<|(pre++[s]).map Zu])= .ok (.bl false) (M++[.L<|(pre++[s]).map Zu]):=by refine JN ?_;have:¬((b9 pre:Int)+1<=(most:Int)):=(λz=>by omega);simp[this]
   rw[oJ];rw[c1];rfl
 | succ k ih=>
  intro pre s pb hk hf g hc;cases pb with
  |zero=>exact oz hf (Wh _)|succ pb=>
   have en:=TV roll pre s (b9 M) (M++[.L<|(pre++[s]).map Zu]) g.pl<|cW _ _ _;have c1:(iV ja gN) [O<|cZ roll,O d,e5 (most:Int),My<|b9 M] (M++[.L<|(pre++[s]).map Zu])= .ok (.bl<|!rW roll s) (M++[.L<|(pre++[s]).map Zu]):=by
    rw[ul (M1:=M++[.L<|(pre++[s]).map Zu]) (by
     have:(b9 pre:Int)+1<=(most:Int):=by omega
     simp[this])]
    exact di (jU aaD aaD en) aaD
   rw[oJ];rw[c1];cases q:iZ roll s with
   |none=>have he:=(JS g.pl).mp q;rw[he];simp only[N0];rw[JR k q]|some s'=>
    have he:rW roll s=false:=by
     cases z:rW roll s with
     |false=>rfl|true=>rw[(JS g.pl).mpr z]at q;cases q
    rw[he];simp only[NY];have nx:=ZiL roll s (M++[.L<|(pre++[s]).map Zu]) R.rows ⟨g.pl,g.bx⟩ g.rs.keys c8;rw[q]at nx;have last:kg [O<|cZ roll,O d,e5 (most:Int),My<|b9 M] (M++[.L<|(pre++[s]).map Zu])= .ok (Zu s) (M++[.L<|(pre++[s]).map Zu]):=by have:=getD_last (pre.map Zu)<|Zu s;simp[this]
    have bd:=jE<|ZtW (o:=Zc 3) (arg:=Zr qP eM) (env:=[O<|cZ roll,O d,e5 (most:Int),My<|b9 M]) (M:=M++[.L<|(pre++[s]).map Zu]) (M2:=M++[.L<|(pre++[s]).map Zu]) (n:=b9 M) (xs:=(pre++[s]).map Zu) (ys:=(pre++[s]).map Zu) (d:=Zu s') aaD (cW _ _ _) (jU aaD last nx) (cW _ _ _) oP;rw[bd];let⟨g',lc⟩:=X5 R g q;have:=ih (pre++[s]) s' pb (by simp;exact iJ c8 c8) c8 g' oP;have e1:(M++[MO.L<|(pre++[s]).map Zu]).set (b9 M) (.L<|(pre++[s]).map Zu++[Zu s'])=M++[.L<|(pre++[s]++[s']).map Zu]:=by simp
    rw[e1];refine this.trans ?_;rw[JQ k q];simp
def ZyW(roll:fV)(R:yw roll)(bs:l8)(most:Nat)(M:c5)(hm:most<=2001)(hb:b9 bs=8):RL [cZ roll,bQ bs,.int (most:Int)] M= .ok (.ref<|b9 M) (M++[.L<|(gk roll most ⟨0,bs,[]⟩).map Zu]):=by
 have fs:=Zhu bs M;have pos:0<b9 roll:=by let⟨q,x,e,_⟩:=R.last;rw[e];simp
 have lp:=Zt4 roll R (bQ bs) most M hm most [] ⟨0,bs,[]⟩ 1000000 j0 c8 ⟨pos,hb,by simp[qL]⟩ j0;have s1:(bh<|Za (Zr uF ny) Ze) [O<|cZ roll,O<|bQ bs,e5 (most:Int),Yj] M= .ok (.ref<|b9 M) (M++[.L<|([]++[(⟨0,bs,[]⟩:cj)]).map Zu]):=by have e1:Zr uF (Za (Zc 1) Ze) [O<|cZ roll,O<|bQ bs,e5 (most:Int),Yj] M= .ok (Zu ⟨0,bs,[]⟩) M:=lJ aaD fs;generalize Zr uF (Za (Zc 1) Ze)=Zsn at e1 |-;simp[e1]
 refine(iR (env:=[O<|cZ roll,O<|bQ bs,e5 (most:Int),Yj])<|(Zm<|bU s1).trans<|(Zm lp).trans<|dh aaD).trans ?_;simp[tidy,below]
def ZwX(roll:fV)(ss:List cj)(n:Nat)(M:c5)(kb:∀x∈roll,x.ok<|b9 roll)(hs:∀s∈ss,s.ok roll)(hz:b9 ss<=100000)(hM:M[n]?=O (.L<|ss.map Zu)):
  RM [cZ roll,.ref n] M= .ok (.ref<|b9 M) (M++[.L<|(XH roll ss).map D.int,.L<|ss.dropLast.map Zu]):=by
 have hb:G0 [O<|cZ roll,My n,Yj,Yj,Yj] M= .rt (.ref<|b9 M) (M++[.L<|(XH roll ss).map D.int,.L<|ss.dropLast.map Zu]):=by
  have h0:(g_ ib) [O<|cZ roll,My n,My<|b9 M,Yj,Yj] (M++[.L []])= .ok ⟨ss.dropLast.map Zu,O<|b9 M+1⟩ (M++[.L [],.L<|ss.dropLast.map Zu]):=by simp[h_ hM,Zvg]
  let⟨e',M',hl,x,y,rfl,rfl⟩:=U2 (it:=⟨ss.dropLast.map Zu,O<|b9 M+1⟩) (g:=bK 3)
   (body:=(Zx fA<|aQ ee (aG cf) cG))
   (P:=λj env M'=>∃x y,env=[O<|cZ roll,My n,My<|b9 M,x,y]/\M'=M++[.L<|((ss.dropLast.take j).filterMap λs=>(roll[s.place]?).bind λx=>x.tells s.dj).map D.int,.L<|ss.dropLast.map Zu])
   (ss.dropLast.map Zu) 0 [O<|cZ roll,My n,My<|b9 M,Yj,Yj] (M++[.L [],.L<|ss.dropLast.map Zu])
   ⟨Yj,Yj,rfl,j0⟩ (λj env M' ⟨x,y,he,hm⟩=>by subst hm;simp[i8])
   (λk d hd env M' ⟨x,y,he,hm⟩=>by
    subst he hm;rw[lB]at hd;cases vS:ss.dropLast[k]? with
    |none=>rw[vS]at hd;cases hd|some s=>
     rw[vS]at hd;have sR:Zu s=d:=by simpa using hd
     subst sR;have Lo:s∈ss:=MY _<|rG vS;let⟨hp,hbx⟩:=hs s Lo;have hr:roll[s.place]?=O roll[s.place]:=by simp[hp]
     have hro:=kb _<|xT hp;have ht:ss.dropLast.take (k+1)=ss.dropLast.take k++[s]:=by rw[List.take_add_one,vS];rfl
     generalize roll[s.place]=r at hr hro;have i7:b9 (((ss.dropLast.take k).filterMap λs=>(roll[s.place]?).bind λx=>x.tells s.dj))<1000000:=by
      have h1:=MR (λs:cj=>(roll[s.place]?).bind λx=>x.tells s.dj)<|ss.dropLast.take k;have h2:=List.length_take_le k ss.dropLast;have h3:b9 ss.dropLast=b9 ss-1:=by simp
      have h4:=Ea (i:=k) (l:=ss.dropLast);omega
     refine⟨[O<|cZ roll,My n,My<|b9 M,O<|Zu s,y],[O<|cZ roll,My n,My<|b9 M,O<|Zu s,O<|dO r],_,rfl,(Zm<|bU (d:=dO r) (M':=M++[.L<|((ss.dropLast.take k).filterMap λs=>(roll[s.place]?).bind λx=>x.tells s.dj).map D.int,.L<|ss.dropLast.map Zu]) ?_).trans ?_,_,_,rfl,rfl⟩
     .simp[cZ,Zu,hr]
     .rw[qz,ht,List.filterMap_append];cases r with
      |tell a=>
       have ha:a<b9 s.dj:=by rwa[hbx]
       have hv:s.dj[a]?=O s.dj[a]:=by simp[ha]
       simp[dO,Zu,bQ,Zx,aD,aP,aQ,cG,aG,aK,tidy,below,cu,qH,hr,hv,i7]
      |_=>simp[dO,Zx,aD,aP,aQ,cG,aG,aK,tidy,below,cu,qH,hr])
  refine(Zm<|bU (d:=.ref<|b9 M) (M':=M++[.L []]) j0).trans ((Zm<|(Bb h0).trans hl).trans<|dh ?_);rw[qz,Y3,List.take_length];rfl
 refine(iR hb).trans ?_;simp[tidy,below]
def Zs2(roll:fV)(k:Nat)(s:cj):(gk roll k s)[0]?=O s:=by
 cases k with
 |zero=>rfl|succ k=>unfold gk;split <;>rfl
variable{cs:qv}
def TX(h:qL cs)(n v m:Int):iY (iT cs n v) m=if m=n then v else iY cs m:=by
 have K:=(QW (n:=n) (v:=v) h).keys;by_cases c:m=n
 .subst c;rw[f_ aaD];by_cases z:v=0
  .subst z;refine QT λq=>?_;let⟨p,hp,e⟩:=Ad.mp q;have e:p.1=m:=by simpa using e
   rcases QV.mp hp with⟨_,h2⟩|⟨h1,_⟩
   .exact h2 aaD
   .exact h1 e
  .exact XS K<|QV.mpr<|.inl ⟨rfl,z⟩
 .rw[i6 c];by_cases a:(cs.any λp=>decide<|p.1=m)=true
  .let⟨p,hp,e⟩:=Ad.mp a;have e:p.1=m:=by simpa using e
   let⟨x,y⟩:=p;simp only at e;subst e;rw[XS h.keys hp];exact XS K<|QV.mpr<|.inr ⟨c,hp⟩
  .rw[QT a];refine QT λq=>?_;let⟨p,hp,e⟩:=Ad.mp q;have e:p.1=m:=by simpa using e
   rcases QV.mp hp with⟨h1,_⟩|⟨_,h2⟩
   .rw[h1]at e;exact c e.symm
   .exact a (Ad.mpr ⟨p,h2,by simpa using e⟩)
def zE(o a b c:Nat):Row:=match o with
 |0=>.add a b c|1=>.sub a b c|_=>.more a b c
def Sm.rr(nc:i4->Int):Sm->Nat->List Row
 | .num i,b=>[.put b i]|.bW x,b=>[.put 7<|nc x,.get b 7]|.dw a,b=>a.rr nc b++[.add b b b,.get b b]|.two o a c,b=>a.rr nc b++c.rr nc (b+1)++[zE o b b<|b+1]
theorem Sm.cA(nc:i4->Int):∀(t:Sm) (b:Nat),b9 (t.rr nc b)=t.cost
 | .num _,_=>rfl|.bW _,_=>rfl|.dw a,b=>by simp only[Sm.rr,Ye,a.cA nc b,Sm.cost];rfl|.two o a c,b=>by simp only[Sm.rr,Ye,a.cA nc b,c.cA nc<|b+1,Sm.cost];rfl
abbrev jz(ck:l9)(x:i4):Int:=ox ck<|.inr x
def Agw(o a b c:Nat):dO (zE o a b c)=wH (j7 o) a b c:=by
 match o with
 |0=>rfl|1=>rfl|_+2=>rfl
theorem Hv(ck:l9):∀(t:Sm) (b:Nat),t.rows ck (b:Int)=(t.rr (jz ck) b).map dO
 | .num _,_=>rfl|.bW _,_=>rfl|.dw a,b=>by rw[Sm.rows,Hv ck a b,Sm.rr,gK];rfl|.two o a c,b=>by have:=Hv ck c<|b+1;rw[show((b+1:Nat):Int)=(b:Int)+1 from rfl]at this;rw[Sm.rows,Hv ck a b,this,Sm.rr,gK,gK];show _++[wH (j7 o) (b:Int) (b:Int)<|(b:Int)+1]=_++[dO<|zE o b b<|b+1];rw[Agw];rfl
def Ds.ln:Ds->Nat
 | .nil=>0|.set _ t r=>t.cost+2+r.ln|.put t u r=>t.cost+u.cost+2+r.ln|.tell t r=>t.cost+1+r.ln
 | .bM t a b r=>t.cost+1+b.ln+1+a.ln+r.ln|.ot t a r=>t.cost+2+a.ln+1+r.ln
def Ds.rr(nc:i4->Int):Ds->Nat->List Row
 | .nil,_=>[]|.set x t r,p=>(t.rr nc 0++[.put 7<|nc x,.set 7 0])++r.rr nc (p+(t.cost+2))|.put t u r,p=>(t.rr nc 0++[.add 0 0 0]++u.rr nc 1++[.set 0 1])++r.rr nc (p+(t.cost+u.cost+2))|.tell t r,p=>(t.rr nc 0++[.tell 0])++r.rr nc (p+(t.cost+1))
 | .bM t a b r,p=>(t.rr nc 0++[.qq 0<|p+t.cost+1+b.ln+1]++b.rr nc (p+t.cost+1)++[.pE<|p+t.cost+1+b.ln+1+a.ln]++a.rr nc (p+t.cost+1+b.ln+1))++r.rr nc (p+(t.cost+1+b.ln+1+a.ln))|.ot t a r,p=>(t.rr nc 0++[.qq 0<|p+t.cost+2,.pE<|p+t.cost+2+a.ln+1]++a.rr nc (p+t.cost+2)++[.pE p])++r.rr nc (p+(t.cost+2+a.ln+1))
theorem Ds.cA(nc:i4->Int):∀(d:Ds) (p:Nat),b9 (d.rr nc p)=d.ln
 | .nil,_=>rfl|.set x t r,p=>by simp only[Ds.rr,Ye,Sm.cA,r.cA nc,Ds.ln];rfl|.put t u r,p=>by simp only[Ds.rr,Ye,Sm.cA,r.cA nc,Ds.ln,Yh,gw];omega|.tell t r,p=>by simp only[Ds.rr,Ye,Sm.cA,r.cA nc,Ds.ln];rfl
 | .bM t a b r,p=>by simp only[Ds.rr,Ye,Sm.cA,a.cA nc,b.cA nc,r.cA nc,Ds.ln,Yh,gw]|.ot t a r,p=>by simp only[Ds.rr,Ye,Sm.cA,a.cA nc,r.cA nc,Ds.ln,Yh,gw]
def Zsg(ck:l9)(t:Sm):b9 (t.rows ck 0)=t.cost:=by have:=Hv ck t 0;rw[show((0:Nat):Int)=0 from rfl]at this;rw[this,Y3,Sm.cA]
def rows0(ck:l9)(t:Sm):t.rows ck 0=(t.rr (jz ck) 0).map dO:=Hv ck t 0
def Agx(ck:l9)(t:Sm):t.rows ck 1=(t.rr (jz ck) 1).map dO:=Hv ck t 1
theorem wW(ck:l9):∀(d:Ds) (p:Nat),d.rows ck (p:Int)=(d.rr (jz ck) p).map dO
 | .nil,_=>rfl|.set x t r,p=>by
  have h:uO ck x t=(t.rr (jz ck) 0++[Row.put 7<|jz ck x,Row.set 7 0]).map dO:=by rw[uO,rows0,gK];rfl
  have hl:(b9 (uO ck x t):Int)=((t.cost+2:Nat):Int):=by rw[h,Y3,Ye,Sm.cA];rfl
  rw[Ds.rows,hl,<-qC,wW ck r,h,<-gK];rfl
 | .put t u r,p=>by
  have h:sY ck t u=(t.rr (jz ck) 0++[Row.add 0 0 0]++u.rr (jz ck) 1++[Row.set 0 1]).map dO:=by rw[sY,rows0,Agx];simp only[gK];rfl
  have hl:(b9 (sY ck t u):Int)=((t.cost+u.cost+2:Nat):Int):=by rw[h,Y3];simp only[Ye,Sm.cA,Yh,gw];omega
  rw[Ds.rows,hl,<-qC,wW ck r,h,<-gK];rfl
 | .tell t r,p=>by
  have h:uP ck t=(t.rr (jz ck) 0++[Row.tell 0]).map dO:=by rw[uP,rows0,gK];rfl
  have hl:(b9 (uP ck t):Int)=((t.cost+1:Nat):Int):=by rw[h,Y3,Ye,Sm.cA];rfl
  rw[Ds.rows,hl,<-qC,wW ck r,h,<-gK];rfl
 | .bM t a b r,p=>by
  have e1:(p:Int)+(t.cost:Int)+1=((p+t.cost+1:Nat):Int):=by omega
  have e2:((p+t.cost+1:Nat):Int)+(b9 (b.rr (jz ck)<|p+t.cost+1):Int)+1=((p+t.cost+1+b.ln+1:Nat):Int):=by rw[Ds.cA];omega
  have h:sZ ck t (a.rows ck) (b.rows ck) (p:Int)=(t.rr (jz ck) 0++[Row.qq 0<|p+t.cost+1+b.ln+1]++b.rr (jz ck) (p+t.cost+1)++[Row.pE<|p+t.cost+1+b.ln+1+a.ln]++a.rr (jz ck) (p+t.cost+1+b.ln+1)).map dO:=by unfold sZ;rw[Zsg,e1,wW ck b,Y3,e2,wW ck a,Y3,Ds.cA (jz ck) a,rows0];simp only[gK,<-qC];rfl
  have hl:(b9 (sZ ck t (a.rows ck) (b.rows ck) (p:Int)):Int)=((t.cost+1+b.ln+1+a.ln:Nat):Int):=by rw[h,Y3];simp only[Ye,Sm.cA,Ds.cA,Yh,gw];try omega
  rw[Ds.rows,hl,<-qC,wW ck r,h,<-gK];rfl
 | .ot t a r,p=>by
  have e1:(p:Int)+(t.cost:Int)+2=((p+t.cost+2:Nat):Int):=by omega
  have h:tu ck t (a.rows ck) (p:Int)=(t.rr (jz ck) 0++[Row.qq 0<|p+t.cost+2,Row.pE<|p+t.cost+2+a.ln+1]++a.rr (jz ck) (p+t.cost+2)++[Row.pE p]).map dO:=by unfold tu;rw[Zsg,e1,wW ck a,Y3,Ds.cA (jz ck) a,rows0];simp only[gK];rfl
  have hl:(b9 (tu ck t (a.rows ck) (p:Int)):Int)=((t.cost+2+a.ln+1:Nat):Int):=by rw[h,Y3];simp only[Ye,Sm.cA,Ds.cA,Yh,gw];try omega
  rw[Ds.rows,hl,<-qC,wW ck r,h,<-gK];rfl
def lO(R:fV)(p:Nat)(r:List Row):Prop:=∃A B,R=A++(r++B)/\A.length=p
variable{R:fV}
def lO.app{a b:List Row}(h:lO R p (a++b)):lO R p a/\lO R (p+b9 a) b:=by let⟨A,B,rfl,rfl⟩:=h;exact⟨⟨A,b++B,j0,rfl⟩,⟨A++a,B,j0,j0⟩⟩
def lO.hd{r:Row}{b:List Row}(h:lO R p (r::b)):R[p]?=O r/\lO R (p+1) b:=by let⟨A,B,rfl,rfl⟩:=h;exact⟨j0,⟨A++[r],B,j0,j0⟩⟩
def Lu(R:fV)(s:cj):l8:=((R[s.place]?).bind λx=>x.tells s.dj).toList
inductive Ex(R:fV):cj->Nat->cj->l8->Prop
 |nil (s:cj):Ex R s 0 s []
 |cons {s s1 s2:cj} {k:Nat} {o:l8} (h:iZ R s=O s1) (t:Ex R s1 k s2 o):Ex R s (k+1) s2 (Lu R s++o)
def Ex.trans{s s1 s2:cj}{k j:Nat}{o1 o2:l8}(a:Ex R s k s1 o1)(b:Ex R s1 j s2 o2):Ex R s (k+j) s2 (o1++o2):=by
 induction a with
 |nil s=>rwa[qz]|cons h t ih=>rw[Y7,Wf];exact .cons h<|ih b
def Ex.one{bs:l8}{r:Row}(h:R[p]?=O r)(hh:r.lu=false)(ht:r.tells bs=Yj):Ex R ⟨p,bs,cs⟩ 1 ⟨r.place bs p,r.dj bs cs,r.cells bs cs⟩ []:=by
 have e:iZ R ⟨p,bs,cs⟩=O ⟨r.place bs p,r.dj bs cs,r.cells bs cs⟩:=by show(R[p]?).bind _=_;rw[h];show(if r.lu then _ else _)=_;rw[hh];rfl
 have:=Ex.cons e<|.nil _;rwa[show Lu R ⟨p,bs,cs⟩=[]by show(((R[p]?).bind λx=>x.tells bs)).toList=[];rw[h];show(r.tells bs).toList=[];rw[ht];rfl]at this
def Ex.lQ{s s1 s2:cj}{k j:Nat}{o:l8}(a:Ex R s k s1 [])(b:Ex R s1 j s2 o):Ex R s (k+j) s2 o:=a.trans b
def wX{bs:l8}(v:Int)(h:a<b9 bs):(bs.set a v).getD a 0=v:=by rw[vH,Yu h];rfl
def wY{bs:l8}(v:Int)(h:a≠j):(bs.set a v).getD j 0=bs.getD j 0:=by rw[vH,Ym h,<-vH]
def Sm.nb:Sm->Nat
 | .num _=>1|.bW _=>1|.dw a=>a.nb|.two _ a c=>gR a.nb<|c.nb+1
theorem zF:∀t:Sm,1<=t.nb/\1<=t.flat.length
 | .num _=>⟨Yn _,Yn _⟩|.bW _=>⟨Yn _,Yn _⟩|.dw a=>⟨(zF a).1,Ja<|dY _⟩|.two _ a c=>⟨Yx (zF a).1<|O7 _ _,Ja<|dY _⟩
theorem TY:∀t:Sm,2*t.nb<=b9 t.flat+1
 | .num _=>Yn _|.bW _=>Yn _|.dw a=>by have:=TY a;simp only[Sm.nb,Sm.flat,Yh];omega|.two _ a c=>by
  have h1:=TY a;have h2:=TY c;have h3:=(zF a).2;have h4:=(zF c).2;simp only[Sm.nb,Sm.flat,Yh,Ye];rcases Nat.le_total a.nb (c.nb+1)with q|q
  .rw[Nat.max_eq_right q];omega
  .rw[Nat.max_eq_left q];omega
def T3{R:fV}{nc:i4->Int}{nv:i4->Int}{cv:Int->Int}{cs:qv}(tm:∀i,iY cs (2*i)=cv i):∀(t:Sm) (b p:Nat) (bs:l8),b9 bs=8->b+t.nb<=7->lO R p (t.rr nc b)->t.all (λx=>iY cs (nc x)=nv x) ->
  ∃sd,Ex R ⟨p,bs,cs⟩ t.cost ⟨p+t.cost,sd,cs⟩ []/\sd.length=8/\sd.getD b 0=t.val nv cv/\∀j,j<b->sd.getD j 0=bs.getD j 0
 | .num i,b,p,bs,hb,hn,ha,_=>by have hn:b+1<=7:=hn;exact⟨bs.set b i,Ex.one ha.hd.1 aaD aaD,by rwa[jZ],wX i c8,λj hj=>wY i c8⟩|.bW x,b,p,bs,hb,hn,ha,hx=>by
  have hn:b+1<=7:=hn;have hx:iY cs (nc x)=nv x:=hx;have h1:=Ex.one (cs:=cs) (bs:=bs) ha.hd.1 aaD aaD;have h2:=Ex.one (cs:=cs) (bs:=bs.set 7<|nc x) ha.hd.2.hd.1 aaD aaD;refine⟨_,h1.lQ h2,?_,?_,λj hj=>?_⟩
  .show((bs.set 7 _).set b _).length=8;rwa[jZ,jZ]
  .show((bs.set 7<|nc x).set b<|iY cs<|(bs.set 7<|nc x).getD 7 0).getD b 0=nv x;rw[wX _ (by rw[jZ];omega),wX _ c8,hx]
  .show((bs.set 7 _).set b _).getD j 0=_;rw[wY _ c8,wY _ c8]
 | .dw a,b,p,bs,hb,hn,ha,hx=>by
  have hp:=(zF a).1;have hn:b+a.nb<=7:=hn;let⟨b1,e1,l1,v1,o1⟩:=T3 tm a b p bs hb hn ha.app.1 hx;have hr:=ha.app.2;rw[Sm.cA]at hr;have h1:=Ex.one (cs:=cs) (bs:=b1) hr.hd.1 aaD aaD;have h2:=Ex.one (cs:=cs) (bs:=b1.set b<|b1.getD b 0+b1.getD b 0) hr.hd.2.hd.1 aaD aaD;refine⟨_,e1.lQ<|h1.lQ h2,?_,?_,λj hj=>?_⟩
  .show((b1.set b _).set b _).length=8;rwa[jZ,jZ]
  .show((b1.set b<|b1.getD b 0+b1.getD b 0).set b<|iY cs<|(b1.set b<|b1.getD b 0+b1.getD b 0).getD b 0).getD b 0=cv (a.val nv cv);rw[wX _ (by rw[jZ];omega),wX _ c8,v1,<-tm];congr 1;omega
  .show((b1.set b _).set b _).getD j 0=_;rw[wY _ c8,wY _ c8];exact o1 j hj
 | .two o a c,b,p,bs,hb,hn,ha,hx=>by
  have hn:b+gR a.nb (c.nb+1)<=7:=hn;have q1:=O7 a.nb<|c.nb+1;have q2:=Wg a.nb<|c.nb+1;have q3:=(zF c).1;let⟨b1,e1,l1,v1,o1⟩:=T3 tm a b p bs hb c8 ha.app.1.app.1 hx.1;have hc:=ha.app.1.app.2;rw[Sm.cA]at hc;let⟨b2,e2,l2,v2,o2⟩:=T3 tm c (b+1) (p+a.cost) b1 l1 c8 hc hx.2;have hr:=ha.app.2;rw[Ye,Sm.cA,Sm.cA,<-tZ]at hr;have sN:∀(bs:l8),(zE o b b<|b+1).lu=false/\(zE o b b<|b+1).tells bs=Yj/\(zE o b b<|b+1).place bs (p+a.cost+c.cost)=p+a.cost+c.cost+1/\(zE o b b<|b+1).dj bs cs=bs.set b (C5 o (bs.getD b 0)<|bs.getD (b+1) 0)/\(zE o b b<|b+1).cells bs cs=cs:=λbs=>by
   match o with
   |0=>exact⟨rfl,rfl,rfl,rfl,rfl⟩|1=>exact⟨rfl,rfl,rfl,rfl,rfl⟩|_+2=>exact⟨rfl,rfl,rfl,rfl,rfl⟩
  let⟨g1,g2,g3,g4,g5⟩:=sN b2;have h1:=Ex.one (cs:=cs) (bs:=b2) hr.hd.1 g1 g2;rw[g3,g4,g5]at h1;have e12:=(e1.lQ e2).lQ h1;refine⟨b2.set b<|C5 o (b2.getD b 0)<|b2.getD (b+1) 0,?_,?_,?_,λj hj=>?_⟩
  .show Ex R _ (a.cost+c.cost+1) ⟨p+(a.cost+c.cost+1),_,_⟩ [];rwa[show p+(a.cost+c.cost+1)=p+a.cost+c.cost+1 by omega]
  .rwa[jZ]
  .rw[wX _ c8,v2,o2 b c8,v1];rfl
  .rw[wY _ c8,o2 j c8];exact o1 j hj
def lO.at{r:List Row}(h:lO R p r)(e:p=q):lO R q r:=e▸h
def ZmW(kvs:l9)(k j:aH)(v:Int):ox (oI k (.int v) kvs) j=if j=k then v else ox kvs j:=by
 unfold ox;rw[XX];by_cases c:j=k
 .rw[f_ c,f_ c]
 .rw[i6 c,i6 c]
structure Nc(nc:i4->Int)(L:k9):Prop where
 odd:∀x∈L,∃k:Int,nc x=2*k+1
 inj:∀x∈L,∀y∈L,nc x=nc y->x=y
structure RelM(nc:i4->Int)(L:k9)(x:W7)(cs:qv):Prop where
 rs:qL cs
 nm:∀y∈L,iY cs (nc y)=ox x.n (.inr y)
 cl:∀i,iY cs (2*i)=ox x.c (.inl i)
variable{nc:i4->Int}
def RelM.sp{x:W7}(h:RelM nc L x cs)(k:Int):RelM nc L (x.sp k) cs:=⟨h.rs,h.nm,h.cl⟩
def RelM.tell{x:W7}(h:RelM nc L x cs)(t:Sm):RelM nc L (x.tell t) cs:=⟨h.rs,h.nm,h.cl⟩
def ZpF(N:Nc nc L){n c:l9}{o o':h8}{s':Int}(h:RelM nc L ⟨n,c,o,s⟩ cs)(hy:y∈L)(v:Int):RelM nc L ⟨oI (.inr y) (.int v) n,c,o',s'⟩ (iT cs (nc y) v):=by
 refine⟨QW h.rs,λz hz=>?_,λi=>?_⟩
 .rw[TX h.rs,ZmW];by_cases e:z=y
  .subst e;rw[f_ aaD,f_ aaD]
  .rw[i6 λq=>e<|N.inj _ hz _ hy q,i6 λq=>e<|P_ q];exact h.nm z hz
 .let⟨k,hk⟩:=N.odd y hy;rw[TX h.rs,i6 c8];exact h.cl i
def RelM.put(N:Nc nc L){x:W7}(h:RelM nc L x cs)(t u:Sm):RelM nc L (x.put t u) (iT cs (2*x.v t)<|x.v u):=by
 refine⟨QW h.rs,λz hz=>?_,λi=>?_⟩
 .let⟨k,hk⟩:=N.odd z hz;rw[TX h.rs,i6 c8];exact h.nm z hz
 .show _=ox (oI (.inl<|x.v t) (.int<|x.v u) x.c) (.inl i);rw[TX h.rs,ZmW];by_cases e:i=x.v t
  .rw[f_ c8,f_<|by rw[e]]
  .rw[i6 c8,i6 λq=>e<|Sum.inl.inj q];exact h.cl i
def Sm.fits(L:k9)(t:Sm):Prop:=t.all (· ∈L)/\t.nb<=6
def Ds.fits(L:k9):Ds->Prop
 | .nil=>True|.set y t r=>y∈L/\t.fits L/\r.fits L|.put t u r=>t.fits L/\u.fits L/\r.fits L|.tell t r=>t.fits L/\r.fits L
 | .bM t a b r=>t.fits L/\a.fits L/\b.fits L/\r.fits L|.ot t a r=>t.fits L/\a.fits L/\r.fits L
def jJ(R:fV)(nc:i4->Int)(L:k9)(m:Int)(x:W7)(s:cj)(q:Nat):G7->Prop
 | .done y=>∃k sd vk o,Ex R s k ⟨q,sd,vk⟩ o/\y.s=x.s+(k:Int)/\y.o=x.o++o.map D.int/\RelM nc L y vk/\sd.length=8|.over=>∃k s' o,Ex R s k s' o/\m<x.s+(k:Int)|.out=>True
def jJ.lim{x x1:W7}{s s1:cj}{q k:Nat}{o:l8}(e:Ex R s k s1 o)(hs:x1.s=x.s+(k:Int))(ho:x1.o=x.o++o.map D.int)(h:jJ R nc L m x1 s1 q g):jJ R nc L m x s q (c7 m x1 g):=by
 by_cases z:x1.s<=m
 .rw[jm z];cases g with
  |done y=>let⟨j,sd,vk,o',e',h1,h2,h3,h4⟩:=h;exact⟨k+j,sd,vk,o++o',e.trans e',by rw[h1,hs];omega,by rw[h2,ho,gK,Y7],h3,h4⟩|over=>let⟨j,s',o',e',h1⟩:=h;exact⟨k+j,s',_,e.trans e',by rw[hs]at h1;omega⟩|out=>trivial
 .rw[qd c8];exact⟨k,s1,o,e,c8⟩
def jJ.on{x:W7}{s:cj}{q1:Nat}{f:W7->G7}(h:jJ R nc L m x s q1 g)(hf:∀y sd vk,RelM nc L y vk->b9 sd=8->jJ R nc L m y ⟨q1,sd,vk⟩ q (f y)):jJ R nc L m x s q (g.on f):=by
 cases g with
 | done y=>
  let⟨k,sd,vk,o,e,h1,h2,h3,h4⟩:=h;have:=hf y sd vk h3 h4;show jJ R nc L m x s q (f y);cases fy:f y with
  |done z=>rw[fy]at this;let⟨j,b2,c2,o2,e2,g1,g2,g3,g4⟩:=this;exact⟨k+j,b2,c2,o++o2,e.trans e2,by rw[g1,h1];omega,by rw[g2,h2,gK,Y7],g3,g4⟩|over=>rw[fy]at this;let⟨j,s',o2,e2,g1⟩:=this;exact⟨k+j,s',_,e.trans e2,by rw[h1]at g1;omega⟩|out=>trivial
 |over=>exact h|out=>trivial
section
variable {R:fV} {nc:i4->Int} {L:k9} {m:Int} {x:W7} {cs:qv}
def Hw(H:RelM nc L x cs){t:Sm}(ht:t.fits L){bs:l8}(hb:b9 bs=8)(h1:b<=1)(ha:lO R p (t.rr nc b)):
  ∃sd,Ex R ⟨p,bs,cs⟩ t.cost ⟨p+t.cost,sd,cs⟩ []/\sd.length=8/\sd.getD b 0=x.v t/\∀j,j<b->sd.getD j 0=bs.getD j 0:=
 T3 H.cl t b p bs hb (by have:=ht.2;omega) ha (t.HD (λy hy=>H.nm y hy) ht.1)
end
def Agy(N:Nc nc L):∀(n:Nat) (d:Ds) (x:W7) (p:Nat) (bs:l8) (cs:qv),d.fits L->lO R p (d.rr nc p)->RelM nc L x cs->b9 bs=8->jJ R nc L m x ⟨p,bs,cs⟩ (p+d.ln) (bF m n d x):=by
 intro n
 induction n with
 |zero=>intros;trivial|succ n ih=>
  intro d x p bs cs hf ha H hb;cases d with
  |nil=>exact⟨0,bs,cs,[],.nil _,j0,j0,H,hb⟩|set y t r=>
   let⟨hy,ht,hr⟩:=hf;have a1:=ha.app.1;let⟨b1,e1,l1,v1,_⟩:=Hw H ht hb (dY _) a1.app.1;have a2:=a1.app.2;rw[Sm.cA]at a2;have s1:=Ex.one (cs:=cs) (bs:=b1) a2.hd.1 aaD aaD;have s2:=Ex.one (cs:=cs) (bs:=b1.set 7<|nc y) a2.hd.2.hd.1 aaD aaD;have ec:Row.cells (b1.set 7<|nc y) cs (.set 7 0)=iT cs (nc y) (x.v t):=by show iT cs ((b1.set 7<|nc y).getD 7 0) ((b1.set 7<|nc y).getD 0 0)=_;rw[wX _ c8,wY _ aaE,v1]
   rw[ec]at s2;have e:=e1.lQ<|s1.lQ s2;have a3:=ha.app.2;rw[Ye,Sm.cA]at a3;refine jJ.lim (x1:=x.set y t) (k:=t.cost+(1+1)) (o:=[]) e (by show x.s+(t.cost:Int)+2=_;omega) (by show x.o=x.o++[];rw[gJ]) ?_;have:=ih r (x.set y t) (p+(t.cost+2)) (b1.set 7<|nc y) _ hr a3 (ZpF (s:=x.s) (o:=x.o) N H hy<|x.v t) (by rwa[jZ]);rwa[show p+(t.cost+2)+r.ln=p+Ds.ln (.set y t r)by show _=p+(t.cost+2+r.ln);omega]at this
  | put t u r=>
   let⟨ht,hu,hr⟩:=hf;have a1:=ha.app.1;let⟨b1,e1,l1,v1,_⟩:=Hw H ht hb (dY _) a1.app.1.app.1.app.1;have a2:=a1.app.1.app.1.app.2;rw[Sm.cA]at a2;have s1:=Ex.one (cs:=cs) (bs:=b1) a2.hd.1 aaD aaD;have a3:=a1.app.1.app.2;rw[Ye,Sm.cA]at a3;have eb:Row.dj b1 cs (.add 0 0 0)=b1.set 0 (2*x.v t):=by show b1.set 0 (b1.getD 0 0+b1.getD 0 0)=_;rw[v1];congr 1;omega
   rw[eb]at s1;let⟨b2,e2,l2,v2,o2⟩:=Hw H hu (bs:=b1.set 0<|2*x.v t) (by rwa[jZ]) (Yn _) a3;have a4:=a1.app.2;rw[Ye,Ye,Sm.cA,Sm.cA]at a4;have a4:lO R (p+t.cost+1+u.cost) [Row.set 0 1]:=by rwa[show p+t.cost+1+u.cost=p+(t.cost+[Row.add 0 0 0].length+u.cost)by show _=p+(t.cost+1+u.cost);omega]
   have s2:=Ex.one (cs:=cs) (bs:=b2) a4.hd.1 aaD aaD;have ec:Row.cells b2 cs (.set 0 1)=iT cs (2*x.v t) (x.v u):=by show iT cs (b2.getD 0 0) (b2.getD 1 0)=_;rw[o2 0 aaE,wX _ c8,v2]
   rw[ec]at s2;have e:=(e1.lQ s1).lQ<|e2.lQ s2;have a5:=ha.app.2;rw[show(t.rr nc 0++[Row.add 0 0 0]++u.rr nc 1++[Row.set 0 1]).length=t.cost+u.cost+2 by simp only[Ye,Sm.cA,Yh,gw];omega]at a5;refine jJ.lim (x1:=x.put t u) (o:=[]) e (by show x.s+(t.cost:Int)+(u.cost:Int)+2=_;omega) (by show x.o=x.o++[];rw[gJ]) ?_;have:=ih r (x.put t u) (p+(t.cost+u.cost+2)) b2 _ hr a5 (H.put N t u) l2;rw[show p+(t.cost+u.cost+2)+r.ln=p+Ds.ln (.put t u r)by show _=p+(t.cost+u.cost+2+r.ln);omega]at this;rwa[show(⟨Row.place b2 (p+t.cost+1+u.cost)<|.set 0 1,Row.dj b2 cs<|.set 0 1,iT cs (2*x.v t)<|x.v u⟩:cj)=⟨p+(t.cost+u.cost+2),b2,iT cs (2*x.v t)<|x.v u⟩by show(⟨p+t.cost+1+u.cost+1,b2,_⟩:cj)=_;congr 1;omega]
  | tell t r=>
   let⟨ht,hr⟩:=hf;have a1:=ha.app.1;let⟨b1,e1,l1,v1,_⟩:=Hw H ht hb (dY _) a1.app.1;have a2:=a1.app.2;rw[Sm.cA]at a2;have hp:=a2.hd.1;have st:iZ R ⟨p+t.cost,b1,cs⟩=O ⟨p+t.cost+1,b1,cs⟩:=by show(R[p+t.cost]?).bind _=_;rw[hp];rfl
   have s1:=Ex.cons st<|.nil _;have g0:b1[0]?=O (x.v t):=by rw[<-v1];exact ZyH l1 aaE
   rw[show Lu R ⟨p+t.cost,b1,cs⟩=[x.v t]by show(((R[p+t.cost]?).bind λz=>z.tells b1)).toList=_;rw[hp];show(b1[0]?).toList=_;rw[g0];rfl]at s1;have e:=e1.lQ s1;have a3:=ha.app.2;rw[Ye,Sm.cA]at a3;refine jJ.lim (x1:=x.tell t) e (by show x.s+(t.cost:Int)+1=_;omega) aaD ?_;have:=ih r (x.tell t) (p+(t.cost+1)) b1 cs hr a3 (H.tell t) l1;rwa[show p+(t.cost+1)+r.ln=p+Ds.ln (.tell t r)by show _=p+(t.cost+1+r.ln);omega]at this
  | bM t a b r=>
   let⟨ht,C8,hfb,hr⟩:=hf;have a1:=ha.app.1;let⟨b1,e1,l1,v1,_⟩:=Hw H ht hb (dY _) a1.app.1.app.1.app.1.app.1;have a2:=a1.app.1.app.1.app.1.app.2;rw[Sm.cA]at a2;have s1:=Ex.one (cs:=cs) (bs:=b1) a2.hd.1 aaD aaD;have e:=e1.lQ s1;have pl:Row.place b1 (p+t.cost) (.qq 0<|p+t.cost+1+b.ln+1)=if 0<x.v t then p+t.cost+1+b.ln+1 else p+t.cost+1:=by show(if 0<b1.getD 0 0 then _ else _)=_;rw[v1]
   rw[pl]at e;have ab:=a1.app.1.app.1.app.2;rw[Ye,Sm.cA]at ab;have aj:=a1.app.1.app.2;rw[Ye,Ye,Sm.cA,Ds.cA]at aj;have aa:=a1.app.2;rw[Ye,Ye,Ye,Sm.cA,Ds.cA]at aa;have ar:=ha.app.2;rw[show(t.rr nc 0++[Row.qq 0<|p+t.cost+1+b.ln+1]++b.rr nc (p+t.cost+1)++[Row.pE<|p+t.cost+1+b.ln+1+a.ln]++a.rr nc (p+t.cost+1+b.ln+1)).length=t.cost+1+b.ln+1+a.ln by simp only[Ye,Sm.cA,Ds.cA,Yh,gw]]at ar;have er:∀y b2 c2,RelM nc L y c2->b9 b2=8->jJ R nc L m y ⟨p+t.cost+1+b.ln+1+a.ln,b2,c2⟩ (p+Ds.ln (.bM t a b r)) (bF m n r y):=λy b2 c2 h1 h2=>by have:=ih r y (p+(t.cost+1+b.ln+1+a.ln)) b2 c2 hr ar h1 h2;rwa[show p+(t.cost+1+b.ln+1+a.ln)+r.ln=p+Ds.ln (.bM t a b r)by show _=p+(t.cost+1+b.ln+1+a.ln+r.ln);omega,show p+(t.cost+1+b.ln+1+a.ln)=p+t.cost+1+b.ln+1+a.ln by omega]at this
   refine jJ.lim (x1:=x.sp<|(t.cost:Int)+1) (o:=[]) e (by show x.s+((t.cost:Int)+1)=_;omega) (by show x.o=x.o++[];rw[gJ]) ?_;by_cases z:0<x.v t
   .rw[f_ z,f_ z];exact jJ.on (ih a _ (p+t.cost+1+b.ln+1) b1 cs C8 (aa.at (by simp only[Yh,gw];omega)) (H.sp _) l1) er
   .rw[i6 z,i6 z];refine jJ.on (ih b _ (p+t.cost+1) b1 cs hfb ab (H.sp _) l1) λy b2 c2 h1 h2=>?_;have aj:=aj.at (q:=p+t.cost+1+b.ln) (by simp only[Yh,gw];omega);have s2:=Ex.one (cs:=c2) (bs:=b2) aj.hd.1 aaD aaD;exact jJ.lim (x1:=y.sp 1) (o:=[]) s2 aaD (by show y.o=y.o++[];rw[gJ])<|er _ b2 c2 (h1.sp 1) h2
  | ot t a r=>
   have JJ:=hf;have ha0:=ha;let⟨ht,C8,hr⟩:=hf;have a1:=ha.app.1;let⟨b1,e1,l1,v1,_⟩:=Hw H ht hb (dY _) a1.app.1.app.1.app.1;have a2:=a1.app.1.app.1.app.2;rw[Sm.cA]at a2;have s1:=Ex.one (cs:=cs) (bs:=b1) a2.hd.1 aaD aaD;have e:=e1.lQ s1;have pl:Row.place b1 (p+t.cost) (.qq 0<|p+t.cost+2)=if 0<x.v t then p+t.cost+2 else p+t.cost+1:=by show(if 0<b1.getD 0 0 then _ else _)=_;rw[v1]
   rw[pl]at e;have aa:=a1.app.1.app.2;rw[Ye,Sm.cA]at aa;have aj:=a1.app.2;rw[Ye,Ye,Sm.cA,Ds.cA]at aj;have ar:=ha.app.2;rw[show(t.rr nc 0++[Row.qq 0<|p+t.cost+2,Row.pE<|p+t.cost+2+a.ln+1]++a.rr nc (p+t.cost+2)++[Row.pE p]).length=t.cost+2+a.ln+1 by simp only[Ye,Sm.cA,Ds.cA,Yh,gw]]at ar;refine jJ.lim (x1:=x.sp<|(t.cost:Int)+1) (o:=[]) e (by show x.s+((t.cost:Int)+1)=_;omega) (by show x.o=x.o++[];rw[gJ]) ?_;by_cases z:0<x.v t
   .rw[f_ z,f_ z];refine jJ.on (ih a _ (p+t.cost+2) b1 cs C8 aa (H.sp _) l1) λy b2 c2 h1 h2=>?_;have aj:=aj.at (q:=p+t.cost+2+a.ln) (by simp only[Yh,gw];omega);have s2:=Ex.one (cs:=c2) (bs:=b2) aj.hd.1 aaD aaD;exact jJ.lim (x1:=y.sp 1) (o:=[]) s2 aaD (by show y.o=y.o++[];rw[gJ])<|ih (.ot t a r) _ p b2 c2 JJ ha0 (h1.sp 1) h2
   .rw[i6 z,i6 z];have s2:=Ex.one (cs:=cs) (bs:=b1) a2.hd.2.hd.1 aaD aaD;refine jJ.lim (x1:=x.sp<|(t.cost:Int)+1+1) (o:=[]) s2 (by show x.s+((t.cost:Int)+1+1)=x.s+((t.cost:Int)+1)+_;omega) (by show x.o=x.o++[];rw[gJ]) ?_;have:=ih r (x.sp<|(t.cost:Int)+1+1) (p+(t.cost+2+a.ln+1)) b1 cs hr ar (H.sp _) l1;rw[show p+(t.cost+2+a.ln+1)+r.ln=p+Ds.ln (.ot t a r)by show _=p+(t.cost+2+a.ln+1+r.ln);omega]at this;rwa[show(⟨Row.place b1 (p+t.cost+1)<|.pE<|p+t.cost+2+a.ln+1,Row.dj b1 cs<|.pE<|p+t.cost+2+a.ln+1,Row.cells b1 cs<|.pE<|p+t.cost+2+a.ln+1⟩:cj)=⟨p+(t.cost+2+a.ln+1),b1,cs⟩by show(⟨p+t.cost+2+a.ln+1,b1,cs⟩:cj)=_;congr 1;omega]
theorem T4{L:k9}:∀(t:Sm),t.good->(∀x,bj x=false-> .str x∈t.flat->x∈L)->t.all (· ∈L)
 | .num _,_,_=>trivial|.bW x,hg,h=>h x hg (Yp.mpr aaD)|.dw a,hg,h=>T4 a hg λx hx hm=>h x hx (Yk _ hm)|.two o a b,hg,h=>⟨T4 a hg.1 λx hx hm=>h x hx<|Yk _<|vJ _ hm,T4 b hg.2 λx hx hm=>h x hx<|Yk _<|lV _ hm⟩
def Hx{t:Sm}(ho:t.ok)(h:∀x,bj x=false-> .str x∈t.flat->x∈L):t.fits L:=⟨T4 t ho.1 h,by have:=TY t;have:=ho.2;omega⟩
theorem wZ{L:k9}:∀(ds:Ds) (xs:k9),ds.ok->(∀x∈ds.names xs,x∈L)->ds.fits L
 | .nil,_,_,_=>trivial|.set y t r,xs,ho,h=>⟨h y<|dX r _ y<|nP ho.1 _ xs Yv,Hx ho.2.1 λx hx hm=>h x<|dX r _ x<|nP hx _ xs<|Yk _ hm,wZ r _ ho.2.2 h⟩|.put t u r,xs,ho,h=>⟨Hx ho.1 λx hx hm=>h x<|dX r _ x<|uQ bj _ _ x<|nP hx _ xs hm,Hx ho.2.1 λx hx hm=>h x<|dX r _ x<|nP hx _ _ hm,wZ r _ ho.2.2 h⟩|.tell t r,xs,ho,h=>⟨Hx ho.1 λx hx hm=>h x<|dX r _ x<|nP hx _ xs hm,wZ r _ ho.2 h⟩
 | .bM t a b r,xs,ho,h=>⟨Hx ho.1 λx hx hm=>h x<|dX r _ x<|dX b _ x<|dX a _ x<|nP hx _ xs hm,wZ a _ ho.2.1 λx hx=>h x<|dX r _ x<|dX b _ x hx,wZ b _ ho.2.2.1 λx hx=>h x<|dX r _ x hx,wZ r _ ho.2.2.2 h⟩|.ot t a r,xs,ho,h=>⟨Hx ho.1 λx hx hm=>h x<|dX r _ x<|dX a _ x<|nP hx _ xs hm,wZ a _ ho.2.1 λx hx=>h x<|dX r _ x hx,wZ r _ ho.2.2 h⟩
def tG(nc:i4->Int):Nat->k9->List Row
 |_,[]=>[]|k,x::r=>.put 7 (nc x):: .set 7 k::tG nc (k+1) r
theorem Np(nc:i4->Int):∀(k:Nat) (tk:k9),b9 (tG nc k tk)=2*tk.length
 |_,[]=>rfl|k,x::r=>by simp only[tG,Yh,Np nc (k+1) r];omega
theorem Zuz(ck:l9):∀(k:Nat) (tk:k9),oZ ck k tk=(tG (jz ck) k tk).map dO
 |_,[]=>rfl|k,x::r=>by rw[oZ,Zuz ck (k+1) r];rfl
def tH(nc:i4->Int)(tk:k9)(ds:Ds):fV:=tG nc 0 tk++(ds.rr nc (2*b9 tk)++[.halt])
def ZxO(ck:l9)(tk:k9)(ds:Ds):D.U (Hi ck tk ds)=cZ (tH (jz ck) tk ds):=by unfold Hi tH cZ;have:=wW ck ds<|2*b9 tk;rw[show((2*b9 tk:Nat):Int)=2*(b9 tk:Int)by omega]at this;rw[this,Zuz,gK,gK,Y7];rfl
def Zpv(nc:i4->Int)(tk:k9)(ds:Ds):b9 (tH nc tk ds)=2*b9 tk+ds.ln+1:=by unfold tH;rw[Ye,Ye,Np,Ds.cA];rfl
theorem w5(nc:i4->Int)(om:Nat):∀(t:Sm) (b:Nat),b+t.nb<=7->∀r∈t.rr nc b,r.ok om
 | .num _,b,h,r,hr=>by have h:b+1<=7:=h;rw[Yp.mp hr];show b<8;omega|.bW _,b,h,r,hr=>by
  have h:b+1<=7:=h;rcases Yt.mp hr with e|e
  .rw[e];show 7<8;decide
  .rw[Yp.mp e];exact⟨c8,aaE⟩
 | .dw a,b,h,r,hr=>by
  have:=(zF a).1;have h:b+a.nb<=7:=h;rcases Yr.mp hr with e|e
  .exact w5 nc om a b h r e
  .rcases Yt.mp e with e|e
   .rw[e];exact⟨c8,c8,c8⟩
   .rw[Yp.mp e];exact⟨c8,c8⟩
 | .two o a c,b,h,r,hr=>by
  have h:b+gR a.nb (c.nb+1)<=7:=h;have q1:=O7 a.nb<|c.nb+1;have q2:=Wg a.nb<|c.nb+1;have q3:=(zF c).1;rcases Yr.mp hr with e|e
  .rcases Yr.mp e with e|e
   .exact w5 nc om a b c8 r e
   .exact w5 nc om c (b+1) c8 r e
  .rw[Yp.mp e]
   match o with
   |0=>exact⟨c8,c8,c8⟩|1=>exact⟨c8,c8,c8⟩|_+2=>exact⟨c8,c8,c8⟩
theorem w6{L:k9}(nc:i4->Int)(om:Nat):∀(d:Ds) (p:Nat),d.fits L->p+d.ln<om->∀r∈d.rr nc p,r.ok om
 | .nil,_,_,_,r,hr=>nomatch hr|.set y t rs,p,hf,hm,r,hr=>by
  have hm:p+(t.cost+2+rs.ln)<om:=hm;rcases Yr.mp hr with e|e
  .rcases Yr.mp e with e|e
   .exact w5 nc om t 0 (by have:=hf.2.1.2;omega) r e
   .rcases Yt.mp e with e|e
    .rw[e];show 7<8;decide
    .rw[Yp.mp e];exact⟨aaE,aaE⟩
  .exact w6 nc om rs _ hf.2.2 c8 r e
 | .put t u rs,p,hf,hm,r,hr=>by
  have hm:p+(t.cost+u.cost+2+rs.ln)<om:=hm;rcases Yr.mp hr with e|e
  .rcases Yr.mp e with e|e
   .rcases Yr.mp e with e|e
    .rcases Yr.mp e with e|e
     .exact w5 nc om t 0 (by have:=hf.1.2;omega) r e
     .rw[Yp.mp e];exact⟨aaE,aaE,aaE⟩
    .exact w5 nc om u 1 (by have:=hf.2.1.2;omega) r e
   .rw[Yp.mp e];exact⟨aaE,aaE⟩
  .exact w6 nc om rs _ hf.2.2 c8 r e
 | .tell t rs,p,hf,hm,r,hr=>by
  have hm:p+(t.cost+1+rs.ln)<om:=hm;rcases Yr.mp hr with e|e
  .rcases Yr.mp e with e|e
   .exact w5 nc om t 0 (by have:=hf.1.2;omega) r e
   .rw[Yp.mp e];show 0<8;decide
  .exact w6 nc om rs _ hf.2 c8 r e
 | .bM t a b rs,p,hf,hm,r,hr=>by
  have hm:p+(t.cost+1+b.ln+1+a.ln+rs.ln)<om:=hm;rcases Yr.mp hr with e|e
  .rcases Yr.mp e with e|e
   .rcases Yr.mp e with e|e
    .rcases Yr.mp e with e|e
     .rcases Yr.mp e with e|e
      .exact w5 nc om t 0 (by have:=hf.1.2;omega) r e
      .rw[Yp.mp e];exact⟨aaE,c8⟩
     .exact w6 nc om b _ hf.2.2.1 c8 r e
    .rw[Yp.mp e];show _<om;omega
   .exact w6 nc om a _ hf.2.1 c8 r e
  .exact w6 nc om rs _ hf.2.2.2 c8 r e
 | .ot t a rs,p,hf,hm,r,hr=>by
  have hm:p+(t.cost+2+a.ln+1+rs.ln)<om:=hm;rcases Yr.mp hr with e|e
  .rcases Yr.mp e with e|e
   .rcases Yr.mp e with e|e
    .rcases Yr.mp e with e|e
     .exact w5 nc om t 0 (by have:=hf.1.2;omega) r e
     .rcases Yt.mp e with e|e
      .rw[e];exact⟨aaE,c8⟩
      .rw[Yp.mp e];show _<om;omega
    .exact w6 nc om a _ hf.2.1 c8 r e
   .rw[Yp.mp e];show _<om;omega
  .exact w6 nc om rs _ hf.2.2 c8 r e
theorem Zsa(nc:i4->Int)(om:Nat):∀(tk:k9) (k:Nat),k+b9 tk<=7->∀r∈tG nc k tk,r.ok om
 |[],_,_,r,hr=>nomatch hr|x::tk,k,h,r,hr=>by
  rw[Yh]at h;rcases Yt.mp hr with e|e
  .rw[e];show 7<8;decide
  .rcases Yt.mp e with e|e
   .rw[e];exact⟨aaE,c8⟩
   .exact Zsa nc om tk (k+1) c8 r e
def Zvm(nc:i4->Int){ds:Ds}(ht:b9 tk<=6)(hf:ds.fits L):yw (tH nc tk ds):=by
 refine⟨λr hr=>?_,tG nc 0 tk++ds.rr nc (2*b9 tk),.halt,by unfold tH;rw[Y7],.inl aaD⟩;rw[Zpv];rcases Yr.mp hr with e|e
 .exact Zsa nc _ tk 0 c8 r e
 .rcases Yr.mp e with e|e
  .exact w6 nc _ ds _ hf c8 r e
  .rw[Yp.mp e];trivial
def ZrA{R:fV}{nc:i4->Int}{L:k9}(N:Nc nc L):∀(tk:k9) (gs:l8) (k p:Nat) (bs:l8) (cs:qv) (n:l9),b9 gs=b9 tk->(∀x∈tk,x∈L)->k+b9 tk<=6->b9 bs=8->(∀i,i<b9 tk->bs.getD (k+i) 0=gs.getD i 0)->lO R p (tG nc k tk)->RelM nc L ⟨n,[],[],0⟩ cs ->
  ∃sd vk,Ex R ⟨p,bs,cs⟩ (2*b9 tk) ⟨p+2*b9 tk,sd,vk⟩ []/\sd.length=8/\RelM nc L ⟨(zl tk gs).foldl (λacc q=>oI q.1 q.2 acc) n,[],[],0⟩ vk
 |[],gs,k,p,bs,cs,n,_,_,_,hb,_,_,H=>⟨bs,cs,.nil _,hb,H⟩|x::tk,[],_,_,_,_,_,h,_,_,_,_,_,_=>nomatch h|x::tk,g::gs,k,p,bs,cs,n,hg,hL,hk,hb,hv,ha,H=>by
  rw[Yh]at hk;have s1:=Ex.one (cs:=cs) (bs:=bs) ha.hd.1 aaD aaD;have s2:=Ex.one (cs:=cs) (bs:=bs.set 7<|nc x) ha.hd.2.hd.1 aaD aaD;have h0:=hv 0 j0;have ec:Row.cells (bs.set 7<|nc x) cs (.set 7 k)=iT cs (nc x) g:=by show iT cs ((bs.set 7<|nc x).getD 7 0) ((bs.set 7<|nc x).getD k 0)=_;rw[wX _ c8,wY _ c8,show bs.getD k 0=g from h0]
  rw[ec]at s2;have H1:RelM nc L ⟨oI (.inr x) (.int g) n,[],[],0⟩ (iT cs (nc x) g):=ZpF N H (hL x Yv) g;let⟨b2,c2,e2,l2,H2⟩:=ZrA N tk gs (k+1) (p+1+1) (bs.set 7<|nc x) (iT cs (nc x) g) (oI (.inr x) (.int g) n) (P0 hg) (λy hy=>hL y<|Yk _ hy) c8 (by rwa[jZ]) (λi hi=>by rw[wY _ c8];have:=hv (i+1) (by rw[Yh];omega);rwa[show k+1+i=k+(i+1)by omega]) ha.hd.2.hd.2 H1;refine⟨b2,c2,?_,l2,H2⟩;have:=(s1.lQ s2).lQ e2;rwa[show(x::tk).length=b9 tk+1 from rfl,show 2*(b9 tk+1)=1+1+2*b9 tk by omega,show p+(1+1+2*b9 tk)=p+1+1+2*b9 tk by omega]
def Agz(hn:L.Nodup):Nc (jz<|gF L) L:=by
 have key:∀x∈L,∃i:Nat,L[i]?=O x/\jz (gF L) x=2*(i:Int)+1:=λx hx=>by let⟨i,hi⟩:=List.mem_iff_getElem?.mp hx;exact⟨i,hi,Af6 hn hi⟩
 refine⟨λx hx=>?_,λx hx y hy e=>?_⟩
 .let⟨i,_,e⟩:=key x hx;exact⟨i,e⟩
 .let⟨i,hi,e1⟩:=key x hx;let⟨j,hj,e2⟩:=key y hy;have:i=j:=by rw[e1,e2]at e;omega
  subst this;rw[hi]at hj;exact Y9 hj
def Zx1(nc:i4->Int)(L:k9):RelM nc L ⟨[],[],[],0⟩ []:=⟨List.Pairwise.nil,λ_ _=>rfl,λ_=>rfl⟩
abbrev zG(gs:l8):l8:=gs++Yg (8-b9 gs) 0
def AgA(R:fV)(q:Nat)(m:Int)(s:cj):G7->Prop
 | .done y=>∃k sd vk o,Ex R s k ⟨q,sd,vk⟩ o/\y.s=(k:Int)/\y.o=o.map D.int|.over=>∃k s' o,Ex R s k s' o/\m<(k:Int)|.out=>True
def Zvc(N:Nc nc L){ds:Ds}(ht:b9 tk<=6)(hg:b9 gs=b9 tk)(hL:∀x∈tk,x∈L)(hf:ds.fits L)(m:Int)(n:Nat):
  AgA (tH nc tk ds) (2*b9 tk+ds.ln) m ⟨0,zG gs,[]⟩ (bF m n ds<|x7 tk gs):=by
 have a0:lO (tH nc tk ds) 0 (tG nc 0 tk):=⟨[],_,rfl,rfl⟩;have a1:lO (tH nc tk ds) (2*b9 tk) (ds.rr nc<|2*b9 tk):=⟨tG nc 0 tk,[.halt],rfl,Np ..⟩;let⟨b1,c1,e1,l1,H1⟩:=ZrA N tk gs 0 0 (zG gs) [] [] hg hL c8 oP (λi hi=>by rw[qz,vH,Y4 c8,<-vH]) a0<|Zx1 nc L;rw[qz]at e1;have H2:RelM nc L (x7 tk gs) c1:=⟨H1.rs,H1.nm,H1.cl⟩;have h:=Agy N (m:=m) n ds (x7 tk gs) (2*b9 tk) b1 c1 hf a1 H2 l1;have hs:(x7 tk gs).s=((2*b9 tk:Nat):Int):=by show 2*(b9 gs:Int)=_;rw[hg];omega
 cases e:bF m n ds (x7 tk gs)with
 |done y=>rw[e]at h;let⟨k,b2,c2,o,e2,h1,h2,_,_⟩:=h;exact⟨2*b9 tk+k,b2,c2,o,e1.lQ e2,by rw[h1,hs];omega,h2⟩|over=>rw[e]at h;let⟨k,s',o,e2,h1⟩:=h;exact⟨2*b9 tk+k,s',o,e1.lQ e2,by rw[hs]at h1;omega⟩|out=>trivial
abbrev T5(R:fV)(s:cj):pe:=(R[s.place]?).bind λx=>x.tells s.dj
def ZvS{s s':cj}{k:Nat}{o:l8}(e:Ex R s k s' o):∀j,∃pre,gk R (k+j) s=pre++gk R j s'/\pre.length=k/\pre.filterMap (T5 R)=o:=by
 induction e with
 |nil s=>intro j;exact⟨[],by rw[qz];rfl,rfl,rfl⟩|@cons s s1 s2 k o h t ih=>
  intro j;let⟨pre,e1,e2,e3⟩:=ih j;refine⟨s::pre,?_,by rw[Yh,e2],?_⟩
  .rw[show k+1+j=k+j+1 by omega,JQ _ h,e1];rfl
  .rw[<-e3];show List.filterMap (T5 R) (s::pre)=(T5 R s).toList++_;rw[O1];cases T5 R s<;>rfl
def Zvi{s:cj}(h:iZ R s=Yj):∀j,gk R j s=[s]
 |0=>rfl|j+1=>JR j h
theorem Ex.cut:∀(j:Nat) {s s':cj} {k:Nat} {o:l8},Ex R s k s' o->j<k->∃s1 s2 o1,Ex R s j s1 o1/\iZ R s1=O s2
 |0,s,s',k,o,e,h=>by
  cases e with
  |nil=>exact oz h (pG _)|cons h1 t=>exact⟨_,_,[],.nil _,h1⟩
 | j+1,s,s',k,o,e,h=>by
  cases e with
  |nil=>exact oz h (Wh _)|cons h1 t=>let⟨s1,s2,o1,e1,h2⟩:=Ex.cut j t<|Nat.lt_of_succ_lt_succ h;exact⟨s1,s2,_,.cons h1 e1,h2⟩
structure Drawn(roll:fV)(k:Nat)(s:cj):Prop where
 ok:s.ok roll
 rise:qL s.cells
 len:b9 s.cells<=k
theorem ZmQ{roll:fV}(R:yw roll):∀(k:Nat) (s:cj) (j:Nat),Good roll s->b9 s.cells<=j->∀(i:Nat) (x:cj),(gk roll k s)[i]?=O x->Drawn roll (j+i) x
 |0,s,j,g,hc,0,x,h=>by cases h;exact⟨⟨g.pl,g.bx⟩,g.rs,hc⟩|0,s,j,g,hc,i+1,x,h=>by cases h|k+1,s,j,g,hc,i,x,h=>by
  cases q:iZ roll s with
  |none=>
   rw[JR k q]at h;cases i with
   |zero=>cases h;exact⟨⟨g.pl,g.bx⟩,g.rs,hc⟩|succ i=>cases h
  | some s'=>
   rw[JQ k q]at h;cases i with
   |zero=>cases h;exact⟨⟨g.pl,g.bx⟩,g.rs,hc⟩|succ i=>let⟨g',l'⟩:=X5 R g q;have:=ZmQ R k s' (j+1) g' (Yx l'<|Ja hc) i x h;rwa[show j+(i+1)=j+1+i by exact iJ c8 c8]
theorem ZkD{roll:fV}:∀(k:Nat) (s:cj) (i:Nat) (x y:cj),(gk roll k s)[i]?=O x->(gk roll k s)[i+1]?=O y->iZ roll x=O y
 |0,s,i,x,y,_,h=>by cases h|k +1,s,i,x,y,h,h'=>by
  cases q:iZ roll s with
  |none=>rw[JR k q]at h';cases h'|some s'=>
   rw[JQ k q]at h h';cases i with
   | zero=>
    cases h
    have e:(gk roll k s')[0]?=O s':=by
     cases k with
     |zero=>rfl|succ k=>
      cases p:iZ roll s' with
      |none=>rw[JR k p];rfl|some zI=>rw[JQ k p];rfl
    rwa[q,<-e]
   |succ i=>exact ZkD k s' i x y h h'
def ZpA(s:cj)(M:c5):nu (Zu s) (Zu s) M= .ok (.bl false) M:=by
 have pu:([D.int (s.place:Int),bQ s.dj,dZ s.cells]).all (cP pz)=true:=by simp[XJ,ZsP,Zqd]
 simp only[Zu,nu,Jv,Jw,Aw,Jx,Jy,pu,O_,if_true,Zs4 pu,N0]
def Zxy{x:D}{k:Int}(h1:2<=k)(h2:k<=1000):J1 (.U [x]) (.int k) M= .ok (.U<|Yg k.toNat x) M:=(Zs7 x k).trans<|f_ ⟨rfl,h1,h2⟩
def Zxf{ds:Ds}(h:b9 gs=b9 tk)(hl:b9 tk<=6)(M:c5):Gq [fB tk ds,.U<|gs.map D.int] M= .ok (bQ<|zG gs) M:=by
 refine(iR (M':=M) (env:=[O<|fB tk ds,O<|.U<|gs.map D.int]) ?_).trans (Mt aaD);unfold Hk;refine(Zm<|jE (d:=.Z)<|jU aaD aaD<|refuse_eq (by rwa[Y3,Y3]) M).trans (dh ?_);refine Zg (M1:=M) (M2:=M) (a:=.U<|gs.map D.int) (b:=.U<|Yg (8-b9 gs)<|.int 0) aaD (Zg (M1:=M) (M2:=M) (a:=.U [.int 0]) (b:=.int<|8-(b9 gs:Int)) (cR xk aaD) (Zg (M1:=M) (M2:=M) (a:=.int 8) (b:=.int (b9 gs:Int)) aaD (eO aaD<|by rw[Ay,Y3]) aaD) ?_) ?_
 .rw[Zxy c8 c8,show(8-(b9 gs:Int)).toNat=8-b9 gs by omega]
 .rw[yq];refine(f_<|Yx (by rw[Y3,vI];omega:b9 (gs.map D.int)+b9 (Yg (8-b9 gs)<|D.int 0)<=900000) aaE).trans ?_;show R3.ok (D.U _) M= .ok (.U<|(gs++Yg (8-b9 gs) 0).map D.int) M;rw[gK,List.map_replicate]
abbrev foB:S3:=aQ bE (aP<|eC<|.bl false) cG
def ZpJ(hR:yw R){bs:l8}(hb:b9 bs=8){most:Nat}(hm:most<=2000)(hM:M[n]?=O (.L<|(gk R most ⟨0,bs,[]⟩).map Zu)):
  Sd [cZ R,bQ bs,.ref n] M= .ok (.bl true) M:=by
 have Lv:0<b9 R:=by let⟨q,x,e,_⟩:=hR.last;rw[e,Ye];simp
 have g0:Good R ⟨0,bs,[]⟩:=⟨Lv,hb,List.Pairwise.nil⟩;have dr:∀(i:Nat) (x:cj),(gk R most ⟨0,bs,[]⟩)[i]?=O x->Drawn R (0+i) x:=ZmQ hR most ⟨0,bs,[]⟩ 0 g0<|Yn _;have fo:=ZkD (roll:=R) most ⟨0,bs,[]⟩;have hd:=Zs2 R most ⟨0,bs,[]⟩;have i7:=VM R most ⟨0,bs,[]⟩;have oq:=Zxu R most ⟨0,bs,[]⟩;generalize AE:gk R most ⟨0,bs,[]⟩=ss at hM dr fo hd i7 oq;have hl0:0<b9 ss:=List.length_pos_iff.mpr oq;obtain⟨pre,l,pv⟩:∃pre l,ss=pre++[l]:=⟨ss.dropLast,ss.getLast oq,(MQ oq).symm⟩;have hi:∀(i:Nat) (x:cj),ss[i]?=O x->fK (ss.map Zu) (i:Int)=O (Zu x):=λi x h=>by rw[lH,lB,h];rfl
 have ns:∀(i:Nat) (x:cj),ss[i]?=O x->∀M,qP [cZ R,Zu x] M= .ok (JP<|iZ R x) M:=λi x h M=>by have d:=dr i x h;have Bi:i<b9 ss:=(Yd.mp h).1;exact ZiL R x M hR.rows d.ok d.rise.keys<|Yx d.len c8
 refine Rt.pure (G:=[]) (env:=[O<|cZ R,O<|bQ bs,My n,Yj]) ?_ aaD;rw[gJ];unfold HP;have hlr:aL a_ mT [O<|cZ R,O<|bQ bs,My n,Yj] M= .ok (.int (b9 ss:Int)) M:=eO aaD (by rw[kO hM,Y3]);have c0:jO gE (e2 nu kX<|Zr uF ny) [O<|cZ R,O<|bQ bs,My n,Yj] M= .ok (.bl false) M:=(yC (M1:=M)<|Zg hlr aaD<|iW c8).trans<|Zg (M1:=M) (M2:=M) (Zg aaD aaD<|jF hM<|hi 0 _ hd) (lJ aaD<|Zhu bs M)<|ZpA _ M;have ach:pU gI [O<|cZ R,O<|bQ bs,My n,Yj] M= .ok ⟨qJ 0<|b9 ss-1,Yj⟩ M:=by
  have e:e2 jD mr nN [O<|cZ R,O<|bQ bs,My n,Yj] M= .ok (.int<|(b9 ss:Int)-1) M:=Zg hlr aaD aaD;have q:(b9 ss:Int)-1<=1000000/\ -1000000<=(b9 ss:Int)-1:=by omega
  have p0:((b9 ss:Int)-1).toNat=b9 ss-1:=by omega
  simp only[pU,e,R3.bind,f_ q,p0]
 let⟨e',M',lp,x3,he3,Kb⟩:=U2 (it:=⟨qJ 0<|b9 ss-1,Yj⟩) (g:=bK 3) (body:=foB)
  (P:=λ_ env M'=>∃x3,env=[O<|cZ R,O<|bQ bs,My n,x3]/\M'=M)
  (qJ 0<|b9 ss-1) 0 [O<|cZ R,O<|bQ bs,My n,Yj] M ⟨Yj,rfl,rfl⟩ (λ_ _ _ _=>rfl)
  (λk d hd env M' ⟨x3,he,hmm⟩=>by
   let⟨rfl,lk⟩:=Zut hd;subst he hmm;have h1:k<b9 ss:=by omega
   have h2:k+1<b9 ss:=by omega
   have q1:ss[k]?=O ss[k]:=Y0 h1;have q2:ss[k+1]?=O ss[k+1]:=Y0 h2;have st:=fo k _ _ q1 q2;have e1:Zr qP iA [O<|cZ R,O<|bQ bs,My n,e5 (k:Int)] M'= .ok (Zu ss[k+1]) M':=by refine jU (M1:=M') (M2:=M') aaD (Zg aaD aaD<|jF hM<|hi k _ q1) ?_;rw[ns k _ q1 M',st];rfl
   have p0:e2 Zj (Zc 2) (e2 Zy (Zc 3) nN) [O<|cZ R,O<|bQ bs,My n,e5 (k:Int)] M'= .ok (Zu ss[k+1]) M':=Zg (b:=.int ((k+1:Nat):Int)) (M2:=M') aaD vb<|jF hM<|hi (k+1) _ q2;exact⟨_,_,_,rfl,jt (M':=M')<|Zg e1 p0<|ZpA _ M',_,rfl,rfl⟩)
 have lp':lF fw (bK 3) foB [O<|cZ R,O<|bQ bs,My n,Yj] M= .nx [O<|cZ R,O<|bQ bs,My n,x3] M:=by show(match pU _ _ M with| .ok it M1=>dF it _ _ it.items _ M1| .exc x M1=>.exc x M1| .bad=>.bad)=_;rw[ach];rwa[he3,Kb]at lp
 refine(Zm<|jt c0).trans ((Zm lp').trans<|dh ?_);have ui:ss[b9 pre]?=O l:=by rw[pv];simp
 have hlp:=(dr _ _ ui).ok.1;have en:=TV R pre l n M hlp (by rwa[<-pv]);cases hE:rW R l with
 |false=>exact XQ (di (a:=.bl false) (M1:=M) (jU aaD aaD<|by rw[en,hE]) aaD)|true=>refine(yC (M1:=M)<|di (a:=.bl true) (M1:=M) (jU aaD aaD<|by rw[en,hE]) aaD).trans ?_;have sf:iZ R l=Yj:=(JS hlp).mpr hE;have aci:e2 Zj (Zc 2) mI [O<|cZ R,O<|bQ bs,My n,x3] M= .ok (Zu l) M:=Zg (b:=.int<|-1) aaD aaD (jF hM (by rw[pv,gK];exact getD_last _ _));refine Zg (a:=.Z) (M1:=M) (jU (M1:=M) (M2:=M) aaD aci ?_) aaD aaD;rw[ns _ _ ui M,sf];rfl
def Zud{cs:k9}{b g:S3}{e:Zz}(h:b env M= .nx e M'):Bk cs b g env M= .nx e M':=by rw[Bk,h]
def ZtP{cs:k9}{b g:S3}{env e1:Zz}{M M' M2:c5}{x:X3}(h:b env M= .exc x M')(hc:cs.contains x.cls=true)(hg:g env M'= .nx e1 M2):Bk cs b g env M= .nx e1 M2:=by rw[Bk,h];simp only[hc,if_true,hg]
def ZpW{P G:D}(h:Ci [P,G,.int m] M= .ok (.U [.ref q,.int s]) M')(hq:b9 M<=q):Cj [P,G,.int m] M= .ok (.U [.ref q,.int s]) M':=by
 refine(iR (M':=M') (d:=.U [.ref q,.int s]) (env:=[O P,O G,e5 m,Yj]) ?_).trans ?_
 .unfold R9;refine(Zm<|bU aaD).trans ((Zm<|Zud<|bU ?_).trans<|dh aaD);show(cB _ _ M).bind _=_;rwa[qe (d:=[P,G,.int m]) (M':=M) aaD,R3.rm]
 .have hb:below (b9 M) (.U [.ref q,.int s])=false:=by
   show(decide (q<b9 M)&&_)=false;rw[pf c8];rfl
  rw[tidy,hb];rfl
def ZjG{P G:D}(h:dU (λ_=>True) M (Ci [P,G,.int m] M)):∃M',Cj [P,G,.int m] M= .ok .Z M':=by let⟨k,M1,e,_,hl,_⟩:=h;let⟨M2,t2,_⟩:=Tw M M1 .Z hl;refine⟨M2,(iR (M':=M1) (env:=[O P,O G,e5 m,Yj]) ?_).trans t2⟩;unfold R9;refine(Zm<|bU aaD).trans ((Zm<|ZtP (x:=⟨uV,.ref k⟩) (Zpe ?_) (show([ze]:k9).contains uV=true by decide)<|bU aaD).trans<|dh aaD);show(cB _ _ M).bind _=_;rwa[qe (d:=[P,G,.int m]) (M':=M) aaD,R3.rm]
def Znp(z:Int)(M:c5):Ck [.int z] M= .ok (.bl true) M:=by refine Rt.pure (G:=[]) (env:=[e5 z]) ?_ aaD;rw[gJ];exact dh<|(ul (M1:=M)<|di (a:=.int z) (M1:=M) aaD aaD).trans<|di (a:=.bl false) (M1:=M) (di (a:=.int z) (M1:=M) aaD aaD) aaD
abbrev LA:S3:=aQ (e1 jj<|Zr Ck ny) (aP<|eC<|.bl false) cG
theorem ZrZ{it:iD}{e0:oS}{M:c5}(zC:i8 it M=true):∀(o:l8) x,∃x',dF it (bK 1) LA (o.map D.int) [e0,x] M= .nx [e0,x'] M
 |[],x=>⟨x,by rw[rH,pW,f_ zC]⟩|z::o,x=>by let⟨x',e⟩:=ZrZ (e0:=e0) zC o<|e5 z;refine⟨x',?_⟩;have hb:LA [e0,e5 z] M= .nx [e0,e5 z] M:=jt<|di (a:=.bl true) (M1:=M) (lJ aaD<|Znp z M) aaD;rw[Y2,oH,f_ zC];simp only[bK,lW,lX,hb];exact e
def ZsR{k:Nat}{o:l8}(hk:M[k]?=O (.L<|o.map D.int)):R_ [.U [.ref k,.int s]] M= .ok (.bl true) M:=by
 refine Rt.pure (G:=[]) (env:=[O<|.U [.ref k,.int s],Yj]) ?_ aaD;rw[gJ];unfold HM;have so:jk .list (.ref k) M= .ok (.bl true) M:=by show(match rT .list (.ref k) M with|some b=>R3.ok (D.bl b) M|none=>R3.bad)=_;rw[Zxb,hk];rfl
 have AdT:∀(i:Int) (M:c5),nu (.int i) (.int i) M= .ok (.bl false) M:=λi M=>by show(match O (decide<|i=i)with|some r=>R3.ok (D.bl<|!r) M|none=>R3.bad)=_;rw[qc aaD];rfl
 have c:jO (e1 jj<|e1 (jk .tuple)<|Zc 0) (jO gz<|jO (e1 jj<|e1 (jk .list)<|e2 Zj (Zc 0) nL) fh) [O<|.U [.ref k,.int s],Yj] M= .ok (.bl false) M:=(yC (M1:=M)<|di (a:=.bl true) (M1:=M) aaD aaD).trans<|(yC (M1:=M)<|Zg (a:=.int 2) (b:=.int 2) (M1:=M) (M2:=M) aaD aaD<|AdT 2 M).trans<|(yC (M1:=M)<|di (a:=.bl true) (M1:=M) (di (a:=.ref k) (M1:=M) aaD so) aaD).trans<|di (a:=.bl true) (M1:=M) (lJ (a:=.int s) (M1:=M) aaD<|Znp s M) aaD;have zC:i8 ⟨o.map D.int,O k⟩ M=true:=qc hk;let⟨x',hl⟩:=ZrZ (e0:=O<|.U [.ref k,.int s]) zC o Yj;have hf:lF (g_<|e2 Zj (Zc 0) nL) (bK 1) LA [O<|.U [.ref k,.int s],Yj] M= .nx [O<|.U [.ref k,.int s],x'] M:=by show(match g_ _ _ M with| .ok it M1=>dF it _ _ it.items _ M1| .exc x M1=>.exc x M1| .bad=>.bad)=_;rw[show g_ (e2 Zj (Zc 0) nL) [O<|.U [.ref k,.int s],Yj] M= .ok ⟨o.map D.int,O k⟩ M by show(e2 _ _ _ _ M).bind _=_;rw[show e2 Zj (Zc 0) nL [O<|.U [.ref k,.int s],Yj] M= .ok (.ref k) M from rfl,R3.rm];show(match M[k]? with|some (.L ds)=>R3.ok (⟨ds,O k⟩:iD) M|_=>R3.bad)=_;rw[hk]];exact hl
 exact(Zm<|jt c).trans ((Zm hf).trans<|dh aaD)
def law_holds(ns:l8)(hl:b9 ns<=63):∃M',Zr2 [.cI<|ns.map D.int] []= .ok (.bl true) M':=by
 refine Rt.law (env:=[O<|SC ns,Yj,Yj,Yj,Yj,Yj,Yj]) ?_;unfold HQ;let⟨P,⟨tk,ds,ZjU,EE,tN,hf,hw,IX⟩,hP⟩:=Zqk hl [];subst ZjU
 let gs:=tD ns tk.length
 have Dh:b9 gs=b9 tk:=ZvH ..
 let L:=ds.names tk
 have hLn:L.Nodup:=names_nodup ds EE
 let nc:=jz<|gF L
 have N:Nc nc L:=Agz hLn;have yB:ds.fits L:=wZ ds tk hf.ok λx hx=>hx
 let R:=tH nc tk ds
 have hR:yw R:=Zvm nc tN yB;have LB:b9 (zG gs)=8:=by simp[zG];omega
 let s0:cj:=⟨0,zG gs,[]⟩
 let ss:=gk R 150 s0
 have AdU:KR [fB tk ds] []= .ok (cZ R) []:=by rw[Zqv tN EE hf.ok hf.nm c8 hf.dep [],ZxO]
 have Abg:∀M,Gq [fB tk ds,.U<|gs.map D.int] M= .ok (bQ<|zG gs) M:=λM=>Zxf Dh tN M;refine Rt.set (d:=fB tk ds) (M':=[]) (lJ aaD hP) ?_;have AgB:K1 [SC ns,fB tk ds] []= .ok (.U<|gs.map D.int) []:=ZtX hl (eO vb<|by rw[Ay,Y3]) c8;refine Rt.set (d:=.U<|gs.map D.int) (M':=[]) (jU aaD aaD AgB) ?_;refine Rt.set (d:=cZ R) (M':=[]) (lJ aaD AdU) ?_;have LD:=ZyW R hR (zG gs) 150 [] aaE LB;refine Rt.set (d:=.ref 0) (M':=[.L<|ss.map Zu]) (nA (M1:=[]) (M2:=[]) (M3:=[]) aaD (jU aaD aaD<|Abg []) aaD LD) ?_
 let M1:c5:=[.L<|ss.map Zu]
 have sh:M1[0]?=O (.L<|ss.map Zu):=rfl;refine Rt.skip (M':=M1) (di (a:=.bl true) (M1:=M1) (nA (M1:=M1) (M2:=M1) (M3:=M1) aaD (jU aaD aaD<|Abg M1) aaD<|ZpJ hR LB aaE sh) aaD) ?_;have g0:Good R s0:=⟨by show 0<b9 (tH nc tk ds);rw[Zpv];omega,LB,List.Pairwise.nil⟩;have vn:=VO hR 150 s0 g0;have hx0:(x7 tk gs).s=2*(b9 gs:Int):=rfl;have y6:∀m:Int,m<=1000->bF m 1002 ds (x7 tk gs)≠ .out:=λm hm=>Agu 1002 ds (x7 tk gs) (by rw[hx0];omega) aaE;have sim:=Zvc N tN Dh (λx hx=>dX ds tk x hx) yB 150 1002;cases zD:bF 150 1002 ds (x7 tk gs)with
 |out=>exact oz zD (y6 150 aaE)|over=>
  rw[zD]at sim;let⟨k,s',o,ex,hk⟩:=sim;let⟨s1,s2,o1,ex1,st⟩:=Ex.cut 150 ex c8;let⟨pre,e1,p0,e3⟩:=ZvS ex1 0;have AE:ss=pre++[s1]:=e1;have pv:s1.place<b9 R:=(vn s1 (by show s1∈ss;rw[AE];simp)).pl;have hE:rW R s1=false:=by
   cases q:rW R s1 with
   |false=>rfl|true=>rw[(JS pv).mpr q]at st;cases st
  have en:=TV R pre s1 0 M1 pv (by rwa[<-AE]);rw[hE]at en;let⟨M2,e4⟩:=ZjG<|(Lm Dh tN hf.ok hf.dep (m:=150) c8 (n:=1002) c8 (y6 _ c8) M1).2<|.inr zD;exact⟨M2,oK<|(eN (M':=M1)<|di (a:=.bl false) (M1:=M1) (jU aaD aaD en) aaD).trans<|dh<|Zg (a:=.Z) (M1:=M2) (nA (M1:=M1) (M2:=M1) (M3:=M1) aaD aaD aaD e4) aaD aaD⟩
 | done y=>
  rw[zD]at sim;let⟨k,b2,c2,o,ex,Ll,hyo⟩:=sim;have bd:=ZyM 1002 ds (x7 tk gs) y zD;have hk:k<=150:=by
   have:¬(150:Int)<y.s:=λz=>by have:=bd.ov 150 (by rw[hx0];omega) z;rw[show bF 150 1002 ds (x7 tk gs)=_ from zD]at this;cases this
   omega
  let sF:cj:=⟨2*b9 tk+ds.ln,b2,c2⟩
  have AdV:R[2*b9 tk+ds.ln]?=O .halt:=by show(tG nc 0 tk++(ds.rr nc (2*b9 tk)++[.halt]))[2*b9 tk+ds.ln]?=_;rw[<-Y7,xR (by rw[Ye,Np,Ds.cA];exact Yn _),Ye,Np,Ds.cA,Nat.sub_self];rfl
  have Abh:iZ R sF=Yj:=by show(R[2*b9 tk+ds.ln]?).bind _=_;rw[AdV];rfl
  let⟨pre,e1,p0,e3⟩:=ZvS ex<|150-k;have AE:ss=pre++[sF]:=by show gk R 150 s0=_;rw[show(150:Nat)=k+(150-k)by omega,e1,Zvi Abh]
  have A3:b9 ss=k+1:=by rw[AE,Ye,p0];rfl
  have pv:sF.place<b9 R:=(vn sF (by show sF∈ss;rw[AE];simp)).pl;have hE:rW R sF=true:=(JS pv).mp Abh;have en:=TV R pre sF 0 M1 pv (by rwa[<-AE]);rw[hE]at en;refine Rt.skip (M':=M1) (di (a:=.bl true) (M1:=M1) (jU aaD aaD en) aaD) ?_;refine Rt.set (d:=.int (k:Int)) (M':=M1) (Zg (a:=.int ((k+1:Nat):Int)) (M1:=M1) (eO aaD<|by rw[kO sh,Y3,A3]) aaD (by show R3.ok (D.int<|((k+1:Nat):Int)-1) M1=_;rw[show((k+1:Nat):Int)-1=(k:Int)by omega])) ?_;let⟨M7,q,e7,hq,BF,Zr0,o7⟩:=(Lm Dh tN hf.ok hf.dep (m:=(k:Int)) c8 (n:=1002) c8 (y6 _ c8) M1).1 (by have:=bd.le;omega) y<|bd.ok k c8;rw[Ll]at e7;rw[hyo]at hq;refine Rt.set (d:=.U [.ref q,.int (k:Int)]) (M':=M7) (nA (M1:=M1) (M2:=M1) (M3:=M1) aaD aaD aaD<|ZpW e7 BF) ?_;have h70:M7[0]?=O (.L<|ss.map Zu):=(o7 0 (by show 0<1;decide)).trans sh;have hqm:q<b9 M7:=(Yd.mp hq).1;have ht:=ZwX R ss 0 M7 hR.rows (λs hs=>⟨(vn s hs).pl,(vn s hs).bx⟩) c8 h70;have htm:XH R ss=o:=by show ss.dropLast.filterMap _=_;rw[AE,MZ];exact e3
  rw[htm]at ht
  let M8:c5:=M7++[.L<|o.map D.int,.L<|ss.dropLast.map Zu]
  have Zmf:M8[q]?=O (.L<|o.map D.int):=h_ hq _;have ZjQ:M8[b9 M7]?=O (.L<|o.map D.int):=cW M7 _ _;have LG:(o.map D.int).all (cP 50)=true:=nY.mpr λd hd=>by let⟨z,_,rfl⟩:=rJ.mp hd;rfl
  have oq:RK (.U [.ref q,.int (k:Int)]) (.U [.ref<|b9 M7,.int (k:Int)]) M8= .ok (.bl false) M8:=by show(match M8[q]?,M8[b9 M7]? with|some (.L x),O (.L z)=>if q=b9 M7 then R3.bad else RJ x z _ M8|_,_=>R3.bad)=_;rw[Zmf,ZjQ];refine(i6 (show¬q=b9 M7 by omega)).trans ?_;unfold RJ;rw[f_ ⟨LG,LG⟩,QR 50 _<|by simpa using LG];simp
  refine Rt.skip (M':=M8) ((yC (M1:=M7)<|di (a:=.bl true) (M1:=M7) (lJ aaD<|ZsR hq) aaD).trans<|Zg (M1:=M7) (M2:=M8) aaD (cR (Zk (jU aaD aaD ht) xk) aaD) oq) ?_;by_cases hk0:k=0
  .exact Rt.ret (M':=M8)<|XQ<|Zg aaD aaD<|mC c8
  .have hov:((k:Int)-1)<(x7 tk gs).s\/bF ((k:Int)-1) 1002 ds (x7 tk gs)= .over:=by
    by_cases z:(x7 tk gs).s<=(k:Int)-1
    .exact .inr<|bd.ov _ z c8
    .exact .inl c8
   let⟨M9,e9⟩:=ZjG<|(Lm Dh tN hf.ok hf.dep (m:=(k:Int)-1) c8 (n:=1002) c8 (y6 _ c8) M8).2 hov;exact Rt.ret (M':=M9)<|(yC (M1:=M8)<|Zg aaD aaD<|iW c8).trans<|Zg (a:=.Z) (M1:=M9) (nA (M1:=M8) (M2:=M8) (M3:=M8) aaD aaD vb e9) aaD aaD
end Law
set_option maxHeartbeats 3000000
namespace Law
open PySem PySem.Spec PyProof.Rows L2 L3
variable{P:l5->Prop}
def uZ(h:P []):∀us:l5,b9 us=0->P us:=λus e=>(OD e)▸h
def uS{n:Nat}(h:∀a us,b9 us=n->P (a::us))(us:l5)(e:b9 us=n+1):P us:=by
 cases us with
 |nil=>exact oz e (Nat.succ_ne_zero n).symm|cons a us=>exact h a us<|P0 e
variable{xa:ak}
def o9(h:∀a,P [a]):∀us:l5,b9 us=[xa].length->P us:=uS λa=>uZ<|h a
variable{xb:ak}
def lR(h:∀a b,P [a,b]):∀us:l5,b9 us=[xa,xb].length->P us:=uS λa=>uS λb=>uZ<|h a b
def mQ{xc:ak}(h:∀a b c,P [a,b,c]):∀us:l5,b9 us=[xa,xb,xc].length->P us:=uS λa=>uS λb=>uS λc=>uZ<|h a b c
def ub4{xc xd:ak}(h:∀a b c d,P [a,b,c,d]):∀us:l5,b9 us=[xa,xb,xc,xd].length->P us:=uS λa=>uS λb=>uS λc=>uS λd=>uZ<|h a b c d
def ub5{xc xd xe:ak}(h:∀a b c d e,P [a,b,c,d,e]):∀us:l5,b9 us=[xa,xb,xc,xd,xe].length->P us:=uS λa=>uS λb=>uS λc=>uS λd=>uS λe=>uZ<|h a b c d e
def kN(s:Ye1):ak:=match s with
 | .FunctionDef n _ _ _ _ _ _ _ _ _=>n|_=>Wt
def kE(P:Params)(x:ak)(t:Nat)(v:Yf):DictEntry:=⟨PyData.keyHash P x,.str x t,v⟩
def kC(n q:ak)(r t l k u:Nat):aJ:=⟨.type "code",Yj,.fields #[.str n t,.str q<|t+1,.str "/claim/cut.py"<|t+2,.int l 0,.int k 0,.int 0 0,.int 0 0,.int 3 0,.ref r,.bool true,.int 181 0,.ref<|r+1,.none,.ref<|r+2,.ref<|r+3,.ref<|r+4,.int u 0,.int l 0,.str "/claim/cut.py"<|u+1],#[]⟩
def kD(n q:ak)(r t l k u:Nat):aJ:=⟨.type "code",Yj,.fields #[.str n t,.str q<|t+1,.str "/claim/cut.py"<|t+2,.int l 0,.int k 0,.int 0 0,.int 0 0,.int 3 0,.ref r,.bool true,.int 181 0,.ref<|r+1,.none,.none,.none,.ref<|r+2,.int u 0,.int l 0,.str "/claim/cut.py"<|u+1],#[]⟩
def kF(s:Ye1)(n q:ak)(v m:Yf)(c:Nat):aJ:=⟨.type "function",Yj,.func<|Ik n q (nq s) (jq s) (Zq s) v .none .none m Yj (.ref c) .none,#[]⟩
def kU(s:Ye1)(r t l k u:Nat):aJ:=kC (kN s) (kN s) r t l k u
def kV(s:Ye1)(r t l k u:Nat):aJ:=kD (kN s) (kN s) r t l k u
def kG(s:Ye1)(m:Yf)(c:Nat):aJ:=kF s (kN s) (kN s) .none m c
def dz(K:vg)(f c:Nat)(s:Ye1)(n:ak)(m:Yf):Prop:=jn K dI n=O (O<|.ref f)/\K.lookup f=O (kF s n n .none m c)/\Oc K (.ref c) n=true/\Ij K (.ref f)=true
def dA{K:vg}{h:aF}{mg:ak->oo}(X:K.In h)(G:h.Ns dI mg){f c:Nat}{s:Ye1}{n:ak}{m:Yf}{ps:oB}(a:dz K f c s n m)(b:∀us:l5,b9 us=b9 ps->bindArgs (Ik n n (nq s) (jq s) (Zq s) .none .none .none m Yj (.ref c) .none) ⟨us,[]⟩=pure (ps.zip us)):cH K mg n s ps:=ZZ X G a.1 a.2.1 a.2.2.1 a.2.2.2<|Binds.all b
def zH(K:vg)(C f c:Nat)(s:Ye1)(n q:ak)(m:Yf):Prop:=gP K (.ref C) n=O (O<|.ref f)/\Dy K (.ref f)=true/\K.lookup f=O (kF s n q .none m c)/\Oc K (.ref c) q=true/\Ij K (.ref f)=true
def kT(x:ak)(a n b r t:Nat)(ZkH:l5):aJ:=⟨.type "type",Yj,.cls ⟨x,[.ref b],[.ref a,.ref b,.type "ValueError",.type "Exception",.type "BaseException",.type "object"],n,x,true,[],ZkH,false,Yj,false⟩,#[O<|.ref r,Yj,O<|.str x t,O<|.str x<|t+8,O<|.builtin "ValueError.__new__",O<|.bool true]⟩
def q_:Yf:=.str "stepledger.machine" 239
def kM1:Yf:=.str "stepledger.sums" 351
def uW:Yf:=.str "stepledger.meaning" 379
def T6:Yf:=.str "stepledger.texts" 493
def uX:Yf:=.str "stepledger.making" 544
def o_:Yf:=.str "law_stepledger_k74_whole_told_ahead" 655
def k3(P:Params):aJ:=⟨.type "dict",Yj,.dict #[kE P "__name__" 165<|.str "law_stepledger_k74_whole_told_ahead" 655,kE P "__doc__" 166 .none,kE P "__package__" 167 .none,kE P "__loader__" 168<|.builtin "__main__.__loader__#opaque",kE P "__spec__" 169 .none,kE P "__annotations__" 170<|.ref 6,kE P "__builtins__" 171<|.ref 4,kE P "__file__" 173<|.str "/claim/cut.py" 172,kE P "__cached__" 174 .none,kE P "LedgerError" 206<|.ref 24,kE P "BadGiven" 222<|.ref 37,kE P "Spent" 238<|.ref 49,kE P "first_state" 247<|.ref 58,kE P "next_state" 259<|.ref 65,kE P "next_place" 268<|.ref 72,kE P "next_boxes" 278<|.ref 79,kE P "worked" 287<|.ref 86,kE P "next_cells" 296<|.ref 93,kE P "with_box" 305<|.ref 100,kE P "cell_value" 313<|.ref 107,kE P "with_cell" 319<|.ref 112,kE P "run" 330<|.ref 120,kE P "told" 341<|.ref 127,kE P "ended" 350<|.ref 134,kE P "PARTS" 365<|.ref 135,kE P "sums_in" 371<|.ref 140,kE P "parts_of" 378<|.ref 147,kE P "Walk" 471<|.ref 211,kE P "meaning" 482<|.ref 223,kE P "refuse_bad_given" 490<|.ref 230,kE P "BOXES" 492<|.int 8 491,kE P "WORDS" 507<|.ref 231,kE P "text_rows" 515<|.ref 238,kE P "text_rows_of_deeds" 524<|.ref 245,kE P "text_rows_of_deed" 533<|.ref 252,kE P "names_of" 543<|.ref 259,kE P "NAME_BOX" 547<|.int 7 546,kE P "boxes_of" 555<|.ref 266,kE P "roll_of" 566<|.ref 273,kE P "name_cells" 576<|.ref 280,kE P "rows_to_name" 585<|.ref 287,kE P "rows_of_sum" 598<|.ref 294,kE P "double_row" 605<|.ref 301,kE P "rows_of_deeds" 616<|.ref 308,kE P "rows_of_deed" 626<|.ref 315,kE P "rows_of_when" 641<|.ref 322,kE P "rows_of_while" 654<|.ref 329,kE P "_law_draw" 666<|.ref 336,kE P "_law_word" 679<|.ref 343,kE P "_law_number" 687<|.ref 350,kE P "_law_sum" 700<|.ref 357,kE P "_law_closed" 710<|.ref 364,kE P "_law_opened" 725<|.ref 371,kE P "_law_deeds" 740<|.ref 378,kE P "_law_program" 746<|.ref 383,kE P "_law_given" 752<|.ref 388,kE P "_law_meaning" 762<|.ref 395,kE P "_law_whole" 769<|.ref 402,kE P "_law_shaped" 777<|.ref 409,kE P "_law_followed" 787<|.ref 416,kE P "law" 800<|.ref 423] 61,#[]⟩
def ZzL{l:PySem.W.OpenLaw}{w:aX}{K:vg}{h:aF}{mg:ak->oo}{fa f0 f1 f2 f3 f4 f5 Zr5 ZyG f8 Ze3 LH f11 f12 f13 f14 f15 f16 f17 f18 f19 f20 f21 f22 LI f24 f25 f26 f27 f28 f29 f30 f31 f32 f33 f34 f35 f36 f37 f38 f39 f40 f41 f42 f43 f44 f45 f46 f47 f48 f49 f50 f51:Ys}(X:K.In h)(G:h.Ns dI mg)(C8:mg "law" =O (.ref fa)){AgC AgD AgE AgF:qA}{AgG AgH:Array oo}{AgI AgJ AgK AgL Abi AgM AgN AgO AgP AgQ Abj AgR:Yf}{Adv AcL:jB}{aM:Ys}{t10:Ys}{AgS:Yf}{AdW:qA}{AgT:Nat}{AdX:Array oo}{AdE:jB}{t23:Ys}{AgU:Yf}{AdY:qA}{AgV:Nat}{AdZ:Array oo}{AdF:jB}{AaB:Ys}{AaC:Ys}{j9 iI fY:Ys}{AbC Acm Ac4:ClassData}{AbD AbE:ak}{Aaq:Ys}{AbF AbG:l5}{AbH AbI:Bool}{AbJ:oB}{AbK:Option Bool}{AbL AbM:qA}{AbN AbO AbP AbQ AbR:oo}{AbS:Yf}{Ug:Array DictEntry}{AbT:Nat}{AbU:Array oo}{Acn Aco:ak}{Aas:Ys}{Acp Acq:l5}{Acr Acs:Bool}{Acu:oB}{Acv:Option Bool}{Acw Acx:qA}{Acy Acz AcA AcB AcC:oo}{AcD:Yf}{Uu:Array DictEntry}{AcE:Nat}{AcF:Array oo}{Ac5 Ac6:ak}{AaD:Ys}{Ac7 Ac8:l5}{Ac9 Ada:Bool}{Adb:oB}{Adc:Option Bool}{Ade Adf:qA}{Adg Adh Adi Adj Adk:oo}{Adl:Yf}{UG:Array DictEntry}{Adm:Nat}{Adn:Array oo}{g0 g1 g2 g3 g4 g5 Zh8 g7 g8 ZjV g11 g12 g13 g14 g15 g16 g17 g18 g19 g20 g21 g22 g24 g25 g26 g27 g28 g29 g30 g31 g32 g33 g34 g35 g36 g37 g38 g39 g40 g41 g42 g43 g44 g45 g46 g47 g48 g49 g50 g51:Nat}{m0 m1 m2 Zjs AaF Aaw m6 AaG AaH ZiR m11 m12 m13 m14 m15 m16 m17 m18 m19 m20 m21 m22 m24 m25 m26 m27 m28 m29 m30 m31 m32 m33 m34 m35 m36 m37 m38 m39 m40 m41 m42 m43 m44 m45 m46 m47 m48 m49 m50 m51:Yf}(Aax:jn K dI "Walk" =O (O<|.ref aM))(AcX:Ih K aM Wt=true)(AcY:N7 K aM=true)(AcZ:Vj K aM=true)(Ac0:gP K (.ref aM) "__setattr__" =O (O<|.builtin "object.__setattr__"))(Ac1:N8 K aM=true)(Ac2:Ij K (.ref aM)=true)(AbV:gP K (.ref aM) "cells" =O Yj)(Ab2:gP K (.ref aM) "most" =O Yj)(AbW:gP K (.ref aM) "named" =O Yj)(Abs:gP K (.ref aM) "numbers" =O Yj)(AbX:gP K (.ref aM) "steps" =O Yj)(a0:dz K f0 g0 K3 "first_state" m0)(a1:dz K f1 g1 K5 "next_place" m1)(a2:dz K f2 g2 K7 "worked" m2)(a3:dz K f3 g3 K9 "with_box" Zjs)(a4:dz K f4 g4 K_ "cell_value" AaF)(a5:dz K f5 g5 K6 "next_boxes" Aaw)(a6:dz K Zr5 Zh8 La "with_cell" m6)(a7:dz K ZyG g7 K8 "next_cells" AaG)(a8:dz K f8 g8 K4 "next_state" AaH)(ZoX:dz K Ze3 ZjV Ld "ended" ZiR)(a10:jn K dI "run" =O (O<|.ref LH))(l10:K.lookup LH=O ⟨AgI,AgC,.func<|Ik "run" "run" (nq uJ) (jq uJ) (Zq uJ) (.ref t10) AgJ AgK AgL AgD Abi AgM,AgG⟩)(c10:Oc K Abi "run" =true)(k10:Ij K (.ref LH)=true)(d10:K.lookup t10=O ⟨AgS,AdW,.seq #[.int 400 AdE] AgT,AdX⟩)(a11:dz K f11 g11 Lb "told" m11)(a12:dz K f12 g12 Le "sums_in" m12)(a13:dz K f13 g13 Lf "parts_of" m13)(C9:zH K aM f14 g14 Sg "__init__" "Walk.__init__" m14)(De:zH K aM f15 g15 Sh "spend" "Walk.spend" m15)(Dx:zH K aM f16 g16 Mh "value_of" "Walk.value_of" m16)(DA:zH K aM f17 g17 Sq "is_above" "Walk.is_above" m17)(DB:zH K aM f18 g18 Mm "repeat" "Walk.repeat" m18)(DC:zH K aM f19 g19 Mj "do_deed" "Walk.do_deed" m19)(DD:zH K aM f20 g20 Ml "choose" "Walk.choose" m20)(DE:zH K aM f21 g21 Mi "go_through" "Walk.go_through" m21)(a22:dz K f22 g22 Lg "refuse_bad_given" m22)(a23:jn K dI "meaning" =O (O<|.ref LI))(l23:K.lookup LI=O ⟨AgN,AgE,.func<|Ik "meaning" "meaning" (nq uK) (jq uK) (Zq uK) (.ref t23) AgO AgP AgQ AgF Abj AgR,AgH⟩)(c23:Oc K Abj "meaning" =true)(k23:Ij K (.ref LI)=true)(d23:K.lookup t23=O ⟨AgU,AdY,.seq #[.int 400 AdF] AgV,AdZ⟩)(a24:dz K f24 g24 Gv "text_rows_of_deed" m24)(a25:dz K f25 g25 Gu "text_rows_of_deeds" m25)(a26:dz K f26 g26 Lh "text_rows" m26)(a27:dz K f27 g27 Li "names_of" m27)(a28:dz K f28 g28 Lj "boxes_of" m28)(a29:dz K f29 g29 Ln "name_cells" m29)(a30:dz K f30 g30 Lp "rows_to_name" m30)(a31:dz K f31 g31 Lr "double_row" m31)(a32:dz K f32 g32 Lq "rows_of_sum" m32)(a33:dz K f33 g33 Gz "rows_of_while" m33)(a34:dz K f34 g34 Gy "rows_of_when" m34)(a35:dz K f35 g35 Gx "rows_of_deed" m35)(a36:dz K f36 g36 Gw "rows_of_deeds" m36)(a37:dz K f37 g37 Lk "roll_of" m37)(a38:dz K f38 g38 Ls "_law_draw" m38)(a39:dz K f39 g39 Lw "_law_word" m39)(a40:dz K f40 g40 Lx "_law_number" m40)(a41:dz K f41 g41 Ly "_law_sum" m41)(a42:dz K f42 g42 Lz "_law_closed" m42)(a43:dz K f43 g43 LC "_law_opened" m43)(a44:dz K f44 g44 LK "_law_deeds" m44)(a45:dz K f45 g45 LQ "_law_program" m45)(a46:dz K f46 g46 LR "_law_given" m46)(a47:dz K f47 g47 L_ "_law_meaning" m47)(a48:dz K f48 g48 Ma "_law_whole" m48)(a49:dz K f49 g49 Mf "_law_shaped" m49)(a50:dz K f50 g50 Mg "_law_followed" m50)(EH:dz K f51 g51 wF "law" m51)(AdG:jn K dI "bool" =O Yj)(AdH:jn K dI "dict" =O Yj)(AcG:jn K dI "enumerate" =O Yj)(Ad0:jn K dI "int" =O Yj)(Acj:jn K dI "isinstance" =O Yj)(Ad1:jn K dI "len" =O Yj)(AdI:jn K dI "list" =O Yj)(Ad2:jn K dI "max" =O Yj)(Adw:jn K dI "range" =O Yj)(Adx:jn K dI "tuple" =O Yj)(Ad3:jn K dI "zip" =O Yj)(Dq:jn K dI "BOXES" =O (O<|.int 8 Adv))(uY:jn K dI "NAME_BOX" =O (O<|.int 7 AcL))(Ady:jn K dI "PARTS" =O (O<|.ref AaB))(AcH:Gj K AaB wC)(Ku:jn K dI "WORDS" =O (O<|.ref AaC))(AcI:Ko K (sJ.map λy=>(⟨pd y⟩:ak)) (.ref AaC)=true)(Abw:jn K dI "LedgerError" =O (O<|.ref j9))(Aar:jn K dI "BadGiven" =O (O<|.ref iI))(Aau:jn K dI "Spent" =O (O<|.ref fY))(AgY:Ob K j9=O AbC)(AgZ:Oa K (.ref j9)=O (.type "type"))(Ag0:Ii K (.ref j9) (.ref j9)=O true)(Ab3:Ob K iI=O Acm)(Ag8:Oa K (.ref iI)=O (.type "type"))(Ag9:Ii K (.ref iI) (.ref iI)=O true)(Aat:Ob K fY=O Ac4)(AcM:Oa K (.ref fY)=O (.type "type"))(Ahe:Ii K (.ref fY) (.ref fY)=O true)(Aae:K.lookup j9=O (Ir AbD AbE j9 Aaq AbF [.type "ValueError",.type "Exception",.type "BaseException",.type "object"] AbH AbJ AbG AbI AbK AbL AbN AbO AbP AbQ AbR "ValueError.__new__"))(Aaf:K.lookup Aaq=O ⟨AbS,AbM,.dict Ug AbT,AbU⟩)(Aag:Km Ug=true)(Aah:Iw Ug "__init__" =Yj)(Ab4:K.lookup iI=O (Ir Acn Aco iI Aas Acp [.ref j9,.type "ValueError",.type "Exception",.type "BaseException",.type "object"] Acr Acu Acq Acs Acv Acw Acy Acz AcA AcB AcC "ValueError.__new__"))(Ab5:K.lookup Aas=O ⟨AcD,Acx,.dict Uu AcE,AcF⟩)(Ab6:Km Uu=true)(Ab7:Iw Uu "__init__" =Yj)(AcN:K.lookup fY=O (Ir Ac5 Ac6 fY AaD Ac7 [.ref j9,.type "ValueError",.type "Exception",.type "BaseException",.type "object"] Ac9 Adb Ac8 Ada Adc Ade Adg Adh Adi Adj Adk "ValueError.__new__"))(AcO:K.lookup AaD=O ⟨Adl,Adf,.dict UG Adm,Adn⟩)(AcP:Km UG=true)(AcQ:Iw UG "__init__" =Yj)(Ab8:gP K (.ref iI) "__getattribute__" =O (O<|.builtin "BaseException.__getattribute__"))(Ab9:gP K (.ref iI) "__getattr__" =O Yj)(Aca:zQ K iI (.type "BaseException")=O true)(Acb:gP K (.ref iI) "__class__" =O (O<|.builtin "object.__class__"))(Acd:zQ K iI (.type "object")=O true)(AcR:gP K (.ref fY) "__getattribute__" =O (O<|.builtin "BaseException.__getattribute__"))(AcS:gP K (.ref fY) "__getattr__" =O Yj)(AcT:zQ K fY (.type "BaseException")=O true)(AcU:gP K (.ref fY) "__class__" =O (O<|.builtin "object.__class__"))(AcV:zQ K fY (.type "object")=O true)(AaN:Vk K (.builtin "object.__class__") "__get__" =O (O<|.builtin "getset_descriptor.__get__"))(AaO:Vm K (.builtin "object.__class__")=O true)(Abk:Ii K (.ref fY) (.type "BaseException")=O true)(Ace:Ii K (.ref fY) (.ref fY)=O true):
  ∃fd:mU,(∀(s:Yi) (v:Yf),DR s fd ⟨[v],[]⟩ [("script",v)])/\∀base:aF,K.In base->base.Ns dI mg->iM l.prog w K mg base l_ 34 fa fd A2 (uq K 1 Zr2):=by
 have e:=C8.symm.trans<|vf X G EH.1;cases e;have T:Txt K mg:=⟨trivial,rD X G AdG,rD X G AdH,rD X G AcG,rD X G Ad0,rD X G Acj,rD X G Ad1,rD X G AdI,rD X G Ad2,rD X G Adw,rD X G Adx,rD X G Ad3,⟨_,vf X G Dq⟩,⟨_,vf X G uY⟩,⟨_,vf X G Ady,AcH⟩,⟨_,vf X G Ku,AcI⟩⟩;have bB:Cm K mg aM:=⟨⟨by unfold L3.ClsAt;rwa[show(⟨(n4:i4).toArray⟩:ak)= "Walk" by decide +kernel],⟨AcX,AcY,AcZ,Ac0⟩,aaE⟩,vf X G Aax,by rwa[show nm AB= "cells" by decide +kernel],by rwa[show nm A1= "most" by decide +kernel],by rwa[show nm AA= "named" by decide +kernel],by rwa[show nm AD= "numbers" by decide +kernel],by rwa[show nm xE= "steps" by decide +kernel]⟩;have AcJ:ClsAt K D3 iI:=by unfold L3.ClsAt;rwa[show(⟨(D3:i4).toArray⟩:ak)= "BadGiven" by decide +kernel]
 have Ahd:nI K iI:=⟨Ab8,Ab9,Aca,by rw[Ab3];rfl,Acb,AaN,AaO,Acd⟩;have Aay:ClsAt K ze fY:=by unfold L3.ClsAt;rwa[show(⟨(ze:i4).toArray⟩:ak)= "Spent" by decide +kernel]
 have Ahg:nI K fY:=⟨AcR,AcS,AcT,by rw[Aat];rfl,AcU,AaN,AaO,AcV⟩;have XO:Ss K mg j9 iI fY:=⟨vf X G Abw,vf X G Aar,vf X G Aau,⟨AcJ,_,_,_,_,_,_,_,_,_,_,_,_,_,_,_,_,Ab4,λh Y=>⟨_,Rx Y Ab5 Ab6,Ab7⟩,λh Y=>.own (Y _ _ Aae) (Rx Y Aaf Aag) Aah<|.base⟩,⟨Aay,_,_,_,_,_,_,_,_,_,_,_,_,_,_,_,_,AcN,λh Y=>⟨_,Rx Y AcO AcP,AcQ⟩,λh Y=>.own (Y _ _ Aae) (Rx Y Aaf Aag) Aah<|.base⟩,(Zww (P:=λC=>Vn K (.ref C) (.ref fY)=O true) Aay (PySem.W.AfM Aat AcM Abk Ace) ZxV)⟩;have Ad4:cH K mg "run" uJ CH:=ZZ X G a10 l10 c10 k10 (λs us hK hl=>by rw[gJ]at hl |-;exact match us,hl with|[_,_,_],_=>Qb aaD (hK _ _ d10) aaD aaD aaD);have Abx:oR K aM "value_of" "Walk.value_of" Mh tF:=BR Dx.1 Dx.2.1 Dx.2.2.1 Dx.2.2.2.1 Dx.2.2.2.2<|Binds.all<|lR λ_ _=>rfl;have Acf:oR K aM "repeat" "Walk.repeat" Mm tT:=BR DB.1 DB.2.1 DB.2.2.1 DB.2.2.2.1 DB.2.2.2.2<|Binds.all<|lR λ_ _=>rfl;have AbY:oR K aM "do_deed" "Walk.do_deed" Mj tT:=BR DC.1 DC.2.1 DC.2.2.1 DC.2.2.2.1 DC.2.2.2.2<|Binds.all<|lR λ_ _=>rfl;have Acg:oR K aM "choose" "Walk.choose" Ml tT:=BR DD.1 DD.2.1 DD.2.2.1 DD.2.2.2.1 DD.2.2.2.2<|Binds.all<|lR λ_ _=>rfl;have Abp:oR K aM "go_through" "Walk.go_through" Mi zi:=BR DE.1 DE.2.1 DE.2.2.1 DE.2.2.2.1 DE.2.2.2.2<|Binds.all<|lR λ_ _=>rfl;have Ac3:cH K mg "meaning" uK CL:=ZZ X G a23 l23 c23 k23 (λs us hK hl=>by rw[gJ]at hl |-;exact match us,hl with|[_,_,_],_=>Qb aaD (hK _ _ d23) aaD aaD aaD);have Abn:cH K mg "text_rows_of_deed" Gv ["deed"]:=dA X G a24<|o9 λ_=>rfl;have Abm:cH K mg "text_rows_of_deeds" Gu CM:=dA X G a25<|o9 λ_=>rfl;have Aby:cH K mg "rows_of_while" Gz wx:=dA X G a33<|mQ λ_ _ _=>rfl;have AbZ:cH K mg "rows_of_when" Gy wx:=dA X G a34<|mQ λ_ _ _=>rfl;have Ab0:cH K mg "rows_of_deed" Gx wx:=dA X G a35<|mQ λ_ _ _=>rfl;have Abz:cH K mg "rows_of_deeds" Gw CY:=dA X G a36<|mQ λ_ _ _=>rfl;refine⟨Ik "law" "law" (nq wF) (jq wF) (Zq wF) .none .none .none m51 Yj (.ref g51) .none,λs v=>.of_eq aaD,λbase _ _=>?_⟩;have Dj:=Zmj l.prog w base (dA X G a0<|o9 λ_=>rfl) T;have Uk:=ZmI l.prog w base (dA X G a1<|mQ λ_ _ _=>rfl) T;have Dp:=ZtH l.prog w base (dA X G a2<|mQ λ_ _ _=>rfl) T
 have HB:=ZoJ l.prog w base (dA X G a3<|mQ λ_ _ _=>rfl) T;have Uj:=Zml l.prog w base (dA X G a4<|lR λ_ _=>rfl) T;have Ul:=ZmP l.prog w base (dA X G a5<|mQ λ_ _ _=>rfl) T Dp HB Uj;have Us:=Zou l.prog w base (dA X G a6<|mQ λ_ _ _=>rfl) T;have Um:=ZmD l.prog w base (dA X G a7<|mQ λ_ _ _=>rfl) T Us;have zK:=Zmy l.prog w base (dA X G a8<|lR λ_ _=>rfl) T Uk Ul Um;have u6:=Zwj l.prog w base (dA X G ZoX<|lR λ_ _=>rfl) T;have U6:=ZyZ l.prog w base Ad4 T Dj zK u6;have U4:=ZwZ l.prog w base (dA X G a11<|lR λ_ _=>rfl) T;have Uy:=ZqT l.prog w base (dA X G a12<|o9 λ_=>rfl) T;have Dm:=Zpu l.prog w base (dA X G a13<|o9 λ_=>rfl) T Uy;have Ub:=Zkr l.prog w base bB (Zw8 Ac1 Ac2 C9.1 C9.2.1 C9.2.2.1 C9.2.2.2.1 C9.2.2.2.2<|Binds.all<|mQ λ_ _ _=>rfl) T;have jA:=Zmo l.prog w base bB (BR De.1 De.2.1 De.2.2.1 De.2.2.2.1 De.2.2.2.2<|Binds.all<|lR λ_ _=>rfl) T XO;have Ahc:=jA.BW;have GG:=Zjq l.prog w base bB Dp Dm jA Abx T 13;have tK:=GG;have Ag1:=tK.BW;have Hy:=Zkb l.prog w base bB (BR DA.1 DA.2.1 DA.2.2.1 DA.2.2.2.1 DA.2.2.2.2<|Binds.all<|lR λ_ _=>rfl) T jA tK;have Ag2:=Hy.BW;have GG:=ZiD l.prog w base bB Hy jA tK Abp AbY Acg Acf T 13;let⟨Nr,Ab1,Ach,Aci⟩:=GG;have AgX:=Nr.BW;have Ag5:=Ab1.BW;have Aha:=Ach.BW;have Ahb:=Aci.BW;have Nq:=ZiE l.prog w base (dA X G a22<|lR λ_ _=>rfl) T XO;have T_:=Nq.fn;have Ny:=Zq3 l.prog w base Ac3 T bB Ub Nr jA Nq;have Ahf:=Ny.fn;have GG:=ZgQ l.prog w base Abm Abn T 13;let⟨T8,AgW⟩:=GG;have Ut:=Zn9 l.prog w base (dA X G a26<|o9 λ_=>rfl) T T8;have Uv:=ZoI l.prog w base (dA X G a27<|o9 λ_=>rfl) T Ut;have Nx:=ZpD l.prog w base (dA X G a28<|lR λ_ _=>rfl) T T_;have Uo:=ZmL l.prog w base (dA X G a29<|o9 λ_=>rfl) T Uv;have Di:=ZkU l.prog w base (dA X G a30<|mQ λ_ _ _=>rfl) T;have Dl:=ZmM l.prog w base (dA X G a31<|o9 λ_=>rfl) T;have xg:=Zmb l.prog w base (dA X G a32<|mQ λ_ _ _=>rfl) T Dm Dl;have GG:=Zjy l.prog w base Di xg Dl Abz Ab0 AbZ Aby T 13;let⟨Uc,Ag6,Ag7,Ag3⟩:=GG;have Uz:=Zrk l.prog w base (dA X G a37<|o9 λ_=>rfl) T Uo Di Uc;have je:=ZnY l.prog w base (dA X G a38<|lR λ_ _=>rfl) T;have zL:=Zom l.prog w base (dA X G a39<|lR λ_ _=>rfl) T je;have Dk:=Zmi l.prog w base (dA X G a40<|o9 λ_=>rfl) T;have zM:=ZpX l.prog w base (dA X G a41<|ub4 λ_ _ _ _=>rfl) T je Dk;have Nt:=Zl6 l.prog w base (dA X G a42<|lR λ_ _=>rfl) T;have Uh:=Zlz l.prog w base (dA X G a43<|ub5 λ_ _ _ _ _=>rfl) T je zL zM;have Uq:=ZmE l.prog w base (dA X G a44<|mQ λ_ _ _=>rfl) T je zM Nt Uh;have Ue:=ZkV l.prog w base (dA X G a45<|o9 λ_=>rfl) T je zL Uq;have Ur:=Zmt l.prog w base (dA X G a46<|lR λ_ _=>rfl) T je Dk;have Hz:=ZkX l.prog w base (dA X G a47<|mQ λ_ _ _=>rfl) T XO Ny;have Nu:=Zmm l.prog w base (dA X G a48<|o9 λ_=>rfl) T;have Ui:=Zlk l.prog w base (dA X G a49<|o9 λ_=>rfl) T Nu;have Ud:=Zki l.prog w base (dA X G a50<|mQ λ_ _ _=>rfl) T Dj zK u6;exact Zzr l.prog w base (TR (st:=wF) EH.2.1 EH.2.2.1 EH.2.2.2) T U6 U4 u6 Nx Uz Ue Ur Hz Ui Ud
def kK:Params->vg:=λP=>(nat_lit 2,⟨.none,Yj,.dict #[] 0,#[]⟩)::
 (nat_lit 3,k3 P)::
 (nat_lit 23,⟨.type "dict",Yj,.dict #[kE P "__module__" 196<|.str "stepledger.errors" 187,kE P "__firstlineno__" 200<|.int 2 199,kE P "__static_attributes__" 201<|.ref 22,kE P "__weakref__" 203<|.ref 25,kE P "__doc__" 204 .none] 3,#[]⟩)::
 (nat_lit 24,⟨.type "type",Yj,.cls ⟨"LedgerError",[.type "ValueError"],[.ref 24,.type "ValueError",.type "Exception",.type "BaseException",.type "object"],23,"LedgerError",true,[],[.ref 37,.ref 49],false,Yj,false⟩,#[O<|.ref 15,Yj,O<|.str "LedgerError" 189,O<|.str "LedgerError" 197,O<|.builtin "ValueError.__new__",O<|.bool true]⟩)::
 (nat_lit 36,⟨.type "dict",Yj,.dict #[kE P "__module__" 214<|.str "stepledger.errors" 187,kE P "__firstlineno__" 218<|.int 4 217,kE P "__static_attributes__" 219<|.ref 35,kE P "__doc__" 220 .none] 2,#[]⟩)::
 (nat_lit 37,kT "BadGiven" 37 36 24 28 207 [])::
 (nat_lit 48,⟨.type "dict",Yj,.dict #[kE P "__module__" 230<|.str "stepledger.errors" 187,kE P "__firstlineno__" 234<|.int 6 233,kE P "__static_attributes__" 235<|.ref 47,kE P "__doc__" 236 .none] 2,#[]⟩)::
 (nat_lit 49,kT "Spent" 49 48 24 40 223 [])::
 (nat_lit 57,kU K3 52 241 9 1 245)::
 (nat_lit 58,kG K3 q_ 57)::
 (nat_lit 64,kU K4 59 248 11 2 257)::
 (nat_lit 65,kG K4 q_ 64)::
 (nat_lit 71,kU K5 66 260 19 3 266)::
 (nat_lit 72,kG K5 q_ 71)::
 (nat_lit 78,kU K6 73 269 25 3 276)::
 (nat_lit 79,kG K6 q_ 78)::
 (nat_lit 85,kU K7 80 279 34 3 285)::
 (nat_lit 86,kG K7 q_ 85)::
 (nat_lit 92,kU K8 87 288 40 3 294)::
 (nat_lit 93,kG K8 q_ 92)::
 (nat_lit 99,kU K9 94 297 44 3 303)::
 (nat_lit 100,kG K9 q_ 99)::
 (nat_lit 106,kU K_ 101 306 46 2 311)::
 (nat_lit 107,kG K_ q_ 106)::
 (nat_lit 111,kV La 108 314 48 3 317)::
 (nat_lit 112,kG La q_ 111)::
 (nat_lit 113,⟨.type "tuple",Yj,.seq #[.int 400 320] 0,#[]⟩)::
 (nat_lit 119,kU uJ 114 321 53 3 328)::
 (nat_lit 120,kF uJ (kN uJ) (kN uJ) (.ref 113) q_ 119)::
 (nat_lit 126,kU Lb 121 331 58 2 339)::
 (nat_lit 127,kG Lb q_ 126)::
 (nat_lit 133,kU Ld 128 342 65 2 348)::
 (nat_lit 134,kG Ld q_ 133)::
 (nat_lit 135,⟨.type "dict",Yj,.dict #[kE P "add" 353<|.int 2 354,kE P "sub" 355<|.int 2 356,kE P "more" 357<|.int 2 358,kE P "cell" 359<|.int 1 360] 4,#[]⟩)::
 (nat_lit 139,kV Le 136 366 70 1 369)::
 (nat_lit 140,kG Le kM1 139)::
 (nat_lit 146,kU Lf 141 372 80 1 376)::
 (nat_lit 147,kG Lf kM1 146)::
 (nat_lit 160,kC "__init__" "Walk.__init__" 155 393 85 3 399)::
 (nat_lit 161,kF Sg "__init__" "Walk.__init__" .none uW 160)::
 (nat_lit 167,kC "spend" "Walk.spend" 162 402 92 2 407)::
 (nat_lit 168,kF Sh "spend" "Walk.spend" .none uW 167)::
 (nat_lit 172,kD "value_of" "Walk.value_of" 169 410 97 2 413)::
 (nat_lit 173,kF Mh "value_of" "Walk.value_of" .none uW 172)::
 (nat_lit 179,kC "is_above" "Walk.is_above" 174 416 111 2 422)::
 (nat_lit 180,kF Sq "is_above" "Walk.is_above" .none uW 179)::
 (nat_lit 186,kC "go_through" "Walk.go_through" 181 425 116 2 431)::
 (nat_lit 187,kF Mi "go_through" "Walk.go_through" .none uW 186)::
 (nat_lit 193,kC "do_deed" "Walk.do_deed" 188 434 120 2 440)::
 (nat_lit 194,kF Mj "do_deed" "Walk.do_deed" .none uW 193)::
 (nat_lit 200,kC "choose" "Walk.choose" 195 443 136 2 448)::
 (nat_lit 201,kF Ml "choose" "Walk.choose" .none uW 200)::
 (nat_lit 207,kC "repeat" "Walk.repeat" 202 451 143 2 456)::
 (nat_lit 208,kF Mm "repeat" "Walk.repeat" .none uW 207)::
 (nat_lit 210,⟨.type "dict",Yj,.dict #[kE P "__module__" 388<|.str "stepledger.meaning" 379,kE P "__firstlineno__" 392<|.int 83 391,kE P "__init__" 401<|.ref 161,kE P "spend" 409<|.ref 168,kE P "value_of" 415<|.ref 173,kE P "is_above" 424<|.ref 180,kE P "go_through" 433<|.ref 187,kE P "do_deed" 442<|.ref 194,kE P "choose" 450<|.ref 201,kE P "repeat" 458<|.ref 208,kE P "__static_attributes__" 464<|.ref 209,kE P "__dict__" 466<|.ref 212,kE P "__weakref__" 468<|.ref 213,kE P "__doc__" 469 .none] 4,#[]⟩)::
 (nat_lit 211,⟨.type "type",Yj,.cls ⟨"Walk",[.type "object"],[.ref 211,.type "object"],210,"Walk",true,[],[],false,Yj,false⟩,#[Yj,Yj,O<|.str "Walk" 381,O<|.str "Walk" 389,O<|.builtin "object.__new__",O<|.bool true]⟩)::
 (nat_lit 216,⟨.type "tuple",Yj,.seq #[.int 400 472] 0,#[]⟩)::
 (nat_lit 222,kU uK 217 473 148 3 480)::
 (nat_lit 223,kF uK (kN uK) (kN uK) (.ref 216) uW 222)::
 (nat_lit 229,kU Lg 224 483 154 2 488)::
 (nat_lit 230,kG Lg uW 229)::
 (nat_lit 231,⟨.type "tuple",Yj,.seq #[.str "take" 495,.str "set" 496,.str "put" 497,.str "tell" 498,.str "when" 499,.str "else" 500,.str "while" 501,.str "end" 502,.str "add" 503,.str "sub" 504,.str "more" 505,.str "cell" 506] 0,#[]⟩)::
 (nat_lit 237,kU Lh 232 508 160 1 513)::
 (nat_lit 238,kG Lh T6 237)::
 (nat_lit 244,kU Gu 239 516 163 1 522)::
 (nat_lit 245,kG Gu T6 244)::
 (nat_lit 251,kU Gv 246 525 168 1 531)::
 (nat_lit 252,kG Gv T6 251)::
 (nat_lit 258,kU Li 253 534 178 1 541)::
 (nat_lit 259,kG Li T6 258)::
 (nat_lit 265,kU Lj 260 548 187 2 553)::
 (nat_lit 266,kG Lj uX 265)::
 (nat_lit 272,kU Lk 267 556 190 1 564)::
 (nat_lit 273,kG Lk uX 272)::
 (nat_lit 279,kU Ln 274 567 197 1 574)::
 (nat_lit 280,kG Ln uX 279)::
 (nat_lit 286,kU Lp 281 577 202 3 583)::
 (nat_lit 287,kG Lp uX 286)::
 (nat_lit 293,kU Lq 288 586 204 3 596)::
 (nat_lit 294,kG Lq uX 293)::
 (nat_lit 300,kU Lr 295 599 216 1 603)::
 (nat_lit 301,kG Lr uX 300)::
 (nat_lit 307,kU Gw 302 606 218 3 614)::
 (nat_lit 308,kG Gw uX 307)::
 (nat_lit 314,kU Gx 309 617 223 3 624)::
 (nat_lit 315,kG Gx uX 314)::
 (nat_lit 321,kU Gy 316 627 234 3 639)::
 (nat_lit 322,kG Gy uX 321)::
 (nat_lit 328,kU Gz 323 642 242 3 652)::
 (nat_lit 329,kG Gz uX 328)::
 (nat_lit 335,kU Ls 330 657 249 2 664)::
 (nat_lit 336,kG Ls o_ 335)::
 (nat_lit 342,kU Lw 337 667 255 2 677)::
 (nat_lit 343,kG Lw o_ 342)::
 (nat_lit 349,kU Lx 344 680 266 1 685)::
 (nat_lit 350,kG Lx o_ 349)::
 (nat_lit 356,kU Ly 351 688 269 4 698)::
 (nat_lit 357,kG Ly o_ 356)::
 (nat_lit 363,kU Lz 358 701 287 2 708)::
 (nat_lit 364,kG Lz o_ 363)::
 (nat_lit 370,kU LC 365 711 297 5 723)::
 (nat_lit 371,kG LC o_ 370)::
 (nat_lit 377,kU LK 372 726 308 3 738)::
 (nat_lit 378,kG LK o_ 377)::
 (nat_lit 382,kV LQ 379 741 327 1 744)::
 (nat_lit 383,kG LQ o_ 382)::
 (nat_lit 387,kV LR 384 747 331 2 750)::
 (nat_lit 388,kG LR o_ 387)::
 (nat_lit 394,kU L_ 389 753 334 3 760)::
 (nat_lit 395,kG L_ o_ 394)::
 (nat_lit 401,kU Ma 396 763 341 1 767)::
 (nat_lit 402,kG Ma o_ 401)::
 (nat_lit 408,kU Mf 403 770 343 1 775)::
 (nat_lit 409,kG Mf o_ 408)::
 (nat_lit 415,kU Mg 410 778 350 3 785)::
 (nat_lit 416,kG Mg o_ 415)::
 (nat_lit 422,kU wF 417 788 357 1 798)::
 (nat_lit 423,kG wF o_ 422)::[]
open PySem.W
abbrev pP:Y8:=PySem.Challenge.pw_stepledger_k74_whole_told_ahead
def pQ:Y8:=view pP [1,2,3,5,6,7,8,9,10,11,12,13,15,16,18,19,20,22,24,25,27,28,29,30,31,33,34,35,36,37,38,39,40,41,42,43,45,46,47,48,49,50,51,52,53,54,55,56,57,58]
abbrev pL:oB:=["run","PARTS","meaning"]
abbrev pA:l6:=[2,3,23,24,36,37,48,49,57,58,64,65,71,72,78,79,85,86,92,93,99,100,106,107,111,112,113,119,120,126,127,133,134,135,139,140,146,147,160,161,167,168,172,173,179,180,186,187,193,194,200,201,207,208,210,211,216,222,223,229,230,231,237,238,244,245,251,252,258,259,265,266,272,273,279,280,286,287,293,294,300,301,307,308,314,315,321,322,328,329,335,336,342,343,349,350,356,357,363,364,370,371,377,378,382,383,387,388,394,395,401,402,408,409,415,416,422,423]
def pX(s:Yi):Bool:=xlAt pQ [] s&&recOk (RowW.records PySem.Challenge.rw_stepledger_k74_whole_told_ahead.row.toRowW) s
set_option maxHeartbeats 0
def hd0(w:aX):Cn pP pQ pL pX pA kK 2627 ⟨357,0,370,72⟩ (hW w false):=λos=>by kernel_rfl
def hd1(w:aX):Cn pP pQ pL pX pA kK 2627 ⟨357,0,370,72⟩ (hW w true):=λos=>by kernel_rfl
set_option maxHeartbeats 400000
end Law
open PySem PySem.W PyProof.Rows
set_option maxRecDepth 100000 in
set_option maxHeartbeats 0 in
theorem PySem.Challenge.cw_stepledger_k74_whole_told_ahead_holds : PySem.Challenge.rw_stepledger_k74_whole_told_ahead.Holds := by
 w_on
 refine holds_law aaH λsaid=>?_;refine holds_open (r:=PySem.Challenge.rw_stepledger_k74_whole_told_ahead.row) (q:=Law.pQ) (loose:=Law.pL) (Xt:=Law.pX) (XP:=XL Law.pQ []) (YP:=Hook.says<|kHook Law.kK Law.pA λ_=>by kernel_rfl) (L3.ZzK (N:=5378) aaD (λ_=>rfl) aaD aaD Law.hd0 Law.hd1) (Hook.of<|kHook Law.kK Law.pA λ_=>by kernel_rfl) (Hook.keeps _) (λs e=>xl_of s (Yba.mp e).1) XL.keeps (by rfl) (by rfl) (by rfl) (λs e=>recFacts_of (Yba.mp e).2) (by rfl) said aaH ⟨rfl,rfl,rfl,rfl,rfl,by decide +kernel⟩ ?hw ?hc
 case hw=>w_witness2
 k_fill
 refine L3.ZabV (l:=PySem.Challenge.rw_stepledger_k74_whole_told_ahead) (k:=34) (F:=Law.Zr2) aaD aaD ⟨rfl,aaE,aaE,rfl⟩ (λw h Y=>W.kIn_of Y) ?G Law.law_holds
 case G=>
  intro w mg fa h KX G BS;refine' Law.ZzL KX G BS ..
  all_goals try first|k_is|(refine⟨?_,?_,?_,?_,?_⟩<;>k_is)|(refine⟨?_,?_,?_,?_⟩<;>k_is)
  all_goals first|rfl|decide +kernel
